"""Modehand: an editor that is played like an instrument."""
