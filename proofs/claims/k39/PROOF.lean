import PyProof.Rows.All
import Wide.All
import OpenK.AllK
import Wide.FinOn
import Lean
import PyProof.EqAt
import PyProof.EqKinds
import PyProof.TupleCall
import PySem.Challenge.RW_modehand_k39_laid_blocks
-- CHANGE: your row's module here, as the last of these rows
set_option Elab.async false
set_option linter.all false
set_option maxRecDepth 100000
/-! THE HAND LAYER, for ints, bools, texts, own classes, LISTS and tuples (index, slices, in, append, pop ..), calls, loops. Paste it whole ahead of your own text; what your proof does not reach may be deleted. -/
namespace L2
open PySem PySem.Spec PyProof.Rows

abbrev Key := Sum Int Str
def keyIs : Key → Value → Bool
  | .inl k, v => Value.isInt k v
  | .inr x, v => Value.isStrOf x v
def keyH (w : World) : Key → Int
  | .inl k => hashInt k
  | .inr x => hashStr w x
theorem keyIs_shape : ∀ {k : Key} {v : Value}, keyIs k v = true → (∃ i t, k = Sum.inl i ∧ v = Value.int i t) ∨ (∃ x t, k = Sum.inr x ∧ v = Value.str x t)
  | .inl i, v, h => by
    obtain ⟨t, e⟩ := Value.isInt_shape (k := i) (v := v) h
    exact .inl ⟨i, t, rfl, e⟩
  | .inr x, v, h => by
    obtain ⟨t, e⟩ := Value.isStrOf_shape (x := x) (v := v) h
    exact .inr ⟨x, t, rfl, e⟩
theorem key_ll (a b : Int) : decide ((Sum.inl a : Key) = Sum.inl b) = (a == b) := by
  by_cases e : a = b
  · subst e; simp
  · have h : ¬ (Sum.inl a : Key) = Sum.inl b := fun q => e (Sum.inl.inj q)
    rw [decide_eq_false h]
    exact (beq_eq_false_iff_ne.mpr e).symm
theorem key_rr (a b : Str) : decide ((Sum.inr a : Key) = Sum.inr b) = decide (a = b) := by
  by_cases e : a = b
  · subst e; simp
  · have h : ¬ (Sum.inr a : Key) = Sum.inr b := fun q => e (Sum.inr.inj q)
    rw [decide_eq_false h, decide_eq_false e]
theorem key_lr (a : Int) (b : Str) : decide ((Sum.inl a : Key) = Sum.inr b) = false := decide_eq_false (fun q => nomatch q)
theorem key_rl (a : Str) (b : Int) : decide ((Sum.inr a : Key) = Sum.inl b) = false := decide_eq_false (fun q => nomatch q)

def mixKind (prog : Program) (w : World) : PySem.KeyKind prog w Key where
  is := keyIs
  hash := keyH w
  inj := fun v a b ha hb => by
    rcases keyIs_shape ha with ⟨i, t, rfl, rfl⟩ | ⟨x, t, rfl, rfl⟩
    · rcases keyIs_shape hb with ⟨j, u, rfl, e⟩ | ⟨y, u, rfl, e⟩
      · injection e with e1 _; rw [e1]
      · exact nomatch e
    · rcases keyIs_shape hb with ⟨j, u, rfl, e⟩ | ⟨y, u, rfl, e⟩
      · exact nomatch e
      · injection e with e1 _; rw [e1]
  byValue := fun k v h => by
    rcases keyIs_shape h with ⟨i, t, rfl, rfl⟩ | ⟨x, t, rfl, rfl⟩ <;> rfl
  pyHash := fun hv h => by
    rcases keyIs_shape hv with ⟨i, t, rfl, rfl⟩ | ⟨x, t, rfl, rfl⟩
    · exact wpAny_pyHash_int h
    · exact wpAny_pyHash_str h
  eqBool := fun hu hv h => by
    rcases keyIs_shape hu with ⟨i, t, rfl, rfl⟩ | ⟨x, t, rfl, rfl⟩
    · rcases keyIs_shape hv with ⟨j, u, rfl, rfl⟩ | ⟨y, u, rfl, rfl⟩
      · rw [key_ll] at h; exact wpAny_eqBool_int h
      · rw [key_lr] at h; exact SeqAt.EqAt.int_str i t y u _ _ _ _ h
    · rcases keyIs_shape hv with ⟨j, u, rfl, rfl⟩ | ⟨y, u, rfl, rfl⟩
      · rw [key_rl] at h; exact SeqAt.EqAt.str_int x t j u _ _ _ _ h
      · rw [key_rr] at h; exact wpAny_eqBool_str h
  «strs» := fun k x t v h => by
    rcases keyIs_shape h with ⟨i, u, rfl, e⟩ | ⟨y, u, rfl, e⟩
    · exact nomatch e
    · injection e with e1 _
      subst e1
      cases v <;> rfl

end L2

namespace L2
open PySem PySem.Spec PyProof.Rows

inductive V where
  | non | bl (b : Bool) | int (i : Int) | str (x : Str) | byt (b : Array UInt8) | flt (b : UInt64) | ref (a : Addr) | ty (n : String)
  deriving DecidableEq

def RelV : V → Value → Prop
  | .non, u => u = Value.none
  | .bl b, u => u = Value.bool b
  | .int i, u => ∃ t, u = Value.int i t
  | .str x, u => ∃ t, u = Value.str x t
  | .byt b, u => ∃ t, u = Value.bytes b t
  | .flt b, u => ∃ t, u = Value.float b t
  | .ref a, u => u = Value.ref a
  | .ty n, u => u = Value.type n

abbrev Vals : List V → List Value → Prop := Paired RelV
theorem Vals.length {xs : List V} {us : List Value} (r : Vals xs us) : xs.length = us.length := Paired.length r
theorem Vals.get : ∀ {xs : List V} {us : List Value} {i : Nat} {x : V}, Vals xs us → xs[i]? = some x → ∃ u, us[i]? = some u ∧ RelV x u
  | _, _, _, _, .nil, e => by simp at e
  | _, _, 0, _, .cons r _, e => by simp at e; subst e; exact ⟨_, rfl, r⟩
  | _, _, i + 1, x, .cons _ t, e => by
    obtain ⟨u, h1, h2⟩ := Vals.get (i := i) (x := x) t (by simpa using e)
    exact ⟨u, by simpa using h1, h2⟩
theorem Vals.set {x : V} {u : Value} (r : RelV x u) : ∀ {xs : List V} {us : List Value} (i : Nat), Vals xs us → Vals (xs.set i x) (us.set i u)
  | _, _, _, .nil => .nil
  | _, _, 0, .cons _ t => .cons r t
  | _, _, i + 1, .cons q t => .cons q (Vals.set r i t)
theorem Vals.append : ∀ {xs ys : List V} {us ws : List Value}, Vals xs us → Vals ys ws → Vals (xs ++ ys) (us ++ ws)
  | _, _, _, _, .nil, s => s
  | _, _, _, _, .cons r t, s => .cons r (Vals.append t s)
theorem Vals.take : ∀ {xs : List V} {us : List Value} (n : Nat), Vals xs us → Vals (xs.take n) (us.take n)
  | _, _, 0, _ => .nil
  | _, _, _ + 1, .nil => .nil
  | _, _, n + 1, .cons r t => .cons r (Vals.take n t)
theorem Vals.drop : ∀ {xs : List V} {us : List Value} (n : Nat), Vals xs us → Vals (xs.drop n) (us.drop n)
  | _, _, 0, r => r
  | _, _, _ + 1, .nil => .nil
  | _, _, n + 1, .cons _ t => Vals.drop n t
def RelO : Option V → Option Value → Prop
  | some v, some u => RelV v u
  | none, none => True
  | _, _ => False
def KV {κ : Type} : List (κ × V) → List (κ × Value) → Prop := Paired fun (p : κ × V) (q : κ × Value) => p.1 = q.1 ∧ RelV p.2 q.2

def kV : Key → V
  | .inl i => .int i
  | .inr x => .str x

inductive HO where
  /-- a list -/
  | lst (xs : List V)
  /-- a tuple (never changes) -/
  | tup (xs : List V)
  /-- a dict whose keys are ints and texts; one whose keys are tuples of ints and texts (the empty one is both) -/
  | dK (kvs : List (Key × V)) | dT (kvs : List (List Key × V))
  /-- a set of ints: its members, its size -/
  | set (S : Int → Bool) (n : Nat)
  /-- an instance of the class at C, its dict at dx, its attributes -/
  | ins (C dx : Addr) (fs : List (Str × V))
  /-- the dict of the instance at x -/
  | own (x : Addr)
  /-- the dict of an exception -/
  | xd (fs : List (Str × V))
  /-- a bound method, f of x -/
  | met (f x : Addr)
  /-- a range object lo, lo + 1, .. below hi -/
  | rng (lo hi : Int)
  /-- a thing that is known to the object (the script; a dict while a loop walks it): read, never written while it is so -/
  | frz (o : Obj) (u : HO)
  /-- a code object's table -/
  | tbl (ps : Array Value)
  /-- any other thing, by what is true of its one object (a def of one's own: SetO a S n := HO.ext fun h => ..) -/
  | ext (φ : Heap → Prop)

abbrev Hp := Addr → Option HO
def upd (H : Hp) (a : Addr) (o : HO) : Hp := fun b => if b = a then some o else H b
theorem upd_same {H : Hp} {a : Addr} {o : HO} : upd H a o a = some o := by unfold upd; rw [if_pos rfl]
theorem upd_ne {H : Hp} {a b : Addr} {o : HO} (h : b ≠ a) : upd H a o b = H b := by unfold upd; rw [if_neg h]
theorem ne_of {H : Hp} {a b : Addr} {o u : HO} (h : H a = some o) (h' : H b = some u) (d : o ≠ u) : a ≠ b := by
  intro e; subst e; rw [h] at h'; exact d (Option.some.inj h')
theorem ne_of_none {H : Hp} {a b : Addr} {o : HO} (h : H a = some o) (h' : H b = none) : a ≠ b := by
  intro e; subst e; rw [h] at h'; cases h'

section
variable (P : Program) (w : World)
def ObjOk (H : Hp) (h : Heap) (a : Addr) : HO → Prop
  | .lst xs => xs.length ≤ sizeLine ∧ ∃ (its : List Value) (n : Nat), Vals xs its ∧ h.get? a = some { cls := .type "list", data := .seq its.toArray n }
  | .tup xs => xs.length ≤ sizeLine ∧ ∃ its : List Value, Vals xs its ∧ IsTup h a its.toArray
  | .dK kvs => kvs.length ≤ sizeLine ∧ (a == sysModules) = false ∧ ∃ vs, KV kvs vs ∧ h.DictOf (mixKind P w) a vs
  | .dT kvs => kvs.length ≤ sizeLine ∧ (a == sysModules) = false ∧ ∃ xs : List (List Key × Addr × Value),
      Paired (fun (p : List Key × V) (q : List Key × Addr × Value) => p.1 = q.1 ∧ H q.2.1 = some (.tup (p.1.map kV)) ∧ RelV p.2 q.2.2) kvs xs ∧
      ∃ o es ep, h.get? a = some o ∧ o.ExactDict ∧ o.data = .dict es ep ∧ es.toList = xs.map (entryOfKey (tupleKind (mixKind P w))) ∧ (xs.map (·.1)).Nodup
  | .set S n => h.SetOf (intKind P w) a S n
  | .ins C dx fs => H dx = some (.own a) ∧ fs.length ≤ 1000 ∧ dx ≠ a ∧ h.get? a = some (PySem.W.instObj C dx) ∧
      ∃ mA, h.Ns1 dx mA ∧ (∀ f, RelO (fs.lookup f) (mA f)) ∧ PySem.Within mA (fs.map (·.1))
  | .own _ => ∃ o, h.get? a = some o
  | .xd fs => ∃ mA, h.Ns1 a mA ∧ ∀ f, RelO (fs.lookup f) (mA f)
  | .rng lo hi => ∃ t u v, h.get? a = some { cls := .type "range", data := .fields #[.int lo t, .int hi u, .int 1 v] }
  | .frz o u => h.get? a = some o ∧ ObjOk H h a u
  | .tbl ps => h.get? a = some { cls := .none, data := .fields ps }
  | .met f x => h.get? a = some (PySem.W.methodObj (.ref f) (.ref x))
  | .ext φ => φ h ∧ (∃ o, h.get? a = some o) ∧ ∀ h1 h2 : Heap, φ h1 → (∀ o, h1.get? a = some o → h2.get? a = some o) → φ h2
def HOk (H : Hp) (h : Heap) : Prop := ∀ a o, H a = some o → ObjOk P w H h a o
end

section
variable {P : Program} {w : World} {H H' : Hp} {h h' : Heap} {a : Addr} {o : HO}
theorem ObjOk.lt (x : ObjOk P w H h a o) : a < h.objs.size := by
  cases o with
  | lst xs => obtain ⟨_, _, _, _, e⟩ := x; exact Heap.lt_size e
  | tup xs => obtain ⟨_, _, _, p⟩ := x; exact p.lt
  | dK kvs => obtain ⟨_, _, _, _, o, _, _, e, _⟩ := x; exact Heap.lt_size e
  | dT kvs => obtain ⟨_, _, _, _, o, _, _, e, _⟩ := x; exact Heap.lt_size e
  | set S n => obtain ⟨o, _, _, _, e, _⟩ := x; exact Heap.lt_size e
  | ins C dx fs => obtain ⟨_, _, _, e, _⟩ := x; exact Heap.lt_size e
  | own y => obtain ⟨_, e⟩ := x; exact Heap.lt_size e
  | xd fs => obtain ⟨_, ⟨_, _, _, e, _⟩, _⟩ := x; exact Heap.lt_size e
  | rng lo hi => obtain ⟨_, _, _, e⟩ := x; exact Heap.lt_size e
  | frz ob u => obtain ⟨e, _⟩ := x; exact Heap.lt_size e
  | tbl ps => exact Heap.lt_size (show h.get? a = some _ from x)
  | met f y => exact Heap.lt_size (show h.get? a = some _ from x)
  | ext φ => obtain ⟨_, ⟨_, e⟩, _⟩ := x; exact Heap.lt_size e
theorem Paired.mapP {α β : Type} {F G : α → β → Prop} : ∀ {l₁ : List α} {l₂ : List β}, Paired F l₁ l₂ → (∀ a b, F a b → G a b) → Paired G l₁ l₂
  | _, _, .nil, _ => .nil
  | _, _, .cons r t, f => .cons (f _ _ r) (Paired.mapP t f)
theorem ObjOk.stay (x : ObjOk P w H h a o) (k : ∀ b u, (b = a ∨ H b = some (.own a)) → h.get? b = some u → h'.get? b = some u)
    (ho : ∀ b, H b = some (.own a) → H' b = some (.own a)) (ht : ∀ b xs, H b = some (.tup xs) → H' b = some (.tup xs)) : ObjOk P w H' h' a o := by
  induction o with
  | lst xs => obtain ⟨z, its, n, r, e⟩ := x; exact ⟨z, its, n, r, k _ _ (.inl rfl) e⟩
  | tup xs => obtain ⟨z, its, r, ob, e, c⟩ := x; exact ⟨z, its, r, ob, k _ _ (.inl rfl) e, c⟩
  | dK kvs => obtain ⟨z, y, vs, r, ob, es, ep, e, c⟩ := x; exact ⟨z, y, vs, r, ob, es, ep, k _ _ (.inl rfl) e, c⟩
  | dT kvs =>
    obtain ⟨z, y, xs, r, ob, es, ep, e, c⟩ := x
    exact ⟨z, y, xs, Paired.mapP r fun p q z => ⟨z.1, ht _ _ z.2.1, z.2.2⟩, ob, es, ep, k _ _ (.inl rfl) e, c⟩
  | set S n => obtain ⟨ob, es, ep, t, e, c⟩ := x; exact ⟨ob, es, ep, t, k _ _ (.inl rfl) e, c⟩
  | ins C dx fs =>
    obtain ⟨d, z, ne, e, mA, ⟨od, es, ep, e2, c⟩, r⟩ := x
    exact ⟨ho _ d, z, ne, k _ _ (.inl rfl) e, mA, ⟨od, es, ep, k _ _ (.inr d) e2, c⟩, r⟩
  | own y => obtain ⟨ob, e⟩ := x; exact ⟨ob, k _ _ (.inl rfl) e⟩
  | xd fs => obtain ⟨mA, ⟨od, es, ep, e, c⟩, r⟩ := x; exact ⟨mA, ⟨od, es, ep, k _ _ (.inl rfl) e, c⟩, r⟩
  | rng lo hi => obtain ⟨t, u, v, e⟩ := x; exact ⟨t, u, v, k _ _ (.inl rfl) e⟩
  | frz ob u ih => obtain ⟨e, q⟩ := x; exact ⟨k _ _ (.inl rfl) e, ih q⟩
  | tbl ps =>
    have e : h.get? a = some { cls := .none, data := .fields ps } := x
    show h'.get? a = some { cls := .none, data := .fields ps }
    exact k a _ (.inl rfl) e
  | met f y =>
    have e : h.get? a = some (PySem.W.methodObj (.ref f) (.ref y)) := x
    show h'.get? a = some (PySem.W.methodObj (.ref f) (.ref y))
    exact k a _ (.inl rfl) e
  | ext φ => obtain ⟨p, ⟨o, e⟩, st⟩ := x; exact ⟨st _ _ p fun o q => k _ _ (.inl rfl) q, ⟨o, k _ _ (.inl rfl) e⟩, st⟩
theorem HOk.lt (x : HOk P w H h) (e : H a = some o) : a < h.objs.size := (x a o e).lt
theorem HOk.fresh (x : HOk P w H h) (e : h.objs.size ≤ a) : H a = none := by
  cases q : H a with
  | none => rfl
  | some u => exact absurd (Nat.lt_of_lt_of_le (x.lt q) e) (Nat.lt_irrefl _)
theorem HOk.kept (x : HOk P w H h) (k : ∀ b u, h.get? b = some u → h'.get? b = some u) : HOk P w H h' := fun a o e =>
  (x a o e).stay (fun b u _ q => k b u q) (fun _ q => q) fun _ _ q => q
theorem HOk.laid (x : HOk P w H h) (k : ∀ b u, h.get? b = some u → h'.get? b = some u) (hp : h.objs.size ≤ a) (new : ObjOk P w (upd H a o) h' a o) : HOk P w (upd H a o) h' := fun b u e => by
  have hn := x.fresh hp
  by_cases hb : b = a
  · subst hb; rw [upd_same] at e; cases e; exact new
  · rw [upd_ne hb] at e
    exact (x b u e).stay (fun c v _ q => k c v q) (fun c q => by rw [upd_ne (ne_of_none q hn)]; exact q) fun c xs q => by rw [upd_ne (ne_of_none q hn)]; exact q
end

def Rd (H : Hp) (a : Addr) (u : HO) : Prop := H a = some u ∨ ∃ o, H a = some (.frz o u)
theorem Rd.ok {P : Program} {w : World} {H : Hp} {h : Heap} {a : Addr} {u : HO} (r : Rd H a u) (x : HOk P w H h) : ObjOk P w H h a u := by
  rcases r with r | ⟨o, r⟩
  · exact x a u r
  · obtain ⟨_, q⟩ := x a _ r
    exact q
def Mut : Option HO → Prop
  | some (.lst _) => True
  | some (.dK _) => True
  | some (.dT _) => True
  | some (.set _ _) => True
  | some (.ins _ _ _) => True
  | some (.ext _) => True
  | _ => False
section
variable {P : Program} {w : World} {H : Hp} {h h' : Heap} {x e : Addr} {o' : HO}
theorem HOk.write (ok : HOk P w H h) (mu : Mut (H x)) (he : e = x ∨ H e = some (.own x)) (k : ∀ b u, b ≠ e → h.get? b = some u → h'.get? b = some u) (heo : ∃ u, h'.get? e = some u)
    (new : ObjOk P w (upd H x o') h' x o') : HOk P w (upd H x o') h' := fun b u q => by
  have nown : ∀ c y, H c = some (.own y) → c ≠ x := fun c y r z => by subst z; rw [r] at mu; exact mu
  have ntup : ∀ c xs, H c = some (.tup xs) → c ≠ x := fun c xs r z => by subst z; rw [r] at mu; exact mu
  by_cases hb : b = x
  · subst hb; rw [upd_same] at q; cases q; exact new
  · rw [upd_ne hb] at q
    by_cases hbe : b = e
    · have q' : H b = some (.own x) := by
        rcases he with z | z
        · exact absurd (hbe.trans z) hb
        · rw [hbe]; exact z
      rw [q] at q'; cases q'
      obtain ⟨v, hv⟩ := heo
      exact ⟨v, by rw [hbe]; exact hv⟩
    · refine (ok b u q).stay (fun c v hc r => k c v ?_ r) (fun c r => by rw [upd_ne (nown c b r)]; exact r) fun c xs r => by rw [upd_ne (ntup c xs r)]; exact r
      rcases hc with rfl | hc
      · exact hbe
      · rintro rfl
        rcases he with z | z
        · exact nown c b hc z
        · rw [hc] at z; cases z; exact hb rfl
end

/-! ### kept unless tracked; of the frames at fs (the callers') the slots may change (an exception that passes writes there); of the records at ex (iterators) nothing is said -/
structure Un (fs ex : List Addr) (H H' : Hp) (h h' : Heap) : Prop where
  keep : ∀ b o, h.get? b = some o → H b = none → b ∉ fs → b ∉ ex → h'.get? b = some o
  slot : ∀ b o, h.get? b = some o → H b = none → b ∈ fs → b ∉ ex → ∃ sl, h'.get? b = some { o with slots := sl }
  free : ∀ b o, h.get? b = some o → H b = none → b ∉ ex → H' b = none
  there : ∀ b o, h.get? b = some o → b ∉ ex → ∃ o', h'.get? b = some o'
  tups : ∀ b xs, H b = some (.tup xs) → H' b = some (.tup xs)
  frzs : ∀ b o u, H b = some (.frz o u) → H' b = some (.frz o u)
  tbls : ∀ b ps, H b = some (.tbl ps) → ∃ more, H' b = some (.tbl (ps ++ more))
section
variable {fs fs' ex ex' : List Addr} {H H1 H2 : Hp} {h h1 h2 h' : Heap} {a x e : Addr} {o : HO}
theorem Un.any (u : Un fs ex H H1 h h1) {b : Addr} {ob : Obj} (q : h.get? b = some ob) (n : H b = none) (hx : b ∉ ex) : ∃ sl, h1.get? b = some { ob with slots := sl } := by
  by_cases hb : b ∈ fs
  · exact u.slot b ob q n hb hx
  · exact ⟨ob.slots, u.keep b ob q n hb hx⟩
theorem Un.kept (k : ∀ b u, h.get? b = some u → h'.get? b = some u) : Un fs ex H H h h' :=
  ⟨fun b ob q _ _ _ => k b ob q, fun b ob q _ _ _ => ⟨ob.slots, k b ob q⟩, fun _ _ _ n _ => n, fun b ob q _ => ⟨ob, k b ob q⟩, fun _ _ q => q, fun _ _ _ q => q, fun _ ps q => ⟨#[], by rw [q]; simp⟩⟩
theorem Un.refl : Un fs ex H H h h := Un.kept fun _ _ q => q
theorem Un.laid (k : ∀ b u, h.get? b = some u → h'.get? b = some u) (hp : h.objs.size ≤ a) (hn : H a = none) : Un fs ex H (upd H a o) h h' where
  keep := fun b u q _ _ _ => k b u q
  slot := fun b u q _ _ _ => ⟨u.slots, k b u q⟩
  free := fun b u q n _ => by rw [upd_ne (Nat.ne_of_lt (Nat.lt_of_lt_of_le (Heap.lt_size q) hp))]; exact n
  there := fun b u q _ => ⟨u, k b u q⟩
  tups := fun b xs q => by rw [upd_ne (ne_of_none q hn)]; exact q
  frzs := fun b u xs q => by rw [upd_ne (ne_of_none q hn)]; exact q
  tbls := fun b ps q => ⟨#[], by rw [upd_ne (ne_of_none q hn), q]; simp⟩
theorem Un.write (mu : Mut (H x)) (he : e = x ∨ H e = some (.own x)) (k : ∀ b u, b ≠ e → h.get? b = some u → h'.get? b = some u) (heo : ∃ u, h'.get? e = some u) : Un fs ex H (upd H x o) h h' := by
  have hx : ∀ b, H b = none → b ≠ x := fun b n z => by subst z; rw [n] at mu; exact mu
  have hb : ∀ b, H b = none → b ≠ e := fun b n z => by
    subst z
    rcases he with r | r
    · exact hx b n r
    · rw [n] at r; cases r
  have hm : ∀ b u, H b = some u → ¬ Mut (some u) → b ≠ x := fun b u q nm z => by subst z; rw [q] at mu; exact nm mu
  refine ⟨fun b u q n _ _ => k b u (hb b n) q, fun b u q n _ _ => ⟨u.slots, k b u (hb b n) q⟩, fun b u q n _ => by rw [upd_ne (hx b n)]; exact n, fun b u q _ => ?_,
    fun b xs q => by rw [upd_ne (hm b _ q fun z => z)]; exact q, fun b u xs q => by rw [upd_ne (hm b _ q fun z => z)]; exact q, fun b ps q => ⟨#[], by rw [upd_ne (hm b _ q fun z => z), q]; simp⟩⟩
  by_cases hbe : b = e
  · subst hbe; exact heo
  · exact ⟨u, k b u hbe q⟩
end

/-! ### the heap without what is tracked -/
def trk (h : Heap) (H : Hp) : List Addr := (List.range h.objs.size).filter fun a => (H a).isSome
def hidT (h : Heap) (H : Hp) : Heap := PySem.W.hideAll h (trk h H)
theorem hidT_size (h : Heap) (H : Hp) : (hidT h H).objs.size = h.objs.size := PySem.W.hideAll_size _ _
theorem hidT_get {h : Heap} {H : Hp} {b : Addr} {o : Obj} (e : h.get? b = some o) (n : H b = none) : (hidT h H).get? b = some o :=
  PySem.W.hideAll_get _ e fun hm => by
    have q : (H b).isSome = true := (List.mem_filter.mp hm).2
    rw [n] at q; simp at q
theorem of_hidT {h : Heap} {H : Hp} {b : Addr} {o : Obj} (e : (hidT h H).get? b = some o) : h.get? b = some o ∧ H b = none := by
  have e' : h.get? b = some o := PySem.W.of_hideAll (trk h H) e
  refine ⟨e', ?_⟩
  cases q : H b with
  | none => rfl
  | some x =>
    have hm : b ∈ trk h H := List.mem_filter.mpr ⟨List.mem_range.mpr (Heap.lt_size e'), by simp [q]⟩
    have z : (hidT h H).get? b = none := PySem.W.hideAll_none (trk h H) hm
    rw [z] at e; cases e

/-! ### OpenK's ledger, filled with every new object but one -/
end L2

namespace L2
open PySem PySem.Spec PyProof.Rows

structure Mod (K : PySem.W.Frag) (mg : Str → Option Value) (base : Heap) : Prop where
  kin : K.In base
  glob : base.Ns mainGlobals mg
  blt : ∃ mb, base.Ns builtinsNs mb ∧ ∀ x : Str, x ≠ "__name__" → mb x = bootBuiltins x
  nolimit : base.NoLimit

structure Cx where
  prog : Program
  w : World
  K : PySem.W.Frag
  mg : Str → Option Value
  base : Heap
  A : Around
  N : List Str
  s₀ : Shared
  H₀ : Hp
  env : Env
  outer : List Env
  stack : List Env
  ex : List Addr
  fn : Str → Bool
  calm : Bool
  pn : List (Addr × Obj)
  xe : Value → Shared → Prop
def frs (l : List Env) : List Addr := l.filterMap (·.frame)
abbrev Cx.fs (X : Cx) : List Addr := frs X.outer

def Vis (sc : Scope) (x : Str) : Prop := sc.names.lookup x = some .local ∨ sc.names.lookup x = some .cell ∨ sc.names.lookup x = some .free
def Loc (sc : Scope) (x : Str) : Prop := sc.names.lookup x = some .local ∨ sc.names.lookup x = some .cell
def Look (env : Env) (h : Heap) (m : Str → Option Value) (x : Str) (u : Value) : Prop :=
  (env.kindOf x = some .local ∧ m x = some u) ∨ ((env.kindOf x = some .cell ∨ env.kindOf x = some .free) ∧ ∃ c, env.cells.lookup x = some c ∧ h.IsCell c (some u))

structure Cx.Ok (X : Cx) : Prop where
  mod : Mod X.K X.mg X.base
  kind : X.env.scope.kind = .function
  glob : X.env.globals = mainGlobals
  blt : X.env.builtins = builtinsNs
  above : X.s₀.heap.objs.size ≤ X.env.locals
  inj : ∀ x y c, X.env.cells.lookup x = some c → X.env.cells.lookup y = some c → x = y
  has : ∀ x, (X.env.kindOf x = some .cell ∨ X.env.kindOf x = some .free) → ∃ c, X.env.cells.lookup x = some c
  cab : ∀ x c, X.fn x = true → X.env.cells.lookup x = some c → X.s₀.heap.objs.size ≤ c
  hd : X.calm = true → X.A.handled = none
  frames : X.A.frames = some X.stack
  stk : X.stack = X.outer ∨ (X.stack = X.env :: X.outer ∧ X.env.frame = some X.env.locals)
  exf : ∀ b ∈ X.ex, b ≠ X.env.locals ∧ ∀ x c, X.env.cells.lookup x = some c → c ≠ b
  bs : ∀ b o, X.base.get? b = some o → X.s₀.heap.get? b = some o ∧ X.H₀ b = none
  bsz : X.base.objs.size ≤ X.s₀.heap.objs.size
  noex : ∀ b o, X.base.get? b = some o → b ∉ X.ex
  exfs : ∀ b ∈ X.ex, b ∉ X.fs
  funs : X.s₀.heap.FunFrames X.base X.outer
  frf : ∀ b ∈ X.fs, X.H₀ b = none

structure Inv (X : Cx) (pins : List (Addr × Obj)) (σ : List (Option V)) (H : Hp) (s : Shared) : Prop where
  ok : X.Ok
  os : s.os = X.s₀.os
  bare : AllBare s.gens
  base : Un X.fs X.ex X.H₀ H X.s₀.heap s.heap
  loc : ∃ m, s.heap.Ns X.env.locals m ∧ ∀ (i : Nat) (x : Str) (v : V), X.N[i]? = some x → σ[i]? = some (some v) → Vis X.env.scope x → ∃ u, RelV v u ∧ Look X.env s.heap m x u
  cell : ∀ x c, X.env.cells.lookup x = some c → ∃ v, s.heap.IsCell c v
  free : H X.env.locals = none
  freeC : ∀ x c, X.env.cells.lookup x = some c → H c = none
  pin : ∀ p ∈ X.pn ++ pins, s.heap.get? p.1 = some p.2 ∧ H p.1 = none ∧ p.1 ≠ X.env.locals ∧ p.1 ∉ X.fs ∧ ∀ v, p.2.data ≠ .cell v
  hok : HOk X.prog X.w H s.heap
  len : σ.length = X.N.length

section
variable {X : Cx} {pins : List (Addr × Obj)} {σ : List (Option V)} {H H' : Hp} {s : Shared} {h' : Heap}

theorem Cx.Ok.nofr (ok : X.Ok) {b : Addr} {o : Obj} (e : X.base.get? b = some o) : b ∉ X.fs := fun hb => by
  have := (ok.funs.mem hb).1
  rw [e] at this; cases this
theorem Inv.bs (I : Inv X pins σ H s) : ∀ b o, X.base.get? b = some o → s.heap.get? b = some o ∧ H b = none := fun b o e =>
  ⟨I.base.keep b o (I.ok.bs b o e).1 (I.ok.bs b o e).2 (I.ok.nofr e) (I.ok.noex b o e), I.base.free b o (I.ok.bs b o e).1 (I.ok.bs b o e).2 (I.ok.noex b o e)⟩
theorem Inv.bk (I : Inv X pins σ H s) : ∀ b o, X.base.get? b = some o → s.heap.get? b = some o := fun b o e => (I.bs b o e).1
theorem Inv.mod (I : Inv X pins σ H s) : Mod X.K X.mg X.base := I.ok.mod
theorem Inv.kIn (I : Inv X pins σ H s) : X.K.In s.heap := I.ok.mod.kin.keeps I.bk
theorem Inv.lt (I : Inv X pins σ H s) : X.env.locals < s.heap.objs.size := let ⟨_, hn, _⟩ := I.loc; hn.lt
theorem Inv.sz (I : Inv X pins σ H s) : X.s₀.heap.objs.size ≤ s.heap.objs.size := Nat.le_trans I.ok.above (Nat.le_of_lt I.lt)
theorem Inv.nofs (I : Inv X pins σ H s) {a : Addr} (h : s.heap.objs.size ≤ a) : a ∉ X.fs := fun hb => by
  obtain ⟨_, o, ho, _⟩ := I.ok.funs.mem hb
  exact absurd (Nat.lt_of_lt_of_le (Heap.lt_size ho) (Nat.le_trans I.sz h)) (Nat.lt_irrefl _)
theorem Inv.cne (I : Inv X pins σ H s) : ∀ x c, X.env.cells.lookup x = some c → c ≠ X.env.locals := fun x c e z => by
  obtain ⟨v, o, ho, hd⟩ := I.cell x c e
  obtain ⟨m, ⟨o', es, ep, ho', hd', _⟩, _⟩ := I.loc
  rw [z, ho'] at ho; cases ho; rw [hd'] at hd; cases hd
theorem Inv.funs (I : Inv X pins σ H s) : s.heap.FunFrames X.base X.outer := by
  have all : ∀ (l : List Env), (∀ b ∈ frs l, b ∈ X.fs) → X.s₀.heap.FunFrames X.base l → s.heap.FunFrames X.base l := by
    intro l
    induction l with
    | nil => intro _ _; trivial
    | cons env r ih =>
      intro hs hl
      obtain ⟨hk, ⟨L, o, hf, hn, ho, hd⟩, hr⟩ := hl
      have hL : L ∈ X.fs := hs L (by unfold frs; rw [List.filterMap_cons, hf]; exact List.mem_cons_self)
      obtain ⟨sl, e⟩ := I.base.slot L o ho (I.ok.frf L hL) hL fun z => I.ok.exfs L z hL
      exact ⟨hk, ⟨L, _, hf, hn, e, hd⟩, ih (fun b hb => hs b (by unfold frs; rw [List.filterMap_cons, hf]; exact List.mem_cons_of_mem _ hb)) hr⟩
  exact all X.outer (fun _ hb => hb) I.ok.funs

theorem Inv.stack (I : Inv X pins σ H s) : s.heap.FunFrames X.base X.stack := by
  rcases I.ok.stk with e | ⟨e, hf⟩
  · rw [e]; exact I.funs
  · rw [e]
    obtain ⟨m, hn, _⟩ := I.loc
    refine .cons (by rw [I.ok.kind]; decide) hf hn ?_ I.funs
    exact Heap.get?_none_of_le (Nat.le_trans I.ok.bsz I.ok.above)
theorem Inv.stkSub (I : Inv X pins σ H s) : ∀ b ∈ frs X.stack, b ∈ X.env.locals :: X.fs := fun b hb => by
  rcases I.ok.stk with e | ⟨e, hf⟩
  · rw [e] at hb; exact List.mem_cons_of_mem _ hb
  · rw [e] at hb
    unfold frs at hb
    rw [List.filterMap_cons, hf] at hb
    exact hb
theorem Inv.stkFree (I : Inv X pins σ H s) : ∀ b ∈ frs X.stack, H b = none := fun b hb => by
  rcases List.mem_cons.mp (I.stkSub b hb) with e | hb
  · rw [e]; exact I.free
  · obtain ⟨_, o, ho, _⟩ := I.ok.funs.mem hb
    exact I.base.free b o ho (I.ok.frf b hb) fun z => I.ok.exfs b z hb

theorem Inv.step {g' : Array GenState} {t' : Nat} {d' : Drawn} {ch : List Addr} (I : Inv X pins σ H s)
    (hch : ∀ b ∈ ch, (b ∈ X.ex ∨ X.s₀.heap.objs.size ≤ b) ∧ b ≠ X.env.locals ∧ (∀ x c, X.env.cells.lookup x = some c → c ≠ b) ∧ ∀ p ∈ X.pn ++ pins, p.1 ≠ b)
    (keep : ∀ b o, b ≠ X.env.locals → b ∉ X.fs → b ∉ ch → s.heap.get? b = some o → H b = none → h'.get? b = some o)
    (slot : ∀ b o, b ≠ X.env.locals → b ∈ X.fs → b ∉ ch → s.heap.get? b = some o → H b = none → ∃ sl, h'.get? b = some { o with slots := sl }) (free : ∀ b o, b ∉ ch → s.heap.get? b = some o → H b = none → H' b = none)
    (there : ∀ b o, b ∉ ch → s.heap.get? b = some o → ∃ o', h'.get? b = some o')
    (tups : ∀ b xs, H b = some (.tup xs) → H' b = some (.tup xs)) (frzs : ∀ b o u, H b = some (.frz o u) → H' b = some (.frz o u)) (tbls : ∀ b ps, H b = some (.tbl ps) → ∃ more, H' b = some (.tbl (ps ++ more)))
    (ns : ∀ m, s.heap.Ns X.env.locals m → h'.Ns X.env.locals m) (hok : HOk X.prog X.w H' h') (hg : AllBare g') :
    Inv X pins σ H' { s with heap := h', gens := g', drawn := d', toks := t' } := by
  have neL : ∀ b o, X.s₀.heap.get? b = some o → b ≠ X.env.locals := fun b o e => Nat.ne_of_lt (Nat.lt_of_lt_of_le (Heap.lt_size e) I.ok.above)
  have neC : ∀ b o, X.s₀.heap.get? b = some o → b ∉ X.ex → b ∉ ch := fun b o e hx hb => by
    rcases (hch b hb).1 with z | z
    · exact hx z
    · exact absurd (Nat.lt_of_lt_of_le (Heap.lt_size e) z) (Nat.lt_irrefl _)
  have cellK : ∀ x c, X.env.cells.lookup x = some c → ∀ v, s.heap.IsCell c v → h'.IsCell c v := fun x c e v ⟨o, ho, hd⟩ => by
    have nch : c ∉ ch := fun z => (hch c z).2.2.1 x c e rfl
    by_cases hc : c ∈ X.fs
    · obtain ⟨sl, q⟩ := slot c o (I.cne x c e) hc nch ho (I.freeC x c e)
      exact ⟨_, q, hd⟩
    · exact ⟨o, keep c o (I.cne x c e) hc nch ho (I.freeC x c e), hd⟩
  refine ⟨I.ok, I.os, hg, ⟨fun b o e n hb hx => ?_, fun b o e n hb hx => ?_, fun b o e n hx => ?_, fun b o e hx => ?_, fun b xs e => tups b xs (I.base.tups b xs e), fun b o xs e => frzs b o xs (I.base.frzs b o xs e), fun b ps e => ?_⟩, ?_, fun x c e => ?_, ?_, fun x c e => ?_, fun p hp => ?_, hok, I.len⟩
  · exact keep b o (neL b o e) hb (neC b o e hx) (I.base.keep b o e n hb hx) (I.base.free b o e n hx)
  · obtain ⟨sl, e1⟩ := I.base.slot b o e n hb hx
    obtain ⟨sl', e2⟩ := slot b _ (neL b o e) hb (neC b o e hx) e1 (I.base.free b o e n hx)
    exact ⟨sl', e2⟩
  · obtain ⟨o', e1⟩ := I.base.there b o e hx
    exact free b o' (neC b o e hx) e1 (I.base.free b o e n hx)
  · obtain ⟨o', e1⟩ := I.base.there b o e hx
    exact there b o' (neC b o e hx) e1
  · obtain ⟨m1, e1⟩ := I.base.tbls b ps e
    obtain ⟨m2, e2⟩ := tbls b _ e1
    exact ⟨m1 ++ m2, by rw [e2, Array.append_assoc]⟩
  · obtain ⟨m, hn, hl⟩ := I.loc
    refine ⟨m, ns m hn, fun i x v e1 e2 e3 => ?_⟩
    obtain ⟨u, r, l⟩ := hl i x v e1 e2 e3
    refine ⟨u, r, ?_⟩
    rcases l with l | ⟨k, c, e, z⟩
    · exact .inl l
    · exact .inr ⟨k, c, e, cellK x c e _ z⟩
  · obtain ⟨v, z⟩ := I.cell x c e
    exact ⟨v, cellK x c e v z⟩
  · obtain ⟨m, ⟨o, _, _, ho, _⟩, _⟩ := I.loc
    exact free _ o (fun z => (hch _ z).2.1 rfl) ho I.free
  · obtain ⟨v, o, ho, hd⟩ := I.cell x c e
    exact free c o (fun z => (hch c z).2.2.1 x c e rfl) ho (I.freeC x c e)
  · obtain ⟨e, n, ne, nf, d⟩ := I.pin p hp
    have nch : p.1 ∉ ch := fun z => (hch p.1 z).2.2.2 p hp rfl
    exact ⟨keep p.1 p.2 ne nf nch e n, free p.1 p.2 nch e n, ne, nf, d⟩
theorem Inv.un {t' : Nat} (I : Inv X pins σ H s) (u : Un X.fs [] H H' s.heap h') (hok : HOk X.prog X.w H' h') : Inv X pins σ H' { s with heap := h', toks := t' } := by
  obtain ⟨m, ⟨o, es, ep, ho, r⟩, _⟩ := id I.loc
  obtain ⟨sl, hL⟩ := u.any ho I.free (by simp)
  exact I.step (g' := s.gens) (d' := s.drawn) (ch := []) (fun _ z => nomatch z) (fun b o _ hb _ e n => u.keep b o e n hb (by simp)) (fun b o _ hb _ e n => u.slot b o e n hb (by simp)) (fun b o _ e n => u.free b o e n (by simp)) (fun b o _ e => u.there b o e (by simp)) u.tups u.frzs u.tbls (fun m' hm => by
    obtain ⟨o', es', ep', ho', r'⟩ := hm
    rw [ho] at ho'; cases ho'
    exact ⟨_, es', ep', hL, r'⟩) hok I.bare
theorem Inv.call {g' : Array GenState} {t' : Nat} {d' : Drawn} {ch : List Addr} (I : Inv X pins σ H s) (u : Un (frs X.stack) ch H H' s.heap h') (hok : HOk X.prog X.w H' h') (hg : AllBare g')
    (hch : ∀ b ∈ ch, (b ∈ X.ex ∨ X.s₀.heap.objs.size ≤ b) ∧ b ≠ X.env.locals ∧ (∀ x c, X.env.cells.lookup x = some c → c ≠ b) ∧ ∀ p ∈ X.pn ++ pins, p.1 ≠ b) :
    Inv X pins σ H' { s with heap := h', gens := g', drawn := d', toks := t' } := by
  obtain ⟨m, ⟨o, es, ep, ho, r⟩, _⟩ := id I.loc
  obtain ⟨sl, hL⟩ := u.any ho I.free fun z => (hch _ z).2.1 rfl
  exact I.step (ch := ch) hch (fun b o hL hb hc e n => u.keep b o e n (fun z => (List.mem_cons.mp (I.stkSub b z)).elim hL hb) hc) (fun b o _ _ hc e n => u.any e n hc) (fun b o hc e n => u.free b o e n hc) (fun b o hc e => u.there b o e hc) u.tups u.frzs u.tbls (fun m' hm => by
    obtain ⟨o', es', ep', ho', r'⟩ := hm
    rw [ho] at ho'; cases ho'
    exact ⟨_, es', ep', hL, r'⟩) hok hg
theorem Inv.turned {t' : Nat} {it : Addr} (I : Inv X pins σ H s) (k : ∀ b o, b ≠ it → s.heap.get? b = some o → h'.get? b = some o) (hn : H it = none) (hL : it ≠ X.env.locals)
    (h1 : it ∈ X.ex ∨ X.s₀.heap.objs.size ≤ it) (h2 : ∀ x c, X.env.cells.lookup x = some c → c ≠ it) (h3 : ∀ p ∈ X.pn ++ pins, p.1 ≠ it) : Inv X pins σ H { s with heap := h', toks := t' } := by
  have nit : ∀ b u, H b = some u → b ≠ it := fun b u e z => by rw [z, hn] at e; cases e
  refine I.step (g' := s.gens) (d' := s.drawn) (ch := [it]) (fun b hb => ?_) (fun b o _ _ hc e _ => k b o (fun z => hc (by simp [z])) e) (fun b o _ _ hc e _ => ⟨o.slots, k b o (fun z => hc (by simp [z])) e⟩) (fun _ _ _ _ n => n)
    (fun b o hc e => ⟨o, k b o (fun z => hc (by simp [z])) e⟩) (fun _ _ e => e) (fun _ _ _ e => e) (fun b ps e => ⟨#[], by rw [e]; simp⟩) (fun m hm => ?_) (fun b u e => ?_) I.bare
  · have e : b = it := by simpa using hb
    subst e
    exact ⟨h1, hL, h2, h3⟩
  · obtain ⟨o, es, ep, ho, r⟩ := hm
    exact ⟨o, es, ep, k _ o (Ne.symm hL) ho, r⟩
  · refine (I.hok b u e).stay (fun c v hc q => k c v ?_ q) (fun _ q => q) fun _ _ q => q
    rcases hc with z | z
    · rw [z]; exact nit b u e
    · exact nit c _ z
theorem Inv.tok (I : Inv X pins σ H s) (t : Nat) : Inv X pins σ H { s with toks := t } := I.un (h' := s.heap) (t' := t) Un.refl I.hok
theorem Inv.kept {t' : Nat} (I : Inv X pins σ H s) (k : ∀ b u, s.heap.get? b = some u → h'.get? b = some u) : Inv X pins σ H { s with heap := h', toks := t' } := I.un (Un.kept k) (I.hok.kept k)
theorem Inv.laid {a : Addr} {o : HO} {t' : Nat} (I : Inv X pins σ H s) (k : ∀ b u, s.heap.get? b = some u → h'.get? b = some u) (hp : s.heap.objs.size ≤ a) (new : ObjOk X.prog X.w (upd H a o) h' a o) :
    Inv X pins σ (upd H a o) { s with heap := h', toks := t' } := I.un (Un.laid k hp (I.hok.fresh hp)) (I.hok.laid k hp new)
theorem Inv.write {x e : Addr} {o : HO} {t' : Nat} (I : Inv X pins σ H s) (mu : Mut (H x)) (he : e = x ∨ H e = some (.own x)) (k : ∀ b u, b ≠ e → s.heap.get? b = some u → h'.get? b = some u) (heo : ∃ u, h'.get? e = some u)
    (new : ObjOk X.prog X.w (upd H x o) h' x o) : Inv X pins σ (upd H x o) { s with heap := h', toks := t' } := I.un (Un.write mu he k heo) (I.hok.write mu he k heo new)
theorem Inv.pins_of {pins' : List (Addr × Obj)} (I : Inv X pins σ H s) (h : ∀ p ∈ pins', s.heap.get? p.1 = some p.2 ∧ H p.1 = none ∧ p.1 ≠ X.env.locals ∧ p.1 ∉ X.fs ∧ ∀ v, p.2.data ≠ .cell v) : Inv X pins' σ H s :=
  ⟨I.ok, I.os, I.bare, I.base, I.loc, I.cell, I.free, I.freeC, fun p hp => (List.mem_append.mp hp).elim (fun z => I.pin p (List.mem_append_left _ z)) (h p), I.hok, I.len⟩

theorem nodup_ix {N : List Str} (hN : N.Nodup) {i j : Nat} {x : Str} (a : N[i]? = some x) (b : N[j]? = some x) : i = j := by
  obtain ⟨h1, e1⟩ := List.getElem?_eq_some_iff.mp a
  obtain ⟨h2, e2⟩ := List.getElem?_eq_some_iff.mp b
  exact (List.getElem_inj hN).mp (e1.trans e2.symm)

theorem store_ok2 {M : Model} {A : Around} {E : Value → Shared → Prop} {i : Nat} {x : Str} {v : V} {u : Value} {Q : Unit → Shared → Prop} (I : Inv X pins σ H s) (hN : X.N.Nodup) (hi : X.N[i]? = some x) (hx : Loc X.env.scope x) (r : RelV v u)
    (h : ∀ s', Inv X pins (σ.set i (some v)) H s' → (∃ a, Heap.SameBut a s.heap s'.heap ∧ (a = X.env.locals ∨ X.env.cells.lookup x = some a)) → Q () s') (hf : X.fn x = true ∨ X.env.scope.names.lookup x = some .local := by first | exact .inl rfl | exact .inr rfl | assumption) : wpAny M A (storeName X.env x u) Q E s := by
  obtain ⟨m, hn, hl⟩ := id I.loc
  have hcls : (X.env.scope.kind == .class || (X.env.scope.kind == .module && X.env.locals != X.env.globals)) = false := by rw [I.ok.kind]; rfl
  have hiσ : i < σ.length := by rw [I.len]; exact (List.getElem?_eq_some_iff.mp hi).1
  have cne := I.cne
  have tracked : ∀ {a : Addr} {h' : Heap}, (∃ o, s.heap.get? a = some o ∧ H a = none) → Heap.SameBut a s.heap h' → HOk X.prog X.w H h' := fun {a h'} ha hs b ob e => by
    obtain ⟨_, _, hfree⟩ := ha
    refine (I.hok b ob e).stay (fun c w' hc q => (hs.2 c ?_).trans q) (fun _ q => q) fun _ _ q => q
    rintro rfl
    rcases hc with rfl | hc
    · rw [hfree] at e; cases e
    · rw [hfree] at hc; cases hc
  rcases hx with hk | hk
  · refine wpAny_storeName_local hk hn (fun h' hn' hs => ?_) hcls
    obtain ⟨oL, _, _, hoL, _⟩ := id hn
    refine h _ ⟨I.ok, I.os, I.bare, ⟨fun b o e n hb hx => ?_, fun b o e n hb hx => ?_, I.base.free, fun b o e hx => ?_, I.base.tups, I.base.frzs, I.base.tbls⟩, ⟨_, hn', fun j y v' e1 e2 e3 => ?_⟩, fun y c e => ?_, I.free, I.freeC, fun p hp => ?_, tracked ⟨oL, hoL, I.free⟩ hs, by simpa using I.len⟩ ⟨_, hs, .inl rfl⟩
    · exact (hs.2 b (Nat.ne_of_lt (Nat.lt_of_lt_of_le (Heap.lt_size e) I.ok.above))).trans (I.base.keep b o e n hb hx)
    · obtain ⟨sl, e1⟩ := I.base.slot b o e n hb hx
      exact ⟨sl, (hs.2 b (Nat.ne_of_lt (Nat.lt_of_lt_of_le (Heap.lt_size e) I.ok.above))).trans e1⟩
    · obtain ⟨o', e1⟩ := I.base.there b o e hx
      exact ⟨o', (hs.2 b (Nat.ne_of_lt (Nat.lt_of_lt_of_le (Heap.lt_size e) I.ok.above))).trans e1⟩
    · by_cases hj : j = i
      · subst hj
        rw [hi] at e1; cases e1
        rw [List.getElem?_set_self hiσ] at e2
        cases e2
        exact ⟨u, r, .inl ⟨hk, by simp⟩⟩
      · rw [List.getElem?_set_ne (Ne.symm hj)] at e2
        obtain ⟨u', r', q⟩ := hl j y v' e1 e2 e3
        refine ⟨u', r', ?_⟩
        rcases q with ⟨k, e⟩ | ⟨k, c, e, z⟩
        · refine .inl ⟨k, ?_⟩
          have : y ≠ x := fun e => hj (nodup_ix hN e1 (e ▸ hi))
          simp [this, e]
        · exact .inr ⟨k, c, e, z.sameBut hs (cne y c e)⟩
    · obtain ⟨w', z⟩ := I.cell y c e
      exact ⟨w', z.sameBut hs (cne y c e)⟩
    · obtain ⟨e, n, ne, nf, d⟩ := I.pin p hp
      exact ⟨(hs.2 p.1 ne).trans e, n, ne, nf, d⟩
  · have hfn : X.fn x = true := by
      rcases hf with z | z
      · exact z
      · rw [z] at hk; cases hk
    obtain ⟨c, hc⟩ := I.ok.has x (.inl hk)
    obtain ⟨w', z⟩ := I.cell x c hc
    refine wpAny_storeName_cell I.ok.kind hk hc z (fun h' hc' hs => ?_)
    obtain ⟨oc, hoc, hocd⟩ := id z
    refine h { s with heap := h' } ⟨I.ok, I.os, I.bare, ⟨fun b o e n hb hx => ?_, fun b o e n hb hx => ?_, I.base.free, fun b o e hx => ?_, I.base.tups, I.base.frzs, I.base.tbls⟩, ⟨m, hn.sameBut hs (Ne.symm (cne x c hc)), fun j y v' e1 e2 e3 => ?_⟩, fun y c' e => ?_, I.free, I.freeC, fun p hp => ?_, tracked ⟨oc, hoc, I.freeC x c hc⟩ hs, by simpa using I.len⟩ ⟨c, hs, .inr hc⟩
    · exact (hs.2 b (Nat.ne_of_lt (Nat.lt_of_lt_of_le (Heap.lt_size e) (I.ok.cab x c hfn hc)))).trans (I.base.keep b o e n hb hx)
    · obtain ⟨sl, e1⟩ := I.base.slot b o e n hb hx
      exact ⟨sl, (hs.2 b (Nat.ne_of_lt (Nat.lt_of_lt_of_le (Heap.lt_size e) (I.ok.cab x c hfn hc)))).trans e1⟩
    · obtain ⟨o', e1⟩ := I.base.there b o e hx
      exact ⟨o', (hs.2 b (Nat.ne_of_lt (Nat.lt_of_lt_of_le (Heap.lt_size e) (I.ok.cab x c hfn hc)))).trans e1⟩
    · by_cases hj : j = i
      · subst hj
        rw [hi] at e1; cases e1
        rw [List.getElem?_set_self hiσ] at e2
        cases e2
        exact ⟨u, r, .inr ⟨.inl hk, c, hc, hc'⟩⟩
      · rw [List.getElem?_set_ne (Ne.symm hj)] at e2
        obtain ⟨u', r', q⟩ := hl j y v' e1 e2 e3
        refine ⟨u', r', ?_⟩
        rcases q with q | ⟨k, c', e, z'⟩
        · exact .inl q
        · refine .inr ⟨k, c', e, z'.sameBut hs ?_⟩
          rintro rfl
          exact hj (nodup_ix hN e1 (I.ok.inj _ _ _ e hc ▸ hi))
    · by_cases hcc : c' = c
      · subst hcc; exact ⟨_, hc'⟩
      · obtain ⟨w2, z2⟩ := I.cell y c' e
        exact ⟨w2, z2.sameBut hs hcc⟩
    · obtain ⟨e, n, ne, nf, d⟩ := I.pin p hp
      refine ⟨(hs.2 p.1 ?_).trans e, n, ne, nf, d⟩
      intro q
      rw [q, hoc] at e
      have q' : oc = p.2 := Option.some.inj e
      exact d w' (by rw [← q']; exact hocd)
theorem store_ok {M : Model} {A : Around} {E : Value → Shared → Prop} {i : Nat} {x : Str} {v : V} {u : Value} {Q : Unit → Shared → Prop} (I : Inv X pins σ H s) (hN : X.N.Nodup) (hi : X.N[i]? = some x) (hx : Loc X.env.scope x) (r : RelV v u)
    (h : ∀ s', Inv X pins (σ.set i (some v)) H s' → Q () s') (hf : X.fn x = true ∨ X.env.scope.names.lookup x = some .local := by first | exact .inl rfl | exact .inr rfl | assumption) : wpAny M A (storeName X.env x u) Q E s :=
  store_ok2 I hN hi hx r (fun s' I' _ => h s' I') hf
theorem Inv.call' {s' : Shared} {ch : List Addr} (I : Inv X pins σ H s) (ho : s'.os = s.os) (u : Un (frs X.stack) ch H H' s.heap s'.heap) (hok : HOk X.prog X.w H' s'.heap) (hg : AllBare s'.gens)
    (hch : ∀ b ∈ ch, (b ∈ X.ex ∨ X.s₀.heap.objs.size ≤ b) ∧ b ≠ X.env.locals ∧ (∀ x c, X.env.cells.lookup x = some c → c ≠ b) ∧ ∀ p ∈ X.pn ++ pins, p.1 ≠ b) : Inv X pins σ H' s' := by
  obtain ⟨h', g', d', t', o'⟩ := s'
  have e : o' = s.os := ho
  subst e
  exact I.call (g' := g') (t' := t') (d' := d') u hok hg hch
end

/-! ### the judgements -/
abbrev XK := Value → Option Addr → Hp → Prop
abbrev St := List (Option V)
abbrev VK := V → Hp → Prop
abbrev TE := St → Hp → VK → Prop
abbrev TT := St → Hp → (Bool → Hp → Prop) → Prop
abbrev TA := St → Hp → (List V → Hp → Prop) → Prop
structure Ends where
  nx : St → Hp → Prop
  rt : VK
  bk : St → Hp → Prop := fun _ _ => False
  ct : St → Hp → Prop := fun _ _ => False
abbrev TS := Ends → St → Hp → Prop

def EP (X : Cx) (pins : List (Addr × Obj)) (σ : St) (Q : VK) (u : Value) (s' : Shared) : Prop := ∃ v H', Inv X pins σ H' s' ∧ RelV v u ∧ Q v H'
def TP (X : Cx) (pins : List (Addr × Obj)) (σ : St) (Q : Bool → Hp → Prop) (b : Bool) (s' : Shared) : Prop := ∃ H', Inv X pins σ H' s' ∧ Q b H'
def AP (X : Cx) (pins : List (Addr × Obj)) (σ : St) (Q : List V → Hp → Prop) (us : List Value) (s' : Shared) : Prop := ∃ vs H', Inv X pins σ H' s' ∧ Vals vs us ∧ Q vs H'
def SP (X : Cx) (pins : List (Addr × Obj)) (D : Ends) (f : Flow) (s' : Shared) : Prop :=
  match f with
  | .next => ∃ σ' H', Inv X pins σ' H' s' ∧ D.nx σ' H'
  | .brk => ∃ σ' H', Inv X pins σ' H' s' ∧ D.bk σ' H'
  | .cont => ∃ σ' H', Inv X pins σ' H' s' ∧ D.ct σ' H'
  | .ret u => ∃ v σ' H', Inv X pins σ' H' s' ∧ RelV v u ∧ D.rt v H'

def PE (X : Cx) (e : Expr) (t : TE) : Prop :=
  ∀ (pins : List (Addr × Obj)) (s : Shared) (σ : St) (H : Hp) (Q : VK), Inv X pins σ H s → t σ H Q → wpAny (model X.prog X.w) X.A (eval e X.env) (EP X pins σ Q) X.xe s
def PT (X : Cx) (e : Expr) (t : TT) : Prop :=
  ∀ (pins : List (Addr × Obj)) (s : Shared) (σ : St) (H : Hp) (Q : Bool → Hp → Prop), Inv X pins σ H s → t σ H Q → wpAny (model X.prog X.w) X.A (isTrue e X.env (eval e X.env)) (TP X pins σ Q) X.xe s
def PW (X : Cx) (e : Expr) (t : TT) : Prop :=
  ∀ (whole : Sem Value) (pins : List (Addr × Obj)) (s : Shared) (σ : St) (H : Hp) (Q : Bool → Hp → Prop), Inv X pins σ H s → t σ H Q → wpAny (model X.prog X.w) X.A (isTrue e X.env whole) (TP X pins σ Q) X.xe s
theorem PW.pt {X : Cx} {e : Expr} {t : TT} (h : PW X e t) : PT X e t := h _
def PA (X : Cx) (es : List Expr) (t : TA) : Prop :=
  ∀ (pos : Pos) (pins : List (Addr × Obj)) (s : Shared) (σ : St) (H : Hp) (Q : List V → Hp → Prop), Inv X pins σ H s → t σ H Q → wpAny (model X.prog X.w) X.A (spliced (backTo pos (starEach es X.env))) (AP X pins σ Q) X.xe s
def PS (X : Cx) (st : Stmt) (t : TS) : Prop :=
  ∀ (pins : List (Addr × Obj)) (s : Shared) (σ : St) (H : Hp) (D : Ends), Inv X pins σ H s → t D σ H → wpAny (model X.prog X.w) X.A (exec st X.env) (SP X pins D) X.xe s
def PSs (X : Cx) (st : List Stmt) (t : TS) : Prop :=
  ∀ (pins : List (Addr × Obj)) (s : Shared) (σ : St) (H : Hp) (D : Ends), Inv X pins σ H s → t D σ H → wpAny (model X.prog X.w) X.A (execs st X.env) (SP X pins D) X.xe s
theorem thn {α : Type} {t : Sem α} {Q Q' : α → Shared → Prop} {M : Model} {A : Around} {E : Value → Shared → Prop} {s : Shared} (h : wpAny M A t Q E s) (hQ : ∀ a s, Q a s → Q' a s) : wpAny M A t Q' E s := wpAny_mono h hQ fun _ _ x => x
end L2

namespace L2
open PySem PySem.Spec PyProof.Rows
section
variable {X : Cx}

/-! ### names and constants -/
def tVar (i : Nat) : TE := fun σ H Q => ∃ v, σ[i]? = some (some v) ∧ Q v H
def tC (v : V) : TE := fun _ H Q => Q v H
theorem pe_var {i : Nat} {x : Str} {pos : Pos} (hN : X.N[i]? = some x) (hv : Vis X.env.scope x) (hd : (x == ("__debug__" : Str)) = false := by decide) (hcd : (x == ("__classdict__" : Str)) = false := by decide) : PE X (.Name x pos) (tVar i) := by
  intro pins s σ H Q I h
  obtain ⟨v, e, h⟩ := h
  obtain ⟨m, hn, hl⟩ := I.loc
  obtain ⟨u, r, l⟩ := hl i x v hN e hv
  have fin : EP X pins σ Q u s := ⟨v, H, I, r, h⟩
  rcases l with ⟨hk, hm⟩ | ⟨hk, c, hc, hcell⟩
  · exact wpAny_Name (wpAny_loadName_local I.ok.kind hk hn hm fin) hd
  · rcases hk with hk | hk
    · exact wpAny_Name (wpAny_loadName_cell I.ok.kind hk hc hcell fin) hd
    · exact wpAny_Name (wpAny_loadName_free I.ok.kind hk hc hcell fin hcd) hd
theorem pe_int {i j pos} : PE X (.Constant (.int i) j pos) (tC (.int i)) := fun _ _ _ H _ I h => wpAny_Constant_int ⟨.int i, H, I.tok _, ⟨_, rfl⟩, h⟩
theorem pe_bl {b j pos} : PE X (.Constant (.bool b) j pos) (tC (.bl b)) := fun _ _ _ H _ I h => Constant_bool ⟨.bl b, H, I, rfl, h⟩
theorem pe_non {j pos} : PE X (.Constant .none j pos) (tC .non) := fun _ _ _ H _ I h => Constant_none ⟨.non, H, I, rfl, h⟩
theorem pe_str {x j pos} : PE X (.Constant (.str x) j pos) (tC (.str x)) := fun _ _ _ H _ I h => Calls.Constant_str ⟨.str x, H, I.tok _, ⟨_, rfl⟩, h⟩

def Gl (X : Cx) (x : Str) : Prop := X.env.kindOf x = some .globalImplicit
theorem ld_glob {E : Value → Shared → Prop} {pins : List (Addr × Obj)} {s : Shared} {σ : St} {H : Hp} {x : Str} {u : Value} {pos : Pos} {Q : Value → Shared → Prop} (I : Inv X pins σ H s) (hg : Gl X x) (hm : X.mg x = some u) (h : Q u s)
    (hd : (x == ("__debug__" : Str)) = false := by decide) : wpAny (model X.prog X.w) X.A (eval (.Name x pos) X.env) Q E s :=
  Calls.Name_function_global I.ok.kind hg (Calls.loadGlobal_global (by rw [I.ok.glob]; exact I.mod.glob.keeps I.bk) hm h) hd
theorem ld_blt {E : Value → Shared → Prop} {pins : List (Addr × Obj)} {s : Shared} {σ : St} {H : Hp} {x : Str} {u : Value} {pos : Pos} {Q : Value → Shared → Prop} (I : Inv X pins σ H s) (hg : Gl X x) (hm : X.mg x = none) (hv : bootBuiltins x = some u) (h : Q u s)
    (hn : x ≠ "__name__" := by decide) (hd : (x == ("__debug__" : Str)) = false := by decide) : wpAny (model X.prog X.w) X.A (eval (.Name x pos) X.env) Q E s := by
  obtain ⟨mb, h1, h2⟩ := I.mod.blt
  exact Calls.Name_function_global I.ok.kind hg (Calls.loadGlobal_builtin (by rw [I.ok.glob]; exact I.mod.glob.keeps I.bk) hm (by rw [I.ok.blt]; exact h1.keeps I.bk) ((h2 x hn).trans hv) h) hd
theorem pe_glob {x : Str} {v : V} {u : Value} {pos : Pos} (hg : Gl X x) (hm : X.mg x = some u) (r : RelV v u) (hd : (x == ("__debug__" : Str)) = false := by decide) : PE X (.Name x pos) (tC v) :=
  fun _ _ _ H _ I h => ld_glob I hg hm ⟨v, H, I, r, h⟩ hd
theorem pe_bltn {x : Str} {v : V} {u : Value} {pos : Pos} (hg : Gl X x) (hm : X.mg x = none) (hv : bootBuiltins x = some u) (r : RelV v u) (hn : x ≠ "__name__" := by decide) (hd : (x == ("__debug__" : Str)) = false := by decide) : PE X (.Name x pos) (tC v) :=
  fun _ _ _ H _ I h => ld_blt I hg hm hv ⟨v, H, I, r, h⟩ hn hd

/-! ### arithmetic -/
variable {a b : Expr} {ta tb : TE} {pos : Pos}
/-! ### comparisons -/
def tB (t : TE) : TT := fun σ H Q => t σ H fun x H1 => ∃ c, x = .bl c ∧ Q c H1
theorem pt_val {e : Expr} {t : TE} (h : PE X e t) (he : ∀ whole, isTrue e X.env whole = (do let v ← whole; standAt e.pos; holding [v] (truthy v)) := by intro _; rfl) : PT X e (tB t) := by
  intro pins s σ H Q I hw
  refine isTrue_plain (thn (h pins s σ H _ I hw) fun v s1 ⟨x, H1, I1, r1, q1⟩ => ?_) (he _)
  obtain ⟨d, rfl, q⟩ := q1
  cases r1
  exact wpAny_truthy_bool ⟨H1, I1, q⟩

/-! ### and, or, not -/
variable {tA tB' : TT} {rest : List Expr}
def tAnd (t u : TT) : TT := fun σ H Q => t σ H fun c H1 => if c = true then u σ H1 Q else Q false H1
def tOr (t u : TT) : TT := fun σ H Q => t σ H fun c H1 => if c = true then Q true H1 else u σ H1 Q
def tNot (t : TT) : TT := fun σ H Q => t σ H fun c H1 => Q (!c) H1
theorem pw_and1 (ha : PT X a tA) : PW X (.BoolOp .And [a] pos) tA := by
  intro wh pins s σ H Q I h
  refine isTrue_and (thn (ha pins s σ H Q I h) fun c s1 e => ?_)
  cases c with
  | true => exact isTrue_and_nil e
  | false => exact e
theorem pw_or1 (ha : PT X a tA) : PW X (.BoolOp .Or [a] pos) tA := by
  intro wh pins s σ H Q I h
  refine isTrue_or (thn (ha pins s σ H Q I h) fun c s1 e => ?_)
  cases c with
  | false => exact isTrue_or_nil e
  | true => exact e
theorem pw_and (ha : PT X a tA) (hb : PW X (.BoolOp .And (b :: rest) pos) tB') : PW X (.BoolOp .And (a :: b :: rest) pos) (tAnd tA tB') := by
  intro wh pins s σ H Q I h
  refine isTrue_and (thn (ha pins s σ H _ I h) fun c s1 ⟨H1, I1, q1⟩ => ?_)
  cases c with
  | true => exact hb wh pins s1 σ H1 Q I1 q1
  | false => exact ⟨H1, I1, q1⟩
theorem pw_or (ha : PT X a tA) (hb : PW X (.BoolOp .Or (b :: rest) pos) tB') : PW X (.BoolOp .Or (a :: b :: rest) pos) (tOr tA tB') := by
  intro wh pins s σ H Q I h
  refine isTrue_or (thn (ha pins s σ H _ I h) fun c s1 ⟨H1, I1, q1⟩ => ?_)
  cases c with
  | true => exact ⟨H1, I1, q1⟩
  | false => exact hb wh pins s1 σ H1 Q I1 q1
theorem pt_not (ha : PT X a tA) : PT X (.UnaryOp .Not a pos) (tNot tA) := by
  intro pins s σ H Q I h
  exact isTrue_not (ha pins s σ H (fun c H1 => Q (!c) H1) I h)
def tAndV (ta tb : TE) : TE := fun σ H Q => ta σ H fun x H1 => ∃ c, x = .bl c ∧ if c = true then tb σ H1 Q else Q (.bl false) H1
def tNotV (ta : TE) : TE := fun σ H Q => ta σ H fun x H1 => ∃ c, x = .bl c ∧ Q (.bl (!c)) H1
theorem pe_one {op} {t : TE} (h : PE X a t) : PE X (.BoolOp op [a] pos) t := fun pins s σ H Q I hw => BoolOp_one (h pins s σ H Q I hw)
theorem pe_and (ha : PE X a ta) (hb : PE X (.BoolOp .And (b :: rest) pos) tb) : PE X (.BoolOp .And (a :: b :: rest) pos) (tAndV ta tb) := by
  intro pins s σ H Q I h
  refine BoolOp_and (thn (ha pins s σ H _ I h) fun v s1 ⟨x, H1, I1, r1, q1⟩ => ?_)
  obtain ⟨c, rfl, q1⟩ := q1
  cases r1
  refine wpAny_truthy_bool ?_
  cases c with
  | true => exact hb pins s1 σ H1 Q I1 q1
  | false => exact ⟨.bl false, H1, I1, rfl, q1⟩
theorem pe_not (ha : PE X a ta) : PE X (.UnaryOp .Not a pos) (tNotV ta) := by
  intro pins s σ H Q I h
  refine UnaryOp_ (thn (ha pins s σ H _ I h) fun v s1 ⟨x, H1, I1, r1, q1⟩ => ?_)
  obtain ⟨c, rfl, q1⟩ := q1
  cases r1
  exact not_of (wpAny_truthy_bool ⟨.bl (!c), H1, I1, rfl, q1⟩)
def tIf (t : TT) (ta tb : TE) : TE := fun σ H Q => t σ H fun c H1 => if c = true then ta σ H1 Q else tb σ H1 Q
theorem pe_ifExp {c : Expr} (hc : PT X c tA) (ha : PE X a ta) (hb : PE X b tb) : PE X (.IfExp c a b pos) (tIf tA ta tb) := by
  intro pins s σ H Q I h
  refine wpAny_IfExp (thn (hc pins s σ H _ I h) fun d s1 ⟨H1, I1, q1⟩ => ?_)
  cases d with
  | true => exact ha pins s1 σ H1 Q I1 q1
  | false => exact hb pins s1 σ H1 Q I1 q1
end
end L2

namespace L2
open PySem PySem.Spec PyProof.Rows

/-! ### a list, a tuple that is read: tracked, frozen, or an object of the module -/
def SqL (K : PySem.W.Frag) (H : Hp) (a : Addr) (xs : List V) : Prop :=
  Rd H a (.lst xs) ∨
    ∃ (o : Obj) (its : Array Value) (n : Nat), K.lookup a = some o ∧ o.cls = .type "list" ∧ o.dict = none ∧ o.data = .seq its n ∧ its.size ≤ sizeLine ∧ Vals xs its.toList
def SqT (K : PySem.W.Frag) (H : Hp) (a : Addr) (xs : List V) : Prop :=
  Rd H a (.tup xs) ∨
    ∃ (o : Obj) (its : Array Value) (n : Nat), K.lookup a = some o ∧ o.cls = .type "tuple" ∧ o.data = .seq its n ∧ its.size ≤ sizeLine ∧ Vals xs its.toList
def absV : Value → Option V
  | .none => some .non
  | .bool b => some (.bl b)
  | .int i _ => some (.int i)
  | .str x _ => some (.str x)
  | .bytes b _ => some (.byt b)
  | .float b _ => some (.flt b)
  | .ref a => some (.ref a)
  | .type n => some (.ty n)
  | _ => none
theorem RelV.abs {x : V} {u : Value} (r : RelV x u) : absV u = some x := by
  cases x with
  | non => cases r; rfl
  | bl _ => cases r; rfl
  | int _ => obtain ⟨t, rfl⟩ := r; rfl
  | str _ => obtain ⟨t, rfl⟩ := r; rfl
  | byt _ => obtain ⟨t, rfl⟩ := r; rfl
  | flt _ => obtain ⟨t, rfl⟩ := r; rfl
  | ref _ => cases r; rfl
  | ty _ => cases r; rfl
theorem RelV.inj {x y : V} {u : Value} (r : RelV x u) (q : RelV y u) : x = y := Option.some.inj (r.abs.symm.trans q.abs)
theorem Vals.inj : ∀ {xs ys : List V} {us : List Value}, Vals xs us → Vals ys us → xs = ys
  | _, _, _, .nil, .nil => rfl
  | _, _, _, .cons r t, .cons r' t' => by rw [r.inj r', Vals.inj t t']
section
variable {X : Cx} {pins : List (Addr × Obj)} {σ : St} {H : Hp} {s : Shared} {a : Addr} {xs ys : List V}
theorem SqL.of {K : PySem.W.Frag} (h : H a = some (.lst xs)) : SqL K H a xs := .inl (.inl h)
theorem SqT.of {K : PySem.W.Frag} (h : H a = some (.tup xs)) : SqT K H a xs := .inl (.inl h)
theorem Inv.list (I : Inv X pins σ H s) (h : SqL X.K H a xs) : ∃ its : List Value, Vals xs its ∧ PlainL s.heap a its.toArray ∧ xs.length ≤ sizeLine := by
  rcases h with h | ⟨o, its, n, hk, hc, hd, hs, hz, r⟩
  · obtain ⟨z, its, n, r, e⟩ := h.ok I.hok
    exact ⟨its, r, ⟨_, n, e, rfl, rfl, rfl⟩, z⟩
  · refine ⟨its.toList, r, ⟨o, n, I.kIn a o hk, hc, hd, by simpa using hs⟩, ?_⟩
    have e := r.length
    simp only [Array.length_toList] at e
    omega
theorem Inv.tuple (I : Inv X pins σ H s) (h : SqT X.K H a xs) : ∃ its : List Value, Vals xs its ∧ IsTup s.heap a its.toArray ∧ xs.length ≤ sizeLine := by
  rcases h with h | ⟨o, its, n, hk, hc, hs, hz, r⟩
  · obtain ⟨z, its, r, p⟩ := h.ok I.hok
    exact ⟨its, r, p, z⟩
  · refine ⟨its.toList, r, ⟨o, I.kIn a o hk, hc, n, by simpa using hs⟩, ?_⟩
    have e := r.length
    simp only [Array.length_toList] at e
    omega
theorem Inv.list_inj (I : Inv X pins σ H s) (h : SqL X.K H a xs) (h' : SqL X.K H a ys) : xs = ys := by
  obtain ⟨its, r, ⟨o, n, e, _, _, d⟩, _⟩ := I.list h
  obtain ⟨its', r', ⟨o', n', e', _, _, d'⟩, _⟩ := I.list h'
  rw [e] at e'; cases e'
  rw [d] at d'
  injection d' with d1 _
  have : its = its' := by simpa using congrArg Array.toList d1
  subst this
  exact r.inj r'
end

/-! ### another wish about exceptions -/
abbrev Cx.wish (X : Cx) (E : Value → Shared → Prop) : Cx := { X with xe := E }
abbrev Cx.nox (X : Cx) : Cx := X.wish fun _ _ => False
theorem Cx.Ok.wish {X : Cx} (ok : X.Ok) (E : Value → Shared → Prop) : (X.wish E).Ok :=
  ⟨ok.mod, ok.kind, ok.glob, ok.blt, ok.above, ok.inj, ok.has, ok.cab, ok.hd, ok.frames, ok.stk, ok.exf, ok.bs, ok.bsz, ok.noex, ok.exfs, ok.funs, ok.frf⟩
theorem Cx.Ok.unwish {X : Cx} {E : Value → Shared → Prop} (ok : (X.wish E).Ok) : X.Ok :=
  ⟨ok.mod, ok.kind, ok.glob, ok.blt, ok.above, ok.inj, ok.has, ok.cab, ok.hd, ok.frames, ok.stk, ok.exf, ok.bs, ok.bsz, ok.noex, ok.exfs, ok.funs, ok.frf⟩
section
variable {X : Cx} {pins : List (Addr × Obj)} {σ : St} {H : Hp} {s : Shared} {E : Value → Shared → Prop}
theorem Inv.wish (I : Inv X pins σ H s) (E : Value → Shared → Prop) : Inv (X.wish E) pins σ H s := ⟨I.ok.wish E, I.os, I.bare, I.base, I.loc, I.cell, I.free, I.freeC, I.pin, I.hok, I.len⟩
theorem Inv.unwish (I : Inv (X.wish E) pins σ H s) : Inv X pins σ H s := ⟨I.ok.unwish, I.os, I.bare, I.base, I.loc, I.cell, I.free, I.freeC, I.pin, I.hok, I.len⟩
theorem SP.unwish {D : Ends} {f : Flow} {s' : Shared} (h : SP (X.wish E) pins D f s') : SP X pins D f s' := by
  cases f with
  | next => obtain ⟨σ', H', I, q⟩ := h; exact ⟨σ', H', I.unwish, q⟩
  | brk => obtain ⟨σ', H', I, q⟩ := h; exact ⟨σ', H', I.unwish, q⟩
  | cont => obtain ⟨σ', H', I, q⟩ := h; exact ⟨σ', H', I.unwish, q⟩
  | ret u => obtain ⟨v, σ', H', I, r, q⟩ := h; exact ⟨v, σ', H', I.unwish, r, q⟩
theorem PSs.nox {st : List Stmt} {t : TS} (h : PSs X.nox st t) : PSs X st t := fun pins s σ H D I hw =>
  wpAny_mono (h pins s σ H D (I.wish _) hw) (fun _ _ q => q.unwish) fun _ _ z => False.elim z
end

/-! ### blocks and small statements -/
section
variable {X : Cx} {st : Stmt} {rest : List Stmt} {t u : TS} {e : Expr} {te : TE} {pos : Pos}
def tNext : TS := fun D σ H => D.nx σ H
def tSeq (t u : TS) : TS := fun D σ H => t { D with nx := u D } σ H
theorem pss_nil : PSs X [] tNext := fun _ _ σ H _ I h => wpAny_execs_nil ⟨σ, H, I, h⟩
theorem pss_cons (h1 : PS X st t) (h2 : PSs X rest u) : PSs X (st :: rest) (tSeq t u) := by
  intro pins s σ H D I h
  refine wpAny_execs_cons (thn (h1 pins s σ H { D with nx := u D } I h) fun f s1 q => ?_)
  cases f with
  | next =>
    obtain ⟨σ', H', I', q⟩ := q
    exact h2 pins s1 σ' H' D I' q
  | ret v => exact q
  | brk => exact q
  | cont => exact q
theorem pss_one (h1 : PS X st t) : PSs X [st] t := by
  intro pins s σ H D I h
  refine wpAny_execs_cons (thn (h1 pins s σ H D I h) fun f s1 q => ?_)
  cases f with
  | next => exact wpAny_execs_nil q
  | ret v => exact q
  | brk => exact q
  | cont => exact q
theorem Inv.quiet {pins : List (Addr × Obj)} {σ : St} {H : Hp} {s : Shared} (I : Inv X pins σ H s) : interactive X.env = false := by simp [interactive, I.ok.kind]
def tDrop (te : TE) : TS := fun D σ H => te σ H fun _ H1 => D.nx σ H1
theorem ps_expr (he : PE X e te) (hs : swapsWith e none pos.line X.env = pure false := by rfl) : PS X (.Expr e pos) (tDrop te) := by
  intro pins s σ H D I h
  exact wpAny_Expr_any (thn (he pins s σ H _ I h) fun v s1 ⟨x, H1, I1, r1, q1⟩ => ⟨σ, H1, I1, q1⟩) I.quiet hs
def tRet (te : TE) : TS := fun D σ H => te σ H D.rt
theorem ps_ret (he : PE X e te) : PS X (.Return (some e) pos) (tRet te) := by
  intro pins s σ H D I h
  exact wpAny_Return_some (thn (he pins s σ H _ I h) fun v s1 ⟨x, H1, I1, r1, q1⟩ => ⟨x, σ, H1, I1, r1, q1⟩)
def tIfS (c : TT) (t u : TS) : TS := fun D σ H => c σ H fun b H1 => if b = true then t D σ H1 else u D σ H1
theorem ps_if {c : Expr} {a b : List Stmt} {tc : TT} (hc : PT X c tc) (ha : PSs X a t) (hb : PSs X b u) : PS X (.If c a b pos) (tIfS tc t u) := by
  intro pins s σ H D I h
  refine wpAny_If (thn (hc pins s σ H _ I h) fun d s1 ⟨H1, I1, q1⟩ => ?_)
  cases d with
  | true => exact ha pins s1 σ H1 D I1 q1
  | false => exact hb pins s1 σ H1 D I1 q1
def tNever : TS := fun _ _ _ => False
theorem pss_never {sts : List Stmt} : PSs X sts tNever := fun _ _ _ _ _ _ h => h.elim
end

/-! ### targets -/
abbrev TG := V → St → Hp → (St → Hp → Prop) → Prop
abbrev TGs := List V → St → Hp → (St → Hp → Prop) → Prop
def PG (X : Cx) (target : Expr) (t : TG) : Prop :=
  ∀ (pins : List (Addr × Obj)) (s : Shared) (σ : St) (H : Hp) (v : V) (u : Value) (Q : St → Hp → Prop), Inv X pins σ H s → RelV v u → t v σ H Q →
    wpAny (model X.prog X.w) X.A (assign target X.env u) (fun _ s' => ∃ σ' H', Inv X pins σ' H' s' ∧ Q σ' H') X.xe s
def PGs (X : Cx) (ts : List Expr) (t : TGs) : Prop :=
  ∀ (pins : List (Addr × Obj)) (s : Shared) (σ : St) (H : Hp) (vs : List V) (us : List Value) (Q : St → Hp → Prop), Inv X pins σ H s → Vals vs us → t vs σ H Q →
    wpAny (model X.prog X.w) X.A (assignInOrder ((assignEach ts X.env).map (·.2)) us) (fun _ s' => ∃ σ' H', Inv X pins σ' H' s' ∧ Q σ' H') X.xe s
abbrev TSet := V → V → V → Hp → (Hp → Prop) → Prop
def PSet (X : Cx) (t : TSet) : Prop :=
  ∀ (pins : List (Addr × Obj)) (s : Shared) (σ : St) (H : Hp) (o i v : V) (ov iv u : Value) (Q : Hp → Prop), Inv X pins σ H s → RelV o ov → RelV i iv → RelV v u → t o i v H Q →
    wpAny (model X.prog X.w) X.A (setItem ov iv u) (fun _ s' => ∃ H', Inv X pins σ H' s' ∧ Q H') X.xe s
section
variable {X : Cx} {pos : Pos}
def gName (i : Nat) : TG := fun v σ H Q => Q (σ.set i (some v)) H
theorem pg_name {i : Nat} {x : Str} (hN : X.N.Nodup) (hi : X.N[i]? = some x) (hx : Loc X.env.scope x) (hf : X.fn x = true ∨ X.env.scope.names.lookup x = some .local := by first | exact .inl rfl | exact .inr rfl | assumption) : PG X (.Name x pos) (gName i) := by
  intro pins s σ H v u Q I r h
  exact wpAny_assign_Name (store_ok I hN hi hx r (fun s' I' => ⟨_, H, I', h⟩) hf)
def gNil : TGs := fun vs σ H Q => vs = [] ∧ Q σ H
def gCons (t : TG) (u : TGs) : TGs := fun vs σ H Q => ∃ v r, vs = v :: r ∧ t v σ H fun σ' H' => u r σ' H' Q
theorem pgs_nil : PGs X [] gNil := by
  intro pins s σ H vs us Q I r h
  obtain ⟨e, h⟩ := h
  subst e
  cases r
  exact assignInOrder_nil ⟨σ, H, I, h⟩
theorem pgs_cons {e : Expr} {es : List Expr} {t : TG} {u : TGs} (h1 : PG X e t) (h2 : PGs X es u)
    (hs : (assignEach (e :: es) X.env).map (·.2) = assign e X.env :: (assignEach es X.env).map (·.2) := by rfl) : PGs X (e :: es) (gCons t u) := by
  intro pins s σ H vs us Q I r h
  obtain ⟨v, vr, e1, h⟩ := h
  subst e1
  cases r with
  | cons r rr =>
    rw [hs]
    refine assignInOrder_cons (thn (h1 pins s σ H _ _ _ I r h) fun _ s1 ⟨σ1, H1, I1, q1⟩ => ?_)
    exact h2 pins s1 σ1 H1 _ _ Q I1 rr q1
def gTup (K : PySem.W.Frag) (n : Nat) (t : TGs) : TG := fun v σ H Q => ∃ a xs, v = .ref a ∧ SqT K H a xs ∧ xs.length = n ∧ t xs σ H Q
theorem pg_tup {es : List Expr} {k : Nat} {t : TGs} {n : Nat} (hc : X.calm = true) (h : PGs X es t)
    (hn : (assignEach es X.env).length = n := by rfl) (hst : (assignEach es X.env).findIdx? (·.1) = none := by rfl) : PG X (.Tuple es k pos) (gTup X.K n t) := by
  intro pins s σ H v u Q I r hw
  obtain ⟨a, xs, e1, hq, hl, hw⟩ := hw
  subst e1
  cases r
  obtain ⟨its, rv, ht, hz⟩ := I.tuple hq
  refine assign_Tuple_tuple (I.ok.hd hc) ht (by simp [hn, ← hl, rv.length]) hst fun h' hx => ?_
  have I1 : Inv X pins σ H { s with heap := h' } := I.kept (t' := s.toks) fun b o e => hx b o (Nat.ne_of_lt (Heap.lt_size e)) e
  exact h pins _ σ H xs _ Q I1 (by simpa using rv) hw
def gSub (to ti : TE) (t : TSet) : TG := fun v σ H Q => to σ H fun o H1 => ti σ H1 fun i H2 => t o i v H2 fun H3 => Q σ H3
theorem pg_sub {o i : Expr} {to ti : TE} {t : TSet} (ho : PE X o to) (hi : PE X i ti) (hs : PSet X t)
    (ha : ∀ v, assign (.Subscript o i pos) X.env v = (do
      let ov ← holding [v] (eval o X.env)
      let iv ← holding [v, ov] (eval i X.env)
      standAt pos
      holding [v, ov, iv] (setItem ov iv v)
      release [v, ov, iv] []) := by intro _; rfl) : PG X (.Subscript o i pos) (gSub to ti t) := by
  intro pins s σ H v u Q I r h
  rw [ha]
  refine wpAny_bind (wpAny_holding (thn (ho pins s σ H _ I h) fun ov s1 ⟨x, H1, I1, r1, q1⟩ => ?_))
  refine wpAny_bind (wpAny_holding (thn (hi pins s1 σ H1 _ I1 q1) fun iv s2 ⟨y, H2, I2, r2, q2⟩ => ?_))
  refine wpAny_bind (wpAny_standAt (wpAny_bind (wpAny_holding (thn (hs pins s2 σ H2 x y v ov iv u _ I2 r1 r2 r q2) fun _ s3 ⟨H3, I3, q3⟩ => ?_))))
  exact wpAny_release ⟨σ, H3, I3, q3⟩
def tAsg (te : TE) (g : TG) : TS := fun D σ H => te σ H fun x H1 => g x σ H1 D.nx
theorem ps_asg {tg e : Expr} {te : TE} {g : TG} (he : PE X e te) (hg : PG X tg g) (hs : swapsWithSole [tg] e pos.line X.env = pure false := by rfl) (hw : swappedStores [tg] e X.env = pure none := by rfl)
    (h1 : (assignEach [tg] X.env).map (·.2) = [assign tg X.env] := by rfl) : PS X (.Assign [tg] e pos) (tAsg te g) := by
  intro pins s σ H D I h
  refine wpAny_Assign_stores (thn (he pins s σ H _ I h) fun v s1 ⟨x, H1, I1, r1, q1⟩ => ?_) hs hw
  rw [h1]
  exact thn (hg pins s1 σ H1 x v _ I1 r1 q1) fun _ s2 q => q
theorem ps_set {i : Nat} {x : Str} {e : Expr} {te : TE} {pos' : Pos} (hN : X.N.Nodup) (hi : X.N[i]? = some x) (hx : Loc X.env.scope x) (he : PE X e te) (hs : swapsWith e (some (.Name x pos')) pos.line X.env = pure false := by rfl) (hf : X.fn x = true ∨ X.env.scope.names.lookup x = some .local := by first | exact .inl rfl | exact .inr rfl | assumption) :
    PS X (.Assign [.Name x pos'] e pos) (tAsg te (gName i)) := by
  intro pins s σ H D I h
  refine wpAny_Assign_Name (thn (he pins s σ H _ I h) fun v s1 ⟨y, H1, I1, r1, q1⟩ => ?_) hs
  exact store_ok I1 hN hi hx r1 (fun s2 I2 => ⟨_, H1, I2, q1⟩) hf
end

/-! ### while -/
section
variable {X : Cx} {pos : Pos}
def tWhile (c : TT) (tb : TS) : TS := fun D σ H => ∃ W : Nat → St → Hp → Prop, (∃ m, W m σ H) ∧ ∀ m σ H, W m σ H →
  c σ H fun b H1 => if b = true then ∃ N : St → Hp → Prop, (∀ σ' H', N σ' H' → ∃ m', m' < m ∧ W m' σ' H') ∧ tb { D with nx := N, ct := N, bk := D.nx } σ H1 else D.nx σ H1
theorem ps_while {c : Expr} {body : List Stmt} {tc : TT} {tb : TS} (hp : PassesOwn (model X.prog X.w) X.A X.env X.xe) (hc : PT X c tc) (hb : PSs X body tb) : PS X (.While c body [] pos) (tWhile tc tb) := by
  intro pins s σ H D I h
  obtain ⟨W, ⟨m0, w0⟩, turn⟩ := h
  refine wpAny_While (codeAny_whileLoop (fun n s' => ∃ σ' H', Inv X pins σ' H' s' ∧ W n σ' H') ?_ m0 ⟨σ, H, I, w0⟩)
  rintro n s1 ⟨σ1, H1, I1, w1⟩
  refine wpAny_passesOwn hp (thn (hc pins s1 σ1 H1 _ I1 (turn n σ1 H1 w1)) fun b s2 ⟨H2, I2, q2⟩ => ?_)
  cases b with
  | true =>
    obtain ⟨N, hN, q2⟩ := q2
    rw [if_pos rfl]
    refine wpAny_passesOwn hp (thn (hb pins s2 σ1 H2 _ I2 q2) fun f s3 q3 => ?_)
    cases f with
    | next =>
      obtain ⟨σ3, H3, I3, n3⟩ := q3
      obtain ⟨m', hm, w3⟩ := hN σ3 H3 n3
      exact ⟨m', hm, σ3, H3, I3, w3⟩
    | cont =>
      obtain ⟨σ3, H3, I3, n3⟩ := q3
      obtain ⟨m', hm, w3⟩ := hN σ3 H3 n3
      exact ⟨m', hm, σ3, H3, I3, w3⟩
    | brk => exact q3
    | ret v => exact q3
  | false =>
    rw [if_neg Bool.false_ne_true]
    exact wpAny_execs_nil ⟨σ1, H2, I2, q2⟩
end

/-! ### what a loop or a comprehension walks -/
structure It where
  go : Nat → Hp → Prop
  yld : Nat → Hp → V → Hp → Prop
  stop : Nat → Hp → Prop
def FpOk (X : Cx) (pins : List (Addr × Obj)) (H : Hp) (b : Addr) : Prop :=
  H b = none ∧ b ≠ X.env.locals ∧ b ∉ X.fs ∧ (b ∈ X.ex ∨ X.s₀.heap.objs.size ≤ b) ∧ (∀ x c, X.env.cells.lookup x = some c → c ≠ b) ∧ ∀ p ∈ X.pn ++ pins, p.1 ≠ b
theorem Inv.fpOk {X : Cx} {pins : List (Addr × Obj)} {σ : St} {H H' : Hp} {s : Shared} {b : Addr} (I : Inv X pins σ H s) (hb : s.heap.objs.size ≤ b) (hn : H' b = none) : FpOk X pins H' b := by
  refine ⟨hn, Nat.ne_of_gt (Nat.lt_of_lt_of_le I.lt hb), I.nofs hb, .inr (Nat.le_trans I.sz hb), fun x c e z => ?_, fun p hp z => ?_⟩
  · obtain ⟨v, q⟩ := I.cell x c e
    exact absurd (Nat.lt_of_lt_of_le q.lt (by rw [z]; exact hb)) (Nat.lt_irrefl _)
  · exact absurd (Nat.lt_of_lt_of_le (Heap.lt_size (I.pin p hp).1) (by rw [z]; exact hb)) (Nat.lt_irrefl _)
structure Turn (P : Program) (w : World) (K : PySem.W.Frag) (tg : Expr) (J : It) (fp : List Addr) (it : Addr) (tn : Nat → Heap → Prop) : Prop where
  mem : it ∈ fp
  obj : ∀ i h, tn i h → ∀ b ∈ fp, ∃ o, h.get? b = some o ∧ ∀ v, o.data ≠ .cell v
  keep : ∀ i h h', tn i h → (∀ b ∈ fp, ∀ o, h.get? b = some o → h'.get? b = some o) → tn i h'
  item : ∀ (X : Cx), X.prog = P → X.w = w → X.K = K → X.calm = true → ∀ (i : Nat) (pins : List (Addr × Obj)) (s : Shared) (σ : St) (H : Hp) (E : Value → Shared → Prop), Inv X pins σ H s → (∀ b ∈ fp, FpOk X pins H b) → tn i s.heap → J.go i H →
    wpAny (model P w) X.A (pyNext (.ref it)) (fun r s1 => ∃ u, r = some u ∧
      wpAny (model P w) X.A (letOwnedTupleGo tg (.ref it) u) (fun _ s2 => ∃ x H', Inv X pins σ H' s2 ∧ RelV x u ∧ J.yld i H x H' ∧ tn (i + 1) s2.heap ∧ ∀ b ∈ fp, H' b = none) E s1) E s
  done : ∀ (X : Cx), X.prog = P → X.w = w → X.K = K → X.calm = true → ∀ (i : Nat) (pins : List (Addr × Obj)) (s : Shared) (σ : St) (H : Hp) (E : Value → Shared → Prop), Inv X pins σ H s → (∀ b ∈ fp, FpOk X pins H b) → tn i s.heap → J.stop i H →
    wpAny (model P w) X.A (pyNext (.ref it)) (fun r s1 => r = none ∧ Inv X pins σ H s1) E s
  self : ∀ (A : Around) (i : Nat) (s : Shared) (Q : Value → Shared → Prop) (E : Value → Shared → Prop), tn i s.heap → Q (.ref it) s → wpAny (model P w) A (pyIter (.ref it)) Q E s
abbrev TI := St → Hp → (It → Hp → Prop) → Prop
def PIE (X : Cx) (pins : List (Addr × Obj)) (σ : St) (tg : Expr) (R : It → Hp → Prop) (itv : Value) (s2 : Shared) : Prop :=
  ∃ (it : Addr) (fp : List Addr) (tn : Nat → Heap → Prop) (J : It) (H' : Hp), itv = .ref it ∧ Inv X pins σ H' s2 ∧ Turn X.prog X.w X.K tg J fp it tn ∧ tn 0 s2.heap ∧ (∀ b ∈ fp, FpOk X pins H' b) ∧ R J H'
def PI (X : Cx) (tg iter : Expr) (wi : TI) : Prop :=
  ∀ (pins : List (Addr × Obj)) (s : Shared) (σ : St) (H : Hp) (R : It → Hp → Prop), Inv X pins σ H s → wi σ H R →
    wpAny (model X.prog X.w) X.A (eval iter X.env) (fun v s1 => wpAny (model X.prog X.w) X.A (pyIter v) (PIE X pins σ tg R) X.xe s1) X.xe s

theorem go_of {M : Model} {A : Around} {E : Value → Shared → Prop} {s : Shared} {tg : Expr} {it : Addr} {u : Value} {o : Obj} {n : String} {vs : Array Value} {Q : Unit → Shared → Prop} (ho : s.heap.get? it = some o) (hc : o.cls = .type n) (hd : o.data = .fields vs)
    (hn : ["enumerate", "zip", "dict_itemiterator", "dict_reverseitemiterator", "odict_iterator", "itertools.zip_longest", "itertools.pairwise"].contains n = false) (hQ : Q () s) : wpAny M A (letOwnedTupleGo tg (.ref it) u) Q E s := by
  unfold letOwnedTupleGo
  cases tg <;> first
    | exact wpAny_pure hQ
    | (cases u <;> first
        | exact wpAny_pure hQ
        | (refine wpAny_bind (wpAny_load ho ?_)
           rw [hc, hd]
           show wpAny M A (if (["enumerate", "zip", "dict_itemiterator", "dict_reverseitemiterator", "odict_iterator", "itertools.zip_longest", "itertools.pairwise"].contains n && vs[0]? == some (rawInt _)) = true then _ else _) Q E s
           rw [if_neg (by intro h; rw [hn, Bool.false_and] at h; cases h)]
           exact wpAny_pure hQ))

def Itl (K : PySem.W.Frag) (a : Addr) : It :=
  ⟨fun i H => ∃ xs x, SqL K H a xs ∧ xs[i]? = some x, fun i H x H' => H' = H ∧ ∀ xs, SqL K H a xs → xs[i]? = some x, fun i H => ∃ xs, SqL K H a xs ∧ xs.length ≤ i⟩
def Itr (lo : Int) (n : Nat) : It := ⟨fun i _ => i < n, fun i H x H' => H' = H ∧ x = .int (lo + i), fun i _ => n ≤ i⟩
theorem turn_list {P : Program} {w : World} {K : PySem.W.Frag} {tg : Expr} (a it : Addr) : Turn P w K tg (Itl K a) [it] it (fun i h => h.IsListIter it a i) where
  mem := by simp
  obj := fun i h st b hb => by
    have e : b = it := by simpa using hb
    subst e
    obtain ⟨o, e, c, d⟩ := st
    exact ⟨o, e, fun v z => by rw [d] at z; cases z⟩
  keep := fun i h h' st k => st.at fun o e => k it (by simp) o e
  item := by
    intro X hP hw hK hc i pins s σ H E I hf st hg
    subst hP hw hK
    obtain ⟨xs, x, hq, hx⟩ := hg
    obtain ⟨its, rv, p, hz⟩ := I.list hq
    obtain ⟨u, hu, ru⟩ := rv.get hx
    obtain ⟨f0, f1, f2, f3, f4, f5⟩ := hf it (by simp)
    refine wpAny_pyNext_list_item st p.isList (x := u) (by simpa using hu) fun h' st' sb => ?_
    have I1 : Inv X pins σ H { s with heap := h' } := I.turned (t' := s.toks) (fun b o hb e => (sb.2 b hb).trans e) f0 f1 f3 f4 f5
    obtain ⟨o, e, c, d⟩ := id st'
    exact ⟨u, rfl, go_of (s := { s with heap := h' }) e c d (by decide) ⟨x, H, I1, ru, ⟨rfl, fun ys hy => by rw [I.list_inj hy hq]; exact hx⟩, st', fun b hb => (hf b hb).1⟩⟩
  done := by
    intro X hP hw hK hc i pins s σ H E I hf st hg
    subst hP hw hK
    obtain ⟨xs, hq, hx⟩ := hg
    obtain ⟨its, rv, p, hz⟩ := I.list hq
    obtain ⟨f0, f1, f2, f3, f4, f5⟩ := hf it (by simp)
    have hl := rv.length
    exact wpAny_pyNext_list_end (I.ok.hd hc) st p.isList (by simp; omega) fun h' eb => ⟨rfl, I.turned (t' := s.toks) (fun b o hb e => eb b o hb e) f0 f1 f3 f4 f5⟩
  self := fun _ _ _ _ _ st h => wpAny_pyIter_listiter st h
theorem turn_range {P : Program} {w : World} {K : PySem.W.Frag} {tg : Expr} (it : Addr) (lo : Int) (n : Nat) : Turn P w K tg (Itr lo n) [it] it (fun i h => IsRangeIter h it (lo + (i : Nat) * 1) ((n : Int) - (i : Nat)) 1) where
  mem := by simp
  obj := fun i h st b hb => by
    have e : b = it := by simpa using hb
    subst e
    exact ⟨_, st, fun v z => by
      have z' : Data.fields _ = Data.cell v := z
      cases z'⟩
  keep := fun i h h' st k => k it (by simp) _ st
  item := by
    intro X hP hw hK hc i pins s σ H E I hf st hg
    subst hP hw hK
    obtain ⟨f0, f1, f2, f3, f4, f5⟩ := hf it (by simp)
    have W := Walks.range (prog := X.prog) (w := X.w) (I.ok.hd hc) it lo 1 n
    refine W.item i s _ _ hg st fun v h' tk hv st' kk => ?_
    obtain ⟨t, rfl⟩ := hv
    have I1 : Inv X pins σ H { s with heap := h', toks := tk } := I.turned (fun b o hb e => kk b o (by simpa using hb) e) f0 f1 f3 f4 f5
    refine ⟨_, rfl, go_of (s := { s with heap := h', toks := tk }) (n := "range_iterator") st' rfl rfl (by decide) ⟨.int (lo + i), H, I1, ⟨t, ?_⟩, ⟨rfl, rfl⟩, st', fun b hb => (hf b hb).1⟩⟩
    rw [Int.mul_one]
  done := by
    intro X hP hw hK hc i pins s σ H E I hf st hg
    subst hP hw hK
    obtain ⟨f0, f1, f2, f3, f4, f5⟩ := hf it (by simp)
    exact wpAny_pyNext_range_end (I.ok.hd hc) st (by have : n ≤ i := hg; omega) fun h' eb => ⟨rfl, I.turned (t' := s.toks) (fun b o hb e => eb b o hb e) f0 f1 f3 f4 f5⟩
  self := fun _ _ _ _ _ st h => wpAny_pyIter_rangeiter st h
end L2

namespace L2
open PySem PySem.Spec PyProof.Rows
section
variable {X : Cx} {tg : Expr}
def iList (K : PySem.W.Frag) (tl : TE) : TI := fun σ H R => tl σ H fun x H1 => ∃ a, x = .ref a ∧ (∃ xs, SqL K H1 a xs) ∧ R (Itl K a) H1
theorem pi_list {l : Expr} {tl : TE} (hl : PE X l tl) : PI X tg l (iList X.K tl) := by
  intro pins s σ H R I h
  refine thn (hl pins s σ H _ I h) fun v s1 ⟨x, H1, I1, r1, q1⟩ => ?_
  obtain ⟨a, e, ⟨xs, hq⟩, q⟩ := q1
  subst e
  cases r1
  obtain ⟨its, rv, p, hz⟩ := I1.list hq
  refine wpAny_pyIter_list p.isList ?_
  refine ⟨s1.heap.objs.size, [s1.heap.objs.size], _, _, H1, rfl, I1.kept (t' := s1.toks) fun b o e => Heap.get?_push_of_some _ e, turn_list a _, ⟨_, Heap.get?_push_size _ rfl, rfl, rfl⟩, fun b hb => ?_, q⟩
  have e : b = s1.heap.objs.size := by simpa using hb
  subst e
  exact I1.fpOk (Nat.le_refl _) (I1.hok.fresh (Nat.le_refl _))
theorem range_it {pins : List (Addr × Obj)} {σ : St} {H : Hp} {s : Shared} {R : It → Hp → Prop} {E : Value → Shared → Prop} {lo hi : Int} {t u v : Tok} {tk : Nat} (I : Inv X pins σ H s) (h1 : -(2 ^ 62) ≤ lo) (h2 : lo < 2 ^ 62) (h3 : -(2 ^ 62) ≤ hi) (h4 : hi < 2 ^ 62)
    (q : R (Itr lo (hi - lo).toNat) H) : wpAny (model X.prog X.w) X.A (pyIter (.ref s.heap.objs.size)) (PIE X pins σ tg R) E { s with heap := s.heap.push { cls := .type "range", data := .fields #[.int lo t, .int hi u, .int 1 v] }, toks := tk } := by
  refine wpAny_pyIter_range (IsRange.new ..) (small_one h1 h2 h3 h4) ?_
  have I1 : Inv X pins σ H { s with heap := s.heap.push { cls := .type "range", data := .fields #[.int lo t, .int hi u, .int 1 v] }, toks := tk } := I.kept fun b o e => Heap.get?_push_of_some _ e
  refine ⟨(s.heap.push { cls := .type "range", data := .fields #[.int lo t, .int hi u, .int 1 v] }).objs.size, [(s.heap.push { cls := .type "range", data := .fields #[.int lo t, .int hi u, .int 1 v] }).objs.size], _, _, H, rfl,
    I1.kept (t' := tk) fun b o e => Heap.get?_push_of_some _ e, turn_range _ lo (hi - lo).toNat, ?_, fun b hb => ?_, q⟩
  · have e1 : lo + ((0 : Nat) : Int) * 1 = lo := by simp
    have e2 : (((hi - lo).toNat : Nat) : Int) - ((0 : Nat) : Int) = Builtin.Range.rangeSize lo hi 1 := by rw [rangeSize_one]; split <;> omega
    show IsRangeIter _ _ (lo + ((0 : Nat) : Int) * 1) ((((hi - lo).toNat : Nat) : Int) - ((0 : Nat) : Int)) 1
    rw [e1, e2]
    exact Heap.get?_push_size _ rfl
  · have e : b = (s.heap.push { cls := .type "range", data := .fields #[.int lo t, .int hi u, .int 1 v] }).objs.size := by simpa using hb
    subst e
    exact I1.fpOk (Nat.le_refl _) (I1.hok.fresh (Nat.le_refl _))
def iRng1 (ta : TA) : TI := fun σ H R => ta σ H fun vs H1 => ∃ j : Int, vs = [.int j] ∧ -(2 ^ 62) ≤ j ∧ j < 2 ^ 62 ∧ R (Itr 0 j.toNat) H1
theorem pi_range1 {a : Expr} {ta : TA} {p pos : Pos} (hg : Gl X "range") (hm : X.mg "range" = none) (ha : PA X [a] ta) (hs : starEach [a] X.env = [(false, eval a X.env)] := by rfl) : PI X tg (.Call (.Name "range" p) [a] [] pos) (iRng1 ta) := by
  intro pins s σ H R I h
  refine Call_ (ld_blt I hg hm boot_range (PyProof.Rows.callWith_type1 (thn (ha pos pins s σ H _ I h) fun us s1 ⟨vs, H1, I1, r1, q1⟩ => ?_) hs rfl))
  obtain ⟨j, e, q1, q2, q⟩ := q1
  subst e
  cases r1 with
  | cons r rr =>
    cases rr
    obtain ⟨t, rfl⟩ := r
    exact call_range_1 (range_it I1 (by omega) (by omega) q1 q2 (by simpa using q))
/-! ### for -/
def tFor (wi : TI) (g : TG) (tb : TS) : TS := fun D σ H => wi σ H fun J H1 => ∃ W : Nat → Nat → St → Hp → Prop, (∃ m, W 0 m σ H1) ∧ ∀ i m σ H, W i m σ H →
  (J.stop i H ∧ D.nx σ H) ∨ (J.go i H ∧ ∃ N : St → Hp → Prop, (∀ σ' H', N σ' H' → ∃ m', m' < m ∧ W (i + 1) m' σ' H') ∧ ∀ x H', J.yld i H x H' → g x σ H' fun σ2 H2 => tb { D with nx := N, ct := N, bk := D.nx } σ2 H2)
def pinsAt (fp : List Addr) (h : Heap) : List (Addr × Obj) := fp.filterMap fun b => (h.get? b).map fun o => (b, o)
theorem mem_pinsAt {fp : List Addr} {h : Heap} {b : Addr} {o : Obj} (hb : b ∈ fp) (e : h.get? b = some o) : (b, o) ∈ pinsAt fp h := List.mem_filterMap.mpr ⟨b, hb, by rw [e]; rfl⟩
theorem of_pinsAt {fp : List Addr} {h : Heap} {p : Addr × Obj} (hp : p ∈ pinsAt fp h) : p.1 ∈ fp ∧ h.get? p.1 = some p.2 := by
  obtain ⟨b, hb, e⟩ := List.mem_filterMap.mp hp
  cases q : h.get? b with
  | none => rw [q] at e; cases e
  | some o =>
    rw [q] at e
    have e' : (b, o) = p := Option.some.inj e
    subst e'
    exact ⟨hb, q⟩
theorem Inv.pinned {pins : List (Addr × Obj)} {σ : St} {H : Hp} {s : Shared} {fp : List Addr} (I : Inv X pins σ H s) (hf : ∀ b ∈ fp, FpOk X pins H b) (ho : ∀ b ∈ fp, ∃ o, s.heap.get? b = some o ∧ ∀ v, o.data ≠ .cell v) : Inv X (pins ++ pinsAt fp s.heap) σ H s :=
  I.pins_of fun p hp => (List.mem_append.mp hp).elim (fun z => I.pin p (List.mem_append_right _ z)) fun z => by
    obtain ⟨hb, e⟩ := of_pinsAt z
    obtain ⟨f0, f1, f2, _⟩ := hf p.1 hb
    obtain ⟨o, e', d⟩ := ho p.1 hb
    rw [e] at e'; cases e'
    exact ⟨e, f0, f1, f2, d⟩
theorem Inv.unpinned {pins pl : List (Addr × Obj)} {σ : St} {H : Hp} {s : Shared} (I : Inv X (pins ++ pl) σ H s) : Inv X pins σ H s := I.pins_of fun p hp => I.pin p (List.mem_append_right _ (List.mem_append_left _ hp))
theorem ps_for {iter : Expr} {body : List Stmt} {wi : TI} {g : TG} {tb : TS} {pos : Pos} (hp : PassesOwn (model X.prog X.w) X.A X.env X.xe) (hc : X.calm = true) (hi : PI X tg iter wi) (hg : PG X tg g) (hb : PSs X body tb)
    (hs : ∀ x, foldedSetIterable iter X.env x = pure x := by intro _; rfl) : PS X (.For tg iter body [] pos) (tFor wi g tb) := by
  intro pins s σ H D I h
  refine wpAny_For (thn (hi pins s σ H _ I h) fun v s1 h1 => thn h1 fun itv s2 h2 => ?_) hs
  obtain ⟨it, fp, tn, J, H2, e, I2, T, st2, f2, W, ⟨m0, w0⟩, turn⟩ := h2
  subst e
  -- what stays true of the iterator's objects through the loop
  have stat : ∀ {H' : Hp}, (∀ b ∈ fp, H' b = none) → ∀ b ∈ fp, FpOk X pins H' b := fun hn b hb => ⟨hn b hb, (f2 b hb).2⟩
  refine codeAny_forLoop_any (fun n s' => ∃ i σ' H', Inv X pins σ' H' s' ∧ tn i s'.heap ∧ (∀ b ∈ fp, H' b = none) ∧ W i n σ' H') ?_ m0 ⟨0, σ, H2, I2, st2, fun b hb => (f2 b hb).1, w0⟩
  rintro n s3 ⟨i, σ3, H3, I3, st3, fr3, w3⟩
  rcases turn i n σ3 H3 w3 with ⟨stop, qn⟩ | ⟨go, N, hN, step⟩
  · refine wpAny_passesOwn hp (thn (T.done X rfl rfl rfl hc i pins s3 σ3 H3 X.xe I3 (stat fr3) st3 stop) fun r s4 ⟨hr, I4⟩ => ?_)
    subst hr
    exact wpAny_execs_nil ⟨σ3, H3, I4, qn⟩
  · refine wpAny_passesOwn hp (thn (T.item X rfl rfl rfl hc i pins s3 σ3 H3 X.xe I3 (stat fr3) st3 go) fun r s4 ⟨u, hr, h4⟩ => ?_)
    subst hr
    refine wpAny_passesOwn hp (thn h4 fun _ s5 ⟨x, H5, I5, r5, y5, st5, fr5⟩ => ?_)
    have I5' := I5.pinned (stat fr5) (T.obj _ _ st5)
    refine wpAny_passesOwn hp (thn (hg _ s5 σ3 H5 x u _ I5' r5 (step x H5 y5)) fun _ s6 ⟨σ6, H6, I6, q6⟩ => ?_)
    refine wpAny_passesOwn hp (thn (hb _ s6 σ6 H6 _ I6 q6) fun f s7 q7 => ?_)
    have again : ∀ {σ7 : St} {H7 : Hp}, Inv X (pins ++ pinsAt fp s5.heap) σ7 H7 s7 → N σ7 H7 → ∃ m, m < n ∧ ∃ i σ' H', Inv X pins σ' H' s7 ∧ tn i s7.heap ∧ (∀ b ∈ fp, H' b = none) ∧ W i m σ' H' := fun {σ7 H7} I7 n7 => by
      obtain ⟨m', hm, w7⟩ := hN σ7 H7 n7
      refine ⟨m', hm, i + 1, σ7, H7, I7.unpinned, T.keep _ _ _ st5 fun b hb o e => (I7.pin (b, o) (List.mem_append_right _ (List.mem_append_right _ (mem_pinsAt hb e)))).1, fun b hb => ?_, w7⟩
      obtain ⟨o, e, d⟩ := T.obj _ _ st5 b hb
      exact (I7.pin (b, o) (List.mem_append_right _ (List.mem_append_right _ (mem_pinsAt hb e)))).2.1
    cases f with
    | next => obtain ⟨σ7, H7, I7, n7⟩ := q7; exact again I7 n7
    | cont => obtain ⟨σ7, H7, I7, n7⟩ := q7; exact again I7 n7
    | brk => obtain ⟨σ7, H7, I7, q7⟩ := q7; exact ⟨σ7, H7, I7.unpinned, q7⟩
    | ret v => obtain ⟨x7, σ7, H7, I7, r7, q7⟩ := q7; exact ⟨x7, σ7, H7, I7.unpinned, r7, q7⟩
end

/-! ### the forms one uses -/
theorem for_list {K : PySem.W.Frag} {a : Addr} {xs : List V} {g : TG} {tb : TS} {D : Ends} {σ : St} {H : Hp} (Pv : Nat → St → Hp → Prop) (h0 : Pv 0 σ H) (hl : ∀ i σ H, i ≤ xs.length → Pv i σ H → SqL K H a xs)
    (hs : ∀ i x σ H, xs[i]? = some x → Pv i σ H → g x σ H fun σ2 H2 => tb { D with nx := Pv (i + 1), ct := Pv (i + 1), bk := D.nx } σ2 H2) (hd : ∀ σ H, Pv xs.length σ H → D.nx σ H) :
    ∃ W : Nat → Nat → St → Hp → Prop, (∃ m, W 0 m σ H) ∧ ∀ i m σ H, W i m σ H →
      ((Itl K a).stop i H ∧ D.nx σ H) ∨ ((Itl K a).go i H ∧ ∃ N : St → Hp → Prop, (∀ σ' H', N σ' H' → ∃ m', m' < m ∧ W (i + 1) m' σ' H') ∧ ∀ x H', (Itl K a).yld i H x H' → g x σ H' fun σ2 H2 => tb { D with nx := N, ct := N, bk := D.nx } σ2 H2) := by
  refine ⟨fun i m σ H => m = xs.length - i ∧ i ≤ xs.length ∧ Pv i σ H, ⟨xs.length, by simp, Nat.zero_le _, h0⟩, ?_⟩
  rintro i m σ H ⟨rfl, hi, p⟩
  have q := hl i σ H hi p
  by_cases hlt : i < xs.length
  · refine .inr ⟨⟨xs, xs[i], q, by simp [hlt]⟩, Pv (i + 1), fun σ' H' p' => ⟨xs.length - (i + 1), by omega, rfl, hlt, p'⟩, fun x H' y => ?_⟩
    obtain ⟨e, y⟩ := y
    subst e
    exact hs i x σ _ (y xs q) p
  · have e : i = xs.length := by omega
    subst e
    exact .inl ⟨⟨xs, q, Nat.le_refl _⟩, hd σ H p⟩
theorem for_range {lo : Int} {n : Nat} {g : TG} {tb : TS} {D : Ends} {σ : St} {H : Hp} (Pv : Nat → St → Hp → Prop) (h0 : Pv 0 σ H)
    (hs : ∀ i σ H, i < n → Pv i σ H → g (.int (lo + i)) σ H fun σ2 H2 => tb { D with nx := Pv (i + 1), ct := Pv (i + 1), bk := D.nx } σ2 H2) (hd : ∀ σ H, Pv n σ H → D.nx σ H) :
    ∃ W : Nat → Nat → St → Hp → Prop, (∃ m, W 0 m σ H) ∧ ∀ i m σ H, W i m σ H →
      ((Itr lo n).stop i H ∧ D.nx σ H) ∨ ((Itr lo n).go i H ∧ ∃ N : St → Hp → Prop, (∀ σ' H', N σ' H' → ∃ m', m' < m ∧ W (i + 1) m' σ' H') ∧ ∀ x H', (Itr lo n).yld i H x H' → g x σ H' fun σ2 H2 => tb { D with nx := N, ct := N, bk := D.nx } σ2 H2) := by
  refine ⟨fun i m σ H => m = n - i ∧ i ≤ n ∧ Pv i σ H, ⟨n, by simp, Nat.zero_le _, h0⟩, ?_⟩
  rintro i m σ H ⟨rfl, hi, p⟩
  by_cases hlt : i < n
  · refine .inr ⟨hlt, Pv (i + 1), fun σ' H' p' => ⟨n - (i + 1), by omega, rfl, hlt, p'⟩, fun x H' y => ?_⟩
    obtain ⟨e, y⟩ := y
    subst e y
    exact hs i σ _ hlt p
  · have e : i = n := by omega
    subst e
    exact .inl ⟨Nat.le_refl _, hd σ H p⟩
end L2

namespace L2
open PySem PySem.Spec PyProof.Rows

abbrev R2 := V → V → Hp → VK → Prop
def OpR (X : Cx) (f : Value → Value → Sem Value) (r : R2) : Prop :=
  ∀ (pins : List (Addr × Obj)) (s : Shared) (σ : St) (H : Hp) (x y : V) (v u : Value) (Q : VK), Inv X pins σ H s → RelV x v → RelV y u → r x y H Q →
    wpAny (model X.prog X.w) X.A (f v u) (EP X pins σ Q) X.xe s
def UnR (X : Cx) (f : Value → Sem Value) (r : V → Hp → VK → Prop) : Prop :=
  ∀ (pins : List (Addr × Obj)) (s : Shared) (σ : St) (H : Hp) (x : V) (v : Value) (Q : VK), Inv X pins σ H s → RelV x v → r x H Q →
    wpAny (model X.prog X.w) X.A (f v) (EP X pins σ Q) X.xe s
def CallR (X : Cx) (f : Value) (r : List V → Hp → VK → Prop) : Prop :=
  ∀ (pins : List (Addr × Obj)) (s : Shared) (σ : St) (H : Hp) (xs : List V) (us : List Value) (Q : VK), Inv X pins σ H s → Vals xs us → r xs H Q →
    wpAny (model X.prog X.w) X.A (call f us) (EP X pins σ Q) X.xe s
def tOp (r : R2) (ta tb : TE) : TE := fun σ H Q => ta σ H fun x H1 => tb σ H1 fun y H2 => r x y H2 Q
def tUn (r : V → Hp → VK → Prop) (ta : TE) : TE := fun σ H Q => ta σ H fun x H1 => r x H1 Q
def rI (C : Int → Int → Prop) (g : Int → Int → V) : R2 := fun x y H Q => ∃ i j, x = .int i ∧ y = .int j ∧ C i j ∧ Q (g i j) H
def rI0 (g : Int → Int → V) : R2 := fun x y H Q => ∃ i j, x = .int i ∧ y = .int j ∧ Q (g i j) H
def rU (g : Int → V) : V → Hp → VK → Prop := fun x H Q => ∃ i, x = .int i ∧ Q (g i) H

section
variable {X : Cx} {a b c : Expr} {ta tb tc : TE} {pos : Pos}

theorem binT (ha : PE X a ta) (hb : PE X b tb) {pins : List (Addr × Obj)} {s : Shared} {σ : St} {H : Hp} {R : V → V → Hp → Prop} (I : Inv X pins σ H s)
    (h : ta σ H fun x H1 => tb σ H1 fun y H2 => R x y H2) {Q : Value → Shared → Prop} {f : Value → Value → Sem Value}
    (hf : ∀ v u s2 x y H2, Inv X pins σ H2 s2 → RelV x v → RelV y u → R x y H2 → wpAny (model X.prog X.w) X.A (f v u) Q X.xe s2) :
    wpAny (model X.prog X.w) X.A (eval a X.env) (fun v s₁ => wpAny (model X.prog X.w) X.A (eval b X.env) (fun u s₂ => wpAny (model X.prog X.w) X.A (f v u) Q X.xe s₂) X.xe s₁) X.xe s := by
  refine thn (ha pins s σ H _ I h) fun v s1 ⟨x, H1, I1, r1, q1⟩ => ?_
  refine thn (hb pins s1 σ H1 _ I1 q1) fun u s2 ⟨y, H2, I2, r2, q2⟩ => ?_
  exact hf v u s2 x y H2 I2 r1 r2 q2

theorem pe_op {op : Operator} {r : R2} (ho : OpR X (binaryOp op) r) (ha : PE X a ta) (hb : PE X b tb) : PE X (.BinOp a op b pos) (tOp r ta tb) := by
  intro pins s σ H Q I h
  exact wpAny_BinOp (binT ha hb I h fun v u s2 x y H2 I2 rx ry q => ho pins s2 σ H2 x y v u Q I2 rx ry q)
theorem pe_un {op : UnaryOp} {r : V → Hp → VK → Prop} (ho : UnR X (unaryOp op) r) (ha : PE X a ta) : PE X (.UnaryOp op a pos) (tUn r ta) := by
  intro pins s σ H Q I h
  exact UnaryOp_ (thn (ha pins s σ H _ I h) fun v s1 ⟨x, H1, I1, r1, q1⟩ => ho pins s1 σ H1 x v Q I1 r1 q1)
/-! ### ints -/
theorem opI {f : Value → Value → Sem Value} {C : Int → Int → Prop} {g : Int → Int → Int}
    (rule : ∀ (i j : Int) (t u : Tok) (s : Shared) (Q : Value → Shared → Prop) (E : Value → Shared → Prop), C i j → Q (.int (g i j) s.toks) { s with toks := s.toks + 1 } → wpAny (model X.prog X.w) X.A (f (.int i t) (.int j u)) Q E s) :
    OpR X f (rI C fun i j => .int (g i j)) := by
  intro pins s σ H x y v u Q I rx ry h
  obtain ⟨i, j, rfl, rfl, hc, q⟩ := h
  obtain ⟨t, rfl⟩ := rx
  obtain ⟨t', rfl⟩ := ry
  exact rule i j t t' s _ _ hc ⟨.int (g i j), H, I.tok _, ⟨_, rfl⟩, q⟩
theorem opI0 {f : Value → Value → Sem Value} {g : Int → Int → Int}
    (rule : ∀ (i j : Int) (t u : Tok) (s : Shared) (Q : Value → Shared → Prop) (E : Value → Shared → Prop), Q (.int (g i j) s.toks) { s with toks := s.toks + 1 } → wpAny (model X.prog X.w) X.A (f (.int i t) (.int j u)) Q E s) :
    OpR X f (rI0 fun i j => .int (g i j)) := by
  intro pins s σ H x y v u Q I rx ry h
  obtain ⟨i, j, rfl, rfl, q⟩ := h
  obtain ⟨t, rfl⟩ := rx
  obtain ⟨t', rfl⟩ := ry
  exact rule i j t t' s _ _ ⟨.int (g i j), H, I.tok _, ⟨_, rfl⟩, q⟩
theorem opB0 {f : Value → Value → Sem Value} {g : Int → Int → Bool}
    (rule : ∀ (i j : Int) (t u : Tok) (s : Shared) (Q : Value → Shared → Prop) (E : Value → Shared → Prop), Q (.bool (g i j)) s → wpAny (model X.prog X.w) X.A (f (.int i t) (.int j u)) Q E s) :
    OpR X f (rI0 fun i j => .bl (g i j)) := by
  intro pins s σ H x y v u Q I rx ry h
  obtain ⟨i, j, rfl, rfl, q⟩ := h
  obtain ⟨t, rfl⟩ := rx
  obtain ⟨t', rfl⟩ := ry
  exact rule i j t t' s _ _ ⟨.bl (g i j), H, I, rfl, q⟩

def CDiv (i j : Int) : Prop := 0 < j ∧ j < 1073741824
def CMul (i j : Int) : Prop := (-(2 ^ 64) < i ∧ i < 2 ^ 64) ∨ (-(2 ^ 64) < j ∧ j < 2 ^ 64)
theorem CMul.ok {i j : Int} (h : CMul i j) : IntMulOk i j := by
  rcases h with ⟨h1, h2⟩ | ⟨h1, h2⟩
  · exact .of_left (intBits_le_64 h1 h2)
  · exact .of_right (intBits_le_64 h1 h2)
theorem op_add : OpR X (binaryOp .Add) (rI0 fun i j => .int (i + j)) := opI0 fun _ _ _ _ _ _ _ q => add_int q
theorem op_sub : OpR X (binaryOp .Sub) (rI0 fun i j => .int (i - j)) := opI0 fun _ _ _ _ _ _ _ q => sub_int q
theorem op_mul : OpR X (binaryOp .Mult) (rI CMul fun i j => .int (i * j)) := opI fun _ _ _ _ _ _ _ hc q => mul_int q hc.ok
theorem op_fdiv : OpR X (binaryOp .FloorDiv) (rI CDiv fun i j => .int (i / j)) := opI fun i j _ _ _ _ _ hc q => by
  have h1 : (0 : Int) < j := hc.1
  have h2 : j < 1073741824 := hc.2
  exact floordiv_int (by omega) (by rw [Int.fdiv_eq_ediv_of_nonneg i (by omega)]; exact q) (.inl (PyProof.noPylong_small (by omega)))
theorem op_mod : OpR X (binaryOp .Mod) (rI (fun _ j => 0 < j) fun i j => .int (i % j)) := opI fun i j _ _ _ _ _ hc q => by
  have h1 : (0 : Int) < j := hc
  exact mod_int' (by omega) (by rw [Int.fmod_eq_emod_of_nonneg i (by omega)]; exact q)
theorem unI {f : Value → Sem Value} {g : Int → Int}
    (rule : ∀ (i : Int) (t : Tok) (s : Shared) (Q : Value → Shared → Prop) (E : Value → Shared → Prop), Q (.int (g i) s.toks) { s with toks := s.toks + 1 } → wpAny (model X.prog X.w) X.A (f (.int i t)) Q E s) :
    UnR X f (rU fun i => .int (g i)) := by
  intro pins s σ H x v Q I rx h
  obtain ⟨i, rfl, q⟩ := h
  obtain ⟨t, rfl⟩ := rx
  exact rule i t s _ _ ⟨.int (g i), H, I.tok _, ⟨_, rfl⟩, q⟩
theorem un_neg : UnR X (unaryOp .USub) (rU fun i => .int (-i)) := unI fun _ _ _ _ _ q => neg_int q
/-! ### bools among ints: n += (a < b) -/
end

/-! ### comparisons -/
def scal : V → V → Bool
  | .non, .non => true | .non, .int _ => true | .int _, .non => true | .non, .bl _ => true | .bl _, .non => true | .non, .str _ => true | .str _, .non => true
  | .int _, .int _ => true | .bl _, .bl _ => true | .str _, .str _ => true | .byt _, .byt _ => true
  | .int _, .str _ => true | .str _, .int _ => true | .bl _, .str _ => true | .str _, .bl _ => true
  | _, _ => false
def rEq : R2 := fun x y H Q => scal x y = true ∧ Q (.bl (decide (x = y))) H
def rNe : R2 := fun x y H Q => scal x y = true ∧ Q (.bl (!decide (x = y))) H

theorem dec_int {i j : Int} : decide (V.int i = V.int j) = (i == j) := by
  rw [Bool.eq_iff_iff]
  simp
theorem dec_bl {i j : Bool} : decide (V.bl i = V.bl j) = (i == j) := by
  rw [Bool.eq_iff_iff]
  simp
theorem dec_str {i j : Str} : decide (V.str i = V.str j) = (i == j) := by
  rw [Bool.eq_iff_iff]
  simp
theorem dec_byt {i j : Array UInt8} : decide (V.byt i = V.byt j) = (i.toList == j.toList) := by
  rw [Bool.eq_iff_iff]
  cases i
  cases j
  simp

section
variable {X : Cx} {a b c : Expr} {ta tb tc : TE} {pos : Pos}
theorem fin_bl {pins : List (Addr × Obj)} {σ : St} {H : Hp} {s : Shared} {Q : VK} {k k' : Bool} (I : Inv X pins σ H s) (q : Q (.bl k) H) (e : k = k') : EP X pins σ Q (.bool k') s := by
  subst e
  exact ⟨.bl k, H, I, rfl, q⟩
theorem op_eq : OpR X (compareOp .Eq) rEq := by
  intro pins s σ H x y v u Q I rx ry h
  obtain ⟨hs, q⟩ := h
  cases x with
  | non =>
    cases rx
    cases y with
    | non => cases ry; exact PySem.EqNone.eq_none_none (fin_bl I q (by simp))
    | bl j => cases ry; exact PySem.EqNone.eq_none_bool (fin_bl I q (by simp))
    | int j => obtain ⟨t', rfl⟩ := ry; exact PySem.EqNone.eq_none_int (fin_bl I q (by simp))
    | str j => obtain ⟨t', rfl⟩ := ry; exact PySem.EqNone.eq_none_str (fin_bl I q (by simp))
    | _ => exact absurd (show false = true from hs) Bool.false_ne_true
  | bl i =>
    cases rx
    cases y with
    | non => cases ry; exact PySem.EqNone.eq_bool_none (fin_bl I q (by simp))
    | bl j => cases ry; exact eq_bool (fin_bl I q dec_bl)
    | str j => obtain ⟨t', rfl⟩ := ry; exact PySem.EqMixed.eq_bool_str (fin_bl I q (by simp))
    | _ => exact absurd (show false = true from hs) Bool.false_ne_true
  | int i =>
    obtain ⟨t, rfl⟩ := rx
    cases y with
    | non => cases ry; exact PySem.EqNone.eq_int_none (fin_bl I q (by simp))
    | int j => obtain ⟨t', rfl⟩ := ry; exact eq_int (fin_bl I q dec_int)
    | str j => obtain ⟨t', rfl⟩ := ry; exact PySem.EqMixed.eq_int_str (fin_bl I q (by simp))
    | _ => exact absurd (show false = true from hs) Bool.false_ne_true
  | str i =>
    obtain ⟨t, rfl⟩ := rx
    cases y with
    | non => cases ry; exact PySem.EqNone.eq_str_none (fin_bl I q (by simp))
    | bl j => cases ry; exact PySem.EqMixed.eq_str_bool (fin_bl I q (by simp))
    | int j => obtain ⟨t', rfl⟩ := ry; exact PySem.EqMixed.eq_str_int (fin_bl I q (by simp))
    | str j => obtain ⟨t', rfl⟩ := ry; exact eq_str (fin_bl I q dec_str)
    | _ => exact absurd (show false = true from hs) Bool.false_ne_true
  | byt i =>
    obtain ⟨t, rfl⟩ := rx
    cases y with
    | byt j => obtain ⟨t', rfl⟩ := ry; exact PySem.W.eq_bytes (fin_bl I q dec_byt)
    | _ => exact absurd (show false = true from hs) Bool.false_ne_true
  | _ => cases y <;> exact absurd (show false = true from hs) Bool.false_ne_true
theorem op_ne : OpR X (compareOp .NotEq) rNe := by
  intro pins s σ H x y v u Q I rx ry h
  obtain ⟨hs, q⟩ := h
  cases x with
  | non =>
    cases rx
    cases y with
    | non => cases ry; exact PySem.EqNone.ne_none_none (fin_bl I q (by simp))
    | bl j => cases ry; exact PySem.EqNone.ne_none_bool (fin_bl I q (by simp))
    | int j => obtain ⟨t', rfl⟩ := ry; exact PySem.EqNone.ne_none_int (fin_bl I q (by simp))
    | str j => obtain ⟨t', rfl⟩ := ry; exact PySem.EqNone.ne_none_str (fin_bl I q (by simp))
    | _ => exact absurd (show false = true from hs) Bool.false_ne_true
  | bl i =>
    cases rx
    cases y with
    | non => cases ry; exact PySem.EqNone.ne_bool_none (fin_bl I q (by simp))
    | bl j => cases ry; exact ne_bool (fin_bl I q (congrArg not dec_bl))
    | str j => obtain ⟨t', rfl⟩ := ry; exact PySem.EqMixed.ne_bool_str (fin_bl I q (by simp))
    | _ => exact absurd (show false = true from hs) Bool.false_ne_true
  | int i =>
    obtain ⟨t, rfl⟩ := rx
    cases y with
    | non => cases ry; exact PySem.EqNone.ne_int_none (fin_bl I q (by simp))
    | int j => obtain ⟨t', rfl⟩ := ry; exact ne_int (fin_bl I q (congrArg not dec_int))
    | str j => obtain ⟨t', rfl⟩ := ry; exact PySem.EqMixed.ne_int_str (fin_bl I q (by simp))
    | _ => exact absurd (show false = true from hs) Bool.false_ne_true
  | str i =>
    obtain ⟨t, rfl⟩ := rx
    cases y with
    | non => cases ry; exact PySem.EqNone.ne_str_none (fin_bl I q (by simp))
    | bl j => cases ry; exact PySem.EqMixed.ne_str_bool (fin_bl I q (by simp))
    | int j => obtain ⟨t', rfl⟩ := ry; exact PySem.EqMixed.ne_str_int (fin_bl I q (by simp))
    | str j => obtain ⟨t', rfl⟩ := ry; exact ne_str (fin_bl I q (congrArg not dec_str))
    | _ => exact absurd (show false = true from hs) Bool.false_ne_true
  | byt i =>
    obtain ⟨t, rfl⟩ := rx
    cases y with
    | byt j => obtain ⟨t', rfl⟩ := ry; exact PySem.W.ne_bytes (fin_bl I q (congrArg not dec_byt))
    | _ => exact absurd (show false = true from hs) Bool.false_ne_true
  | _ => cases y <;> exact absurd (show false = true from hs) Bool.false_ne_true

theorem op_lt : OpR X (compareOp .Lt) (rI0 fun i j => .bl (decide (i < j))) := opB0 fun _ _ _ _ _ _ _ q => lt_int q
theorem op_le : OpR X (compareOp .LtE) (rI0 fun i j => .bl (decide (i ≤ j))) := opB0 fun _ _ _ _ _ _ _ q => le_int q
theorem op_gt : OpR X (compareOp .Gt) (rI0 fun i j => .bl (decide (j < i))) := opB0 fun _ _ _ _ _ _ _ q => gt_int q
theorem op_in_str : OpR X (compareOp .In) (fun x y H Q => ∃ i j, x = .str i ∧ y = .str j ∧ Q (.bl (!(Builtin.Str.occurrences j i 0 j.length 1).isEmpty)) H) := by
  intro pins s σ H x y v u Q I rx ry h
  obtain ⟨i, j, rfl, rfl, q⟩ := h
  obtain ⟨t, rfl⟩ := rx
  obtain ⟨t', rfl⟩ := ry
  exact in_str (fin_bl I q rfl)

theorem op_isN : OpR X (compareOp .Is) (fun x y H Q => y = .non ∧ Q (.bl (decide (x = .non))) H) := by
  intro pins s σ H x y v u Q I rx ry h
  obtain ⟨rfl, q⟩ := h
  cases ry
  refine is_none_gen (fin_bl I q ?_)
  cases x <;> first
    | (cases rx; rfl)
    | (obtain ⟨t, rfl⟩ := rx; rfl)
theorem nomark (b : Expr) {op : CmpOp} (h : op ≠ .In := by decide) (h2 : op ≠ .NotIn := by decide) : behindInMarks op b = false := by
  have e1 : (op == CmpOp.In) = false := by cases op <;> first | rfl | exact absurd rfl h
  have e2 : (op == CmpOp.NotIn) = false := by cases op <;> first | rfl | exact absurd rfl h2
  cases b <;> simp [behindInMarks, e1, e2]
theorem pe_cmpR {op : CmpOp} {r : R2} (ho : OpR X (compareOp op) r) (ha : PE X a ta) (hb : PE X b tb) (hm : behindInMarks op b = false) : PE X (.Compare a [op] [b] pos) (tOp r ta tb) := by
  intro pins s σ H Q I h
  exact wpAny_Compare1 (binT ha hb I h fun v u s2 x y H2 I2 rx ry q => ho pins s2 σ H2 x y v u Q I2 rx ry q) hm
def tTest (t : TE) : TT := fun σ H Q => t σ H fun x H' => ∃ k, x = .bl k ∧ Q k H'
theorem pt_cmpR {op : CmpOp} {r : R2} (ho : OpR X (compareOp op) r) (ha : PE X a ta) (hb : PE X b tb) (hm : behindInMarks op b = false) : PT X (.Compare a [op] [b] pos) (tTest (tOp r ta tb)) := by
  intro pins s σ H Q I h
  refine wpAny_isTrue_Compare1 (thn (ha pins s σ H _ I h) fun v s1 ⟨x, H1, I1, r1, q1⟩ => thn (hb pins s1 σ H1 _ I1 q1) fun u s2 ⟨y, H2, I2, r2, q2⟩ =>
    thn (ho pins s2 σ H2 x y v u _ I2 r1 r2 q2) fun c s3 ⟨z, H3, I3, r3, k, e, q3⟩ => ?_) hm
  subst e
  cases r3
  exact wpAny_truthy_bool ⟨H3, I3, q3⟩
def tChain (r r' : R2) (ta tb tc : TE) : TE := fun σ H Q => ta σ H fun x H1 => tb σ H1 fun y H2 => r x y H2 fun z H3 => ∃ k, z = .bl k ∧
  (if k = true then tc σ H3 fun w' H4 => r' y w' H4 Q else Q (.bl false) H3)
theorem pe_chain {op op' : CmpOp} {r r' : R2} (ho : OpR X (compareOp op) r) (ho' : OpR X (compareOp op') r') (ha : PE X a ta) (hb : PE X b tb) (hc : PE X c tc)
    (hm : lastMarks [op, op'] [b, c] = false := by with_unfolding_all rfl) : PE X (.Compare a [op, op'] [b, c] pos) (tChain r r' ta tb tc) := by
  intro pins s σ H Q I h
  refine Compare_chain (thn (ha pins s σ H _ I h) fun v s1 ⟨x, H1, I1, r1, q1⟩ => chain_link (thn (hb pins s1 σ H1 _ I1 q1) fun u s2 ⟨y, H2, I2, r2, q2⟩ =>
    thn (ho pins s2 σ H2 x y v u _ I2 r1 r2 q2) fun d s3 ⟨z, H3, I3, r3, k, e, q3⟩ => ?_)) hm
  subst e
  cases r3
  refine wpAny_truthy_bool ?_
  cases k with
  | false => exact ite_ff ⟨.bl false, H3, I3, rfl, q3⟩
  | true => exact ite_tt (chain_last (thn (hc pins s3 σ H3 _ I3 q3) fun w' s4 ⟨z', H4, I4, r4, q4⟩ => ho' pins s4 σ H4 y z' u w' Q I4 r2 r4 q4))
/-! ### truth -/
theorem line63 : (sizeLine : Nat) < 2 ^ 63 := by rw [sizeLine_eq]; decide
/-! ### strs and bytes -/
theorem op_add_str : OpR X (binaryOp .Add) (fun x y H Q => ∃ i j, x = .str i ∧ y = .str j ∧ i.length + j.length ≤ sizeLine ∧ Q (.str (i ++ j)) H) := by
  intro pins s σ H x y v u Q I rx ry h
  obtain ⟨i, j, rfl, rfl, hz, q⟩ := h
  obtain ⟨t, rfl⟩ := rx
  obtain ⟨t', rfl⟩ := ry
  exact add_str (fun t' tk => ⟨.str (i ++ j), H, I.tok _, ⟨_, rfl⟩, q⟩) hz
/-! ### scalar builtins, by CallR -/
theorem vals1 {x : V} {us : List Value} (r : Vals [x] us) : ∃ u, us = [u] ∧ RelV x u := by
  cases r with
  | cons r1 r2 => cases r2; exact ⟨_, rfl, r1⟩
theorem vals2 {x y : V} {us : List Value} (r : Vals [x, y] us) : ∃ u w', us = [u, w'] ∧ RelV x u ∧ RelV y w' := by
  cases r with
  | cons r1 r2 =>
    cases r2 with
    | cons r3 r4 => cases r4; exact ⟨_, _, rfl, r1, r3⟩
theorem call_max2 (hc : X.calm = true) : CallR X (.builtin "max") (fun xs H Q => ∃ i j, xs = [.int i, .int j] ∧ Q (.int (if j > i then j else i)) H) := by
  intro pins s σ H xs us Q I r h
  obtain ⟨i, j, rfl, q⟩ := h
  obtain ⟨u, w', rfl, ⟨t, rfl⟩, ⟨t', rfl⟩⟩ := vals2 r
  refine max_two_ints (I.ok.hd hc) fun h' tk k => ⟨_, H, I.kept k, ?_, q⟩
  by_cases hj : j > i
  · rw [if_pos hj, if_pos hj]; exact ⟨_, rfl⟩
  · rw [if_neg hj, if_neg hj]; exact ⟨_, rfl⟩
theorem call_min2 (hc : X.calm = true) : CallR X (.builtin "min") (fun xs H Q => ∃ i j, xs = [.int i, .int j] ∧ Q (.int (if j < i then j else i)) H) := by
  intro pins s σ H xs us Q I r h
  obtain ⟨i, j, rfl, q⟩ := h
  obtain ⟨u, w', rfl, ⟨t, rfl⟩, ⟨t', rfl⟩⟩ := vals2 r
  refine min_two_ints (I.ok.hd hc) fun h' tk k => ⟨_, H, I.kept k, ?_, q⟩
  by_cases hj : j < i
  · rw [if_pos hj, if_pos hj]; exact ⟨_, rfl⟩
  · rw [if_neg hj, if_neg hj]; exact ⟨_, rfl⟩
end
end L2

namespace L2
open PySem PySem.Spec PyProof.Rows

/-! ### an instance, its attributes a map -/
structure ObjM (h : Heap) (x dx C : Addr) (mA : Str → Option Value) : Prop where
  obj : h.get? x = some (PySem.W.instObj C dx)
  ns : h.Ns1 dx mA
  ne : dx ≠ x

theorem lookIn_ns {h : Heap} {dx : Addr} {mA : Str → Option Value} (n : h.Ns1 dx mA) : ∃ od, h.get? dx = some od ∧ ∀ name, PySem.W.lookIn name od = some (mA name) := by
  obtain ⟨o, es, ep, ho, hd, hk, _, hm⟩ := n
  refine ⟨o, ho, fun name => ?_⟩
  have e := hm name
  unfold nsFind findBy at e
  rw [← Array.find?_toList] at e
  unfold PySem.W.lookIn
  rw [hd]
  dsimp only
  split
  · rename_i y q
    rw [q] at e
    exact congrArg some e
  · rename_i q
    rw [q] at e
    have a : es.toList.any (·.refKey) = false := by
      rw [List.any_eq_false]
      intro y hy
      obtain ⟨z, t, hkey⟩ := hk y (Array.mem_toList_iff.mp hy)
      simp [DictEntry.refKey, hkey]
    have a' : ¬ es.toList.any (·.refKey) = true := by rw [a]; exact Bool.false_ne_true
    rw [if_neg a']
    exact congrArg some e

theorem ObjM.look {h : Heap} {x dx C : Addr} {mA : Str → Option Value} (I : ObjM h x dx C mA) : ∃ od, PySem.W.InstAt h x (PySem.W.instObj C dx) C (some od) ∧ ∀ name, PySem.W.lookIn name od = some (mA name) :=
  let ⟨od, ho, hl⟩ := lookIn_ns I.ns
  ⟨od, ⟨I.obj, rfl, rfl, ho⟩, hl⟩

section
variable {prog : Program} {w : World} {A : Around} {E : Value → Shared → Prop} {s : Shared} {K : PySem.W.Frag} {x dx C f : Addr} {mA : Str → Option Value} {name : Str} {v : Value}

end

/-! ### the attributes as a list of pairs -/
section
variable {P : Program} {w : World} {H H' : Hp} {h h' : Heap} {a C dx : Addr} {fs fs' : List (Str × V)}
theorem ins_get (hok : HOk P w H h) (e : H a = some (.ins C dx fs)) : ∃ mA, ObjM h a dx C mA ∧ (∀ f, RelO (fs.lookup f) (mA f)) ∧ PySem.Within mA (fs.map (·.1)) ∧ fs.length ≤ 1000 ∧ H dx = some (.own a) := by
  obtain ⟨d, z, ne, ob, mA, n, r, q⟩ := (show ObjOk P w H h a (.ins C dx fs) from hok a _ e)
  exact ⟨mA, ⟨ob, n, ne⟩, r, q, z, d⟩
end

/-! ### what of the text a class must have -/
structure Cls (K : PySem.W.Frag) (C : Addr) : Prop where
  pg : PySem.W.plainGet K C Str.empty = true
  hd : PySem.W.hasDictIn K C = true
  po : PySem.W.plainOver K C = true
  sa : PySem.W.findIn K (.ref C) "__setattr__" = some (some (.builtin "object.__setattr__"))
theorem Cls.get {K : PySem.W.Frag} {C : Addr} (c : Cls K C) (f : Str) : PySem.W.plainGet K C f = true := c.pg
section
variable {X : Cx} {pins : List (Addr × Obj)} {σ : St} {H : Hp} {s : Shared} {a C dx : Addr} {fs : List (Str × V)} {f : Str} {v : V} {A : Around} {E : Value → Shared → Prop}

end

/-! ### readings and rules -/
section
variable {X : Cx} {o e value : Expr} {f : Str} {pos pos' tpos : Pos} {ta tv : TE}
end

/-! ### isinstance -/
section
variable {X : Cx} {pins : List (Addr × Obj)} {σ : St} {H : Hp} {s : Shared} {A : Around} {E : Value → Shared → Prop} {Q : Value → Shared → Prop} {c : Value} {b : Bool}
inductive TyOf (K : PySem.W.Frag) (H : Hp) : V → Value → Prop where
  | non : TyOf K H .non (.type "NoneType")
  | bl (x : Bool) : TyOf K H (.bl x) (.type "bool")
  | int (i : Int) : TyOf K H (.int i) (.type "int")
  | str (x : Str) : TyOf K H (.str x) (.type "str")
  | flt (x : UInt64) : TyOf K H (.flt x) (.type "float")
  | lst {a : Addr} {xs : List V} (e : H a = some (.lst xs)) : TyOf K H (.ref a) (.type "list")
  | frz {a : Addr} {o : Obj} {xs : List V} (e : H a = some (.frz o (.lst xs))) : TyOf K H (.ref a) (.type "list")
  | tup {a : Addr} {xs : List V} (e : H a = some (.tup xs)) : TyOf K H (.ref a) (.type "tuple")
  | dK {a : Addr} {kvs : List (Key × V)} (e : H a = some (.dK kvs)) : TyOf K H (.ref a) (.type "dict")
  | dT {a : Addr} {kvs : List (List Key × V)} (e : H a = some (.dT kvs)) : TyOf K H (.ref a) (.type "dict")
  | ins {a C dx : Addr} {fs : List (Str × V)} (e : H a = some (.ins C dx fs)) (cl : Cls K C) (ha : PySem.W.findIn K (.ref C) "__class__" = some (some (.builtin "object.__class__")))
      (hn : PySem.W.specialIn K (.builtin "object.__class__") "__get__" = some (some (.builtin "getset_descriptor.__get__"))) (htk : PySem.W.takesIn K (.builtin "object.__class__") = some true)
      (hm : PySem.W.mroIn K C (.type "object") = some true) : TyOf K H (.ref a) (.ref C)
theorem isinst_ok {x : V} {u t : Value} (I : Inv X pins σ H s) (rx : RelV x u) (ty : TyOf X.K H x t) (e : PySem.W.kitOne X.K t c = some b) (h : ∀ tk, Q (.bool b) { s with toks := tk }) :
    wpAny (model X.prog X.w) A (call (.builtin "isinstance") [u, c]) Q E s := by
  cases ty with
  | non => cases (show u = Value.none from rx); exact PySem.W.kia_one PySem.W.kitx_none I.kIn True.intro e (fun z => nomatch z) h
  | bl y => cases (show u = Value.bool y from rx); exact PySem.W.kia_one PySem.W.kitx_bool I.kIn True.intro e (fun z => nomatch z) h
  | int i => obtain ⟨t, q⟩ := (show ∃ t, u = Value.int i t from rx); cases q; exact PySem.W.kia_one PySem.W.kitx_int I.kIn True.intro e (fun z => nomatch z) h
  | str y => obtain ⟨t, q⟩ := (show ∃ t, u = Value.str y t from rx); cases q; exact PySem.W.kia_one PySem.W.kitx_str I.kIn True.intro e (fun z => nomatch z) h
  | flt y => obtain ⟨t, q⟩ := (show ∃ t, u = Value.float y t from rx); cases q; exact PySem.W.kia_one PySem.W.kitx_float I.kIn True.intro e (fun z => nomatch z) h
  | @lst a xs ea =>
    cases (show u = Value.ref a from rx)
    obtain ⟨_, _, n, _, h1⟩ := (show ObjOk X.prog X.w H s.heap a (.lst xs) from I.hok a _ ea)
    exact PySem.W.kia_one PySem.W.kitx_list I.kIn ⟨_, h1, rfl⟩ e (fun z => nomatch z) h
  | @frz a ob xs ea =>
    cases (show u = Value.ref a from rx)
    obtain ⟨_, _, _, n, _, h1⟩ := (show ObjOk X.prog X.w H s.heap a (.frz ob (.lst xs)) from I.hok a _ ea)
    exact PySem.W.kia_one PySem.W.kitx_list I.kIn ⟨_, h1, rfl⟩ e (fun z => nomatch z) h
  | @tup a xs ea =>
    cases (show u = Value.ref a from rx)
    obtain ⟨_, _, _, p⟩ := (show ObjOk X.prog X.w H s.heap a (.tup xs) from I.hok a _ ea)
    obtain ⟨o, h1, h2, _⟩ := p
    exact PySem.W.kia_one PySem.W.kitx_tuple I.kIn ⟨o, h1, h2⟩ e (fun z => nomatch z) h
  | @dK a kvs ea =>
    cases (show u = Value.ref a from rx)
    obtain ⟨_, _, vs, _, p⟩ := (show ObjOk X.prog X.w H s.heap a (.dK kvs) from I.hok a _ ea)
    obtain ⟨o, es, ep, h1, h2, _⟩ := p
    exact PySem.W.kia_one PySem.W.kitx_dict I.kIn ⟨o, h1, h2.1⟩ e (fun z => nomatch z) h
  | @dT a kvs ea =>
    cases (show u = Value.ref a from rx)
    obtain ⟨_, _, xs, _, o, es, ep, h1, h2, _⟩ := (show ObjOk X.prog X.w H s.heap a (.dT kvs) from I.hok a _ ea)
    exact PySem.W.kia_one PySem.W.kitx_dict I.kIn ⟨o, h1, h2.1⟩ e (fun z => nomatch z) h
  | @ins a C dx fs ea cl ha hn htk hm =>
    cases (show u = Value.ref a from rx)
    obtain ⟨mA, O, _⟩ := ins_get I.hok ea
    obtain ⟨od, J, _⟩ := O.look
    exact PySem.W.kia_one (PySem.W.kitx_own (cl.get _) cl.hd ha hn htk hm) I.kIn J e (fun z => nomatch z) h
end
end L2

namespace L2
open PySem PySem.Spec PyProof.Rows

/-! ### room -/
structure Room (k : Nat) (A : Around) : Prop where
  hd : A.handled = none
  dp : A.depth + 3 * k + 5 < recursionLimit
  un : A.units + 16 * k + 200 < cLine
theorem Room.mono {j k : Nat} {A : Around} (r : Room k A) (h : j ≤ k) : Room j A := ⟨r.hd, by have := r.dp; omega, by have := r.un; omega⟩
theorem Room.deeper {k : Nat} {A : Around} (r : Room (k + 1) A) (env : Env) : Room k (A.deeper env) :=
  ⟨r.hd, by have := r.dp; show A.depth + 1 + 3 * k + 5 < _; omega, by have := r.un; show A.units + 3 + 16 * k + 200 < _; omega⟩
theorem Room.depth {k : Nat} {A : Around} (r : Room k A) : A.depth < recursionLimit := by have := r.dp; omega
theorem Room.units {k : Nat} {A : Around} (r : Room k A) : A.units + 64 < cLine := by have := r.un; omega
/-! ### argument lists and displays -/
def tNil : TA := fun _ H Q => Q [] H
def tCons (ta : TE) (tr : TA) : TA := fun σ H Q => ta σ H fun x H1 => tr σ H1 fun xs H2 => Q (x :: xs) H2
section
variable {X : Cx} {e : Expr} {es : List Expr} {te : TE} {t : TA} {pos : Pos}
theorem pa_nil : PA X [] tNil := fun _ _ _ _ H Q I h => Calls.spliced_nil ⟨[], H, I, .nil, h⟩
theorem pa_cons (ha : PE X e te) (hr : PA X es t) (hs : starEach (e :: es) X.env = (false, eval e X.env) :: starEach es X.env := by rfl) : PA X (e :: es) (tCons te t) := by
  intro pos pins s σ H Q I h
  rw [hs]
  show wpAny _ _ (spliced ((false, eval e X.env) :: backTo pos (starEach es X.env))) _ _ s
  refine Calls.spliced_cons (thn (ha pins s σ H _ I h) fun u s1 ⟨x, H1, I1, r1, q1⟩ => ?_)
  exact thn (hr pos pins s1 σ H1 _ I1 q1) fun us s2 ⟨xs, H2, I2, r2, q2⟩ => ⟨x :: xs, H2, I2, .cons r1 r2, q2⟩

def tTup (t : TA) : TE := fun σ H Q => t σ H fun xs H1 => xs.length ≤ sizeLine ∧ ∀ p, H1 p = none → Q (.ref p) (upd H1 p (.tup xs))
def tLst (t : TA) : TE := fun σ H Q => t σ H fun xs H1 => xs.length ≤ sizeLine ∧ ∀ p, H1 p = none → Q (.ref p) (upd H1 p (.lst xs))
theorem pe_tup {x1} (h : PA X es t) : PE X (.Tuple es x1 pos) (tTup t) := by
  intro pins s σ H Q I hq
  refine wpAny_Tuple_spliced (thn (h pos pins s σ H _ I hq) fun us s1 ⟨xs, H1, I1, r, z, q⟩ => ⟨by rw [← r.length]; exact z, ?_⟩)
  have hf : H1 s1.heap.objs.size = none := I1.hok.fresh (Nat.le_refl _)
  refine ⟨.ref s1.heap.objs.size, upd H1 s1.heap.objs.size (.tup xs), I1.laid (t' := s1.toks) (fun b u e => Heap.get?_push_of_some _ e) (Nat.le_refl _) ?_, rfl, q _ hf⟩
  exact ⟨z, us, r, ⟨_, Heap.get?_push_size _ rfl, rfl, _, rfl⟩⟩
theorem pe_lst (h : PA X es t) : PE X (.List es pos) (tLst t) := by
  intro pins s σ H Q I hq
  refine wpAny_List_spliced (thn (h pos pins s σ H _ I hq) fun us s1 ⟨xs, H1, I1, r, z, q⟩ => ⟨by rw [← r.length]; exact z, ?_⟩)
  have hf : H1 s1.heap.objs.size = none := I1.hok.fresh (Nat.le_refl _)
  refine ⟨.ref s1.heap.objs.size, upd H1 s1.heap.objs.size (.lst xs), I1.laid (t' := s1.toks) (fun b u e => Heap.get?_push_of_some _ e) (Nat.le_refl _) ?_, rfl, q _ hf⟩
  exact ⟨z, us, 0, r, Heap.get?_push_size _ rfl⟩
end

/-! ### what a def promises -/
abbrev Sp := List V → Hp → VK → XK → Prop
abbrev CXT := List Env → Hp → Shared → XK → Value → Shared → Prop

structure Env0 (P : Program) (w : World) (K : PySem.W.Frag) (mg : Str → Option Value) (base : Heap) (A : Around) (outer : List Env) (s : Shared) (H : Hp) : Prop where
  frames : A.frames = some outer
  mod : Mod K mg base
  bs : ∀ b o, base.get? b = some o → s.heap.get? b = some o ∧ H b = none
  bsz : base.objs.size ≤ s.heap.objs.size
  funs : s.heap.FunFrames base outer
  frf : ∀ b ∈ frs outer, H b = none
  hok : HOk P w H s.heap
  bare : AllBare s.gens
def CE (outer : List Env) (P : Program) (w : World) (H : Hp) (s : Shared) (Q : VK) (u : Value) (s' : Shared) : Prop :=
  ∃ v H', s'.os = s.os ∧ AllBare s'.gens ∧ Un (frs outer) [] H H' s.heap s'.heap ∧ HOk P w H' s'.heap ∧ RelV v u ∧ Q v H'
def CR (CX : CXT) (outer : List Env) (P : Program) (w : World) (H : Hp) (s : Shared) (Q : VK) (E : XK) (r : Result) (s' : Shared) : Prop :=
  match r with
  | .ok (.ret u) => CE outer P w H s Q u s'
  | .ok _ => False
  | .error e => CX outer H s E e s'
structure FnOk (P : Program) (w : World) (K : PySem.W.Frag) (mg : Str → Option Value) (base : Heap) (CX : CXT) (k : Nat) (f : Addr) (fd : FuncData) (ps : List Str) (sp : Sp) : Prop where
  len : ∀ vs H Q E, sp vs H Q E → vs.length = ps.length
  run : ∀ (A : Around) (outer : List Env) (s : Shared) (H : Hp) (args : Args) (us : List Value) (vs : List V) (Q : VK) (E : XK), Room k A → Env0 P w K mg base A outer s H → BindsTo s fd args (ps.zip us) → Vals vs us → sp vs H Q E →
    codeAny (model P w) A (.call (.ref f) args) (CR CX outer P w H s Q E) s
section
variable {X : Cx} {pins : List (Addr × Obj)} {σ : St} {H : Hp} {s s' : Shared}
theorem Inv.env0 (I : Inv X pins σ H s) : Env0 X.prog X.w X.K X.mg X.base X.A X.stack s H :=
  ⟨I.ok.frames, I.ok.mod, I.bs, Nat.le_trans I.ok.bsz I.sz, I.stack, I.stkFree, I.hok, I.bare⟩
theorem Inv.after {Q : VK} {u : Value} (I : Inv X pins σ H s) (h : CE X.stack X.prog X.w H s Q u s') : EP X pins σ Q u s' := by
  obtain ⟨v, H', os, bare, un, hok, r, q⟩ := h
  obtain ⟨hh, g, d, t, os'⟩ := s'
  obtain rfl : os' = s.os := os
  exact ⟨v, H', I.call (h' := hh) (g' := g) (d' := d) (t' := t) (ch := []) un hok bare (fun b z => absurd z (by simp)), r, q⟩
end

/-! ### calls -/
def tCall (sp : Sp) (dvs : List V) (E : XK) (t : TA) : TE := fun σ H Q => t σ H fun vs H1 => sp (vs ++ dvs) H1 Q E
def Binds (K : PySem.W.Frag) (fd : FuncData) (ps : List Str) (ds : List Value) : Prop :=
  ∀ (s : Shared) (us : List Value), K.In s.heap → (us ++ ds).length = ps.length → BindsTo s fd ⟨us, []⟩ (ps.zip (us ++ ds))
theorem Binds.all {K : PySem.W.Frag} {fd : FuncData} {ps : List Str} (h : ∀ us : List Value, us.length = ps.length → bindArgs fd ⟨us, []⟩ = pure (ps.zip us)) : Binds K fd ps [] := fun s us _ hl => by
  rw [List.append_nil] at hl ⊢
  exact .of_eq (h us hl)

def Passes (CX : CXT) (X : Cx) (E : XK) : Prop := ∀ (pins : List (Addr × Obj)) (σ : St) (H : Hp) (s : Shared) (e : Value) (s' : Shared), Inv X pins σ H s → CX X.stack H s E e s' → X.xe e s'

section
variable {X : Cx} {CX : CXT} {k : Nat} {f C : Addr} {fd : FuncData} {ps : List Str} {sp : Sp} {dvs : List V} {ds : List Value} {E : XK} {x m : Str} {p pos apos : Pos} {e o : Expr} {es : List Expr} {ta : TE} {t : TA}

theorem run_fn {pins : List (Addr × Obj)} {σ : St} {H : Hp} {s : Shared} {Q : VK} {us : List Value} {vs : List V} (F : FnOk X.prog X.w X.K X.mg X.base CX k f fd ps sp) (hr : Room k X.A) (hb : Binds X.K fd ps ds) (hd : Vals dvs ds) (hx : Passes CX X E)
    (I : Inv X pins σ H s) (r : Vals vs us) (h : sp (vs ++ dvs) H Q E) : wpAny (model X.prog X.w) X.A (call (.ref f) us) (EP X pins σ Q) X.xe s := by
  have r2 : Vals (vs ++ dvs) (us ++ ds) := r.append hd
  have hl : (us ++ ds).length = ps.length := by rw [← r2.length]; exact F.len _ _ _ _ h
  refine wpAny_call (codeAny_mono (F.run X.A X.stack s H ⟨us, []⟩ (us ++ ds) (vs ++ dvs) Q E hr I.env0 (hb s us I.kIn hl) r2 h) fun r s' hq => ?_)
  cases r with
  | error e => exact hx pins σ H s e s' I hq
  | ok fl =>
    cases fl with
    | ret u => exact I.after hq
    | next => exact False.elim hq
    | brk => exact False.elim hq
    | cont => exact False.elim hq

theorem pe_call (F : FnOk X.prog X.w X.K X.mg X.base CX k f fd ps sp) (hr : Room k X.A) (hg : Gl X x) (hm : X.mg x = some (.ref f)) (hk : PySem.W.keepIn X.K (.ref f) = true) (hb : Binds X.K fd ps ds) (hd : Vals dvs ds) (hx : Passes CX X E)
    (ha : PA X (e :: es) t) (hdb : (x == ("__debug__" : Str)) = false := by decide) (he : starEach (e :: es) X.env = (false, eval e X.env) :: starEach es X.env := by rfl) (hpl : (backTo pos (starEach es X.env)).any (·.1) = false := by rfl) :
    PE X (.Call (.Name x p) (e :: es) [] pos) (tCall sp dvs E t) := by
  intro pins s σ H Q I h
  refine wpAny_Call_Name_kw (ld_glob I hg hm ?_ hdb)
  refine PySem.W.callWith_K (h₀ := X.base) I.ok.mod.kin hk (thn (ha pos pins s σ H _ I h) fun us s1 ⟨vs, H1, I1, r, q⟩ => ⟨I1.kIn, ?_⟩) he hpl
  exact run_fn F hr hb hd hx I1 r q
end

/-! ### keywords -/
section
variable {X : Cx} {CX : CXT} {k : Nat} {f C : Addr} {fd : FuncData} {ps ks : List Str} {sp : Sp} {E : XK} {x m : Str} {p pos apos kpos : Pos} {e o : Expr} {es : List Expr} {kws : List Keyword} {te ta : TE} {t tk : TA} {nm : Option Str}
variable {g : List Value → List Value → List Value} {gV : List V → List V → List V}
end

/-! ### a def's body keeps its promise -/
structure FnScope (N P : List Str) (sc : Scope) : Prop where
  kind : sc.kind = .function
  co : sc.isCoroutine = false
  gen : sc.isGenerator = false
  nd : N.Nodup
  pre : N.take P.length = P
  par : ∀ x ∈ P, sc.names.lookup x = some .local ∨ sc.names.lookup x = some .cell
  nofree : ∀ y ∈ sc.names, y.2 ≠ .free

theorem bindL_out {kindOf : Str → Option NameKind} {x : Str} : ∀ {binds : List (Str × Value)} {m : Str → Option Value}, (∀ v, (x, v) ∉ binds) → bindL kindOf binds m x = m x
  | [], _, _ => rfl
  | (n, v) :: r, m, h => by
    unfold bindL
    rw [bindL_out fun w hw => h w (List.mem_cons_of_mem _ hw)]
    split
    · have : x ≠ n := by rintro rfl; exact h v List.mem_cons_self
      simp [this]
    · rfl
theorem bindC_out {kindOf : Str → Option NameKind} {x : Str} : ∀ {binds : List (Str × Value)} {m : Str → Option Value}, (∀ v, (x, v) ∉ binds) → bindC kindOf binds m x = m x
  | [], _, _ => rfl
  | (n, v) :: r, m, h => by
    unfold bindC
    rw [bindC_out fun w hw => h w (List.mem_cons_of_mem _ hw)]
    split
    · rfl
    · have : x ≠ n := by rintro rfl; exact h v List.mem_cons_self
      simp [this]
theorem bindL_get {kindOf : Str → Option NameKind} {x : Str} {v : Value} : ∀ {P : List Str} {vs : List Value} {i : Nat} {m : Str → Option Value}, P.Nodup → P[i]? = some x → vs[i]? = some v → kindOf x = some .local →
    bindL kindOf (P.zip vs) m x = some v
  | [], _, _, _, _, h, _, _ => by simp at h
  | _ :: _, [], _, _, _, _, h, _ => by simp at h
  | p :: P, w :: vs, 0, m, nd, h1, h2, hk => by
    simp at h1 h2; subst h1; subst h2
    show bindL kindOf ((p, w) :: P.zip vs) m p = _
    unfold bindL
    rw [bindL_out fun v hv => (List.nodup_cons.mp nd).1 (List.of_mem_zip hv).1, if_pos hk]
    simp
  | p :: P, w :: vs, i + 1, m, nd, h1, h2, hk => by
    show bindL kindOf ((p, w) :: P.zip vs) m x = _
    unfold bindL
    exact bindL_get (i := i) (List.nodup_cons.mp nd).2 (by simpa using h1) (by simpa using h2) hk
theorem bindC_get {kindOf : Str → Option NameKind} {x : Str} {v : Value} : ∀ {P : List Str} {vs : List Value} {i : Nat} {m : Str → Option Value}, P.Nodup → P[i]? = some x → vs[i]? = some v → kindOf x ≠ some .local →
    bindC kindOf (P.zip vs) m x = some v
  | [], _, _, _, _, h, _, _ => by simp at h
  | _ :: _, [], _, _, _, _, h, _ => by simp at h
  | p :: P, w :: vs, 0, m, nd, h1, h2, hk => by
    simp at h1 h2; subst h1; subst h2
    show bindC kindOf ((p, w) :: P.zip vs) m p = _
    unfold bindC
    rw [bindC_out fun v hv => (List.nodup_cons.mp nd).1 (List.of_mem_zip hv).1, if_neg hk]
    simp
  | p :: P, w :: vs, i + 1, m, nd, h1, h2, hk => by
    show bindC kindOf ((p, w) :: P.zip vs) m x = _
    unfold bindC
    exact bindC_get (i := i) (List.nodup_cons.mp nd).2 (by simpa using h1) (by simpa using h2) hk

def start (N : List Str) (vs : List V) : St := vs.map some ++ List.replicate (N.length - vs.length) none

def cxOf (CX : CXT) (P : Program) (w : World) (K : PySem.W.Frag) (mg : Str → Option Value) (base : Heap) (N : List Str) (qual : Str) (scope : Scope) (f : Addr) (cd : Value) (A : Around) (outer : List Env) (s : Shared) (H : Hp) (E : XK) : Cx where
  prog := P
  w := w
  K := K
  mg := mg
  base := base
  A := A.deeper (envOfC qual scope s.heap.objs.size f cd)
  N := N
  s₀ := s
  H₀ := H
  env := envOfC qual scope s.heap.objs.size f cd
  outer := outer
  stack := envOfC qual scope s.heap.objs.size f cd :: outer
  ex := []
  calm := true
  fn := fun _ => true
  pn := []
  xe := fun e s' => wpAny (model P w) (A.deeper (envOfC qual scope s.heap.objs.size f cd)) (leaving (envOfC qual scope s.heap.objs.size f cd) e) (fun _ s'' => CX outer H s E e s'') (fun e' s'' => CX outer H s E e' s'') s'

theorem cell_has {sc : Scope} {n : Nat} {x : Str} (h : sc.names.lookup x = some .cell) : ∃ c, (cellsFrom n sc.names []).lookup x = some c := by
  have q := PySem.W.cellsFrom_some sc.names n [] (.inl h)
  exact Option.isSome_iff_exists.mp q

theorem inv_start {CX : CXT} {P : Program} {w : World} {K : PySem.W.Frag} {mg : Str → Option Value} {base : Heap} {N ps : List Str} {qual : Str} {scope : Scope} {f : Addr} {cd : Value} {A : Around} {outer : List Env} {s s1 : Shared} {H : Hp} {E : XK} {us : List Value} {vs : List V}
    (S : FnScope N ps scope) (hd : A.handled = none) (e0 : Env0 P w K mg base A outer s H) (hl : vs.length = ps.length) (r : Vals vs us)
    (x : InCallC s s.heap.objs.size (bindL (envOfC qual scope s.heap.objs.size f cd).kindOf (ps.zip us) fun _ => none) (cellsFrom (s.heap.objs.size + 1) scope.names []) (bindC (envOfC qual scope s.heap.objs.size f cd).kindOf (ps.zip us) fun _ => none) s1) :
    Inv (cxOf CX P w K mg base N qual scope f cd A outer s H E) [] (start N vs) H s1 := by
  have hpl : ps.length ≤ N.length := by have := congrArg List.length S.pre; rw [List.length_take] at this; omega
  obtain ⟨h1, tk, rfl, hk⟩ := x.done
  have noA : ∀ b : Addr, b ∉ (cxOf CX P w K mg base N qual scope f cd A outer s H E).ex := fun b z => absurd (show b ∈ ([] : List Addr) from z) (by simp)
  refine ⟨⟨e0.mod, S.kind, rfl, rfl, Nat.le_refl _, fun y z c h1 h2 => ?_, fun y hy => ?_, fun y c _ h => ?_, fun _ => hd, Around.frames_deeper e0.frames, .inr ⟨rfl, rfl⟩, fun b z => absurd z (noA b), e0.bs, e0.bsz, fun b _ _ => noA b, fun b z => absurd z (noA b), e0.funs, e0.frf⟩,
    rfl, e0.bare, Un.kept hk, ⟨_, x.toInCall.ns, fun i y v h1 h2 h3 => ?_⟩, fun y c h => ⟨_, x.cell y c h⟩, e0.hok.fresh (Nat.le_refl _), fun y c h => ?_, fun p hp => absurd (show p ∈ ([] : List (Addr × Obj)) from hp) (by simp), e0.hok.kept hk, ?_⟩
  · exact name_of_addr x.apart (PySem.mem_of_lookup h1) (PySem.mem_of_lookup h2)
  · have hy : scope.names.lookup y = some .cell ∨ scope.names.lookup y = some .free := hy
    rcases hy with hy | hy
    · exact cell_has hy
    · exact absurd rfl (S.nofree _ (PySem.mem_of_lookup hy))
  · exact Nat.le_of_lt (x.above y c (PySem.mem_of_lookup h))
  · have hi : i < vs.length := by
      unfold start at h2
      by_cases hi : i < vs.length
      · exact hi
      · rw [List.getElem?_append_right (by simpa using hi)] at h2
        rw [List.getElem?_replicate] at h2
        split at h2 <;> cases h2
    have ha : vs[i]? = some v := by
      unfold start at h2
      rw [List.getElem?_append_left (by simpa using hi), List.getElem?_map] at h2
      cases e : vs[i]? with
      | none => rw [e] at h2; cases h2
      | some a => rw [e] at h2; cases h2; rfl
    obtain ⟨u, hu, rv⟩ := r.get ha
    have hp : ps[i]? = some y := by
      rw [← S.pre, List.getElem?_take_of_lt (by omega)]; exact h1
    have ndP : ps.Nodup := by rw [← S.pre]; exact S.nd.sublist (List.take_sublist _ _)
    refine ⟨u, rv, ?_⟩
    rcases S.par y (List.mem_of_getElem? hp) with k | k
    · exact .inl ⟨k, bindL_get ndP hp hu k⟩
    · obtain ⟨c, e⟩ := cell_has (n := s.heap.objs.size + 1) k
      refine .inr ⟨.inl k, c, e, ?_⟩
      have q := x.cell y c e
      rw [bindC_get ndP hp hu (by show scope.names.lookup y ≠ _; rw [k]; decide)] at q
      exact q
  · exact e0.hok.fresh (Nat.le_of_lt (x.above y c (PySem.mem_of_lookup h)))
  · unfold start
    show _ = N.length
    rw [List.length_append, List.length_map, List.length_replicate]
    omega

theorem fn_of {CX : CXT} {P : Program} {w : World} {K : PySem.W.Frag} {mg : Str → Option Value} {base : Heap} {k : Nat} {f : Addr} {name qual : Str} {params : Arguments} {body : List Stmt} {scope : Scope} {dV kV doc pm cdv ct oc : Value} {an od : Option Addr}
    {osl : Array (Option Value)} {N ps : List Str} {sp : Sp} (lk : K.lookup f = some ⟨oc, od, .func (PySem.W.fnOf name qual params body scope dV kV doc pm an cdv ct), osl⟩) (hcd : PySem.W.codeIn K cdv qual = true) (S : FnScope N ps scope)
    (len : ∀ vs H Q E, sp vs H Q E → vs.length = ps.length)
    (hbody : ∀ (A : Around) (outer : List Env) (s : Shared) (H : Hp) (vs : List V) (Q : VK) (E : XK), Room k (A.deeper (envOfC qual scope s.heap.objs.size f cdv)) → sp vs H Q E →
      ∃ t, PSs (cxOf CX P w K mg base N qual scope f cdv A outer s H E) body t ∧ t { nx := fun _ H' => Q .non H', rt := Q } (start N vs) H) :
    FnOk P w K mg base CX (k + 1) f (PySem.W.fnOf name qual params body scope dV kV doc pm an cdv ct) ps sp := by
  refine ⟨len, fun A outer s H args us vs Q E hr e0 hb r hsp => ?_⟩
  have hl := len _ _ _ _ hsp
  have KX : K.In s.heap := e0.mod.kin.keeps fun b o e => (e0.bs b o e).1
  have lim : s.heap.NoLimit := e0.mod.nolimit.keeps fun b o e => (e0.bs b o e).1
  have hkind : ∀ y ∈ ps.zip us, scope.names.lookup y.1 = some .local ∨ (scope.names.lookup y.1 = some .cell ∧ ((cellsFrom (s.heap.objs.size + 1) scope.names []).lookup y.1).isSome = true) := fun ⟨n, v⟩ hy => by
    rcases S.par n (List.of_mem_zip hy).1 with q | q
    · exact .inl q
    · exact .inr ⟨q, PySem.W.cellsFrom_some _ _ _ (.inl q)⟩
  refine codeAny_call_function hr.depth (KX _ _ lk) rfl S.co S.gen rfl (PySem.W.codeRec_of KX hcd) (hb _ _ _ _ ?_)
  refine wpAny_newFunctionEnv_cells S.kind hkind fun env he s1 x => ?_
  subst he
  refine ⟨lim.keeps x.toInCall.keep, codeAny_func ?_⟩
  obtain ⟨t, ht, hq⟩ := hbody A outer s H vs Q E (hr.deeper _) hsp
  have I : Inv (cxOf CX P w K mg base N qual scope f cdv A outer s H E) [] (start N vs) H s1 := inv_start S hr.hd e0 hl r x
  refine wpAny_mono (ht [] s1 (start N vs) H _ I hq) (fun fl s' hs => ?_) fun e s' hs => hs
  have fin : ∀ {σ' : St} {H' : Hp} {v : V} {u : Value}, Inv (cxOf CX P w K mg base N qual scope f cdv A outer s H E) [] σ' H' s' → RelV v u → Q v H' → CE outer P w H s Q u s' :=
    fun {σ' H' v u} J rv q => ⟨v, H', J.os, J.bare, J.base, J.hok, rv, q⟩
  cases fl with
  | ret u =>
    obtain ⟨v, σ', H', J, rv, q⟩ := hs
    exact fin J rv q
  | next =>
    obtain ⟨σ', H', J, q⟩ := hs
    exact fin (v := V.non) (u := Value.none) J rfl q
  | brk =>
    obtain ⟨_, _, _, q⟩ := hs
    exact False.elim q
  | cont =>
    obtain ⟨_, _, _, q⟩ := hs
    exact False.elim q
end L2

namespace L2
open PySem PySem.Spec PyProof.Rows
section
variable {X : Cx} {x : Str} {p pos : Pos} {e : Expr} {es : List Expr} {t : TA} {id T : String} {r : List V → Hp → VK → Prop}

def tCB (r : List V → Hp → VK → Prop) (t : TA) : TE := fun σ H Q => t σ H fun vs H1 => r vs H1 Q
theorem pe_callB (hc : CallR X (.builtin id) r) (hg : Gl X x) (hm : X.mg x = none) (hv : bootBuiltins x = some (.builtin id)) (ha : PA X (e :: es) t) (hn : x ≠ "__name__" := by decide) (hdb : (x == ("__debug__" : Str)) = false := by decide)
    (he : starEach (e :: es) X.env = (false, eval e X.env) :: starEach es X.env := by rfl) (hpl : (backTo pos (starEach es X.env)).any (·.1) = false := by rfl) : PE X (.Call (.Name x p) (e :: es) [] pos) (tCB r t) := by
  intro pins s σ H Q I h
  refine wpAny_Call_Name_kw (ld_blt I hg hm hv ?_ hn hdb)
  exact PyProof.Rows.callWith_builtin1 (thn (ha pos pins s σ H _ I h) fun us s1 ⟨vs, H1, I1, r1, q1⟩ => hc pins s1 σ H1 vs us Q I1 r1 q1) he hpl
theorem pe_callTy (hc : CallR X (.type T) r) (hg : Gl X x) (hm : X.mg x = none) (hv : bootBuiltins x = some (.type T)) (ha : PA X (e :: es) t) (hn : x ≠ "__name__" := by decide) (hdb : (x == ("__debug__" : Str)) = false := by decide)
    (he : starEach (e :: es) X.env = (false, eval e X.env) :: starEach es X.env := by rfl) (hpl : (backTo pos (starEach es X.env)).any (·.1) = false := by rfl) : PE X (.Call (.Name x p) (e :: es) [] pos) (tCB r t) := by
  intro pins s σ H Q I h
  refine wpAny_Call_Name_kw (ld_blt I hg hm hv ?_ hn hdb)
  exact PyProof.Rows.callWith_type1 (thn (ha pos pins s σ H _ I h) fun us s1 ⟨vs, H1, I1, r1, q1⟩ => hc pins s1 σ H1 vs us Q I1 r1 q1) he hpl
end
end L2

namespace HT
open PySem PyProof.Rows

section
open PySem.SeqAt
open PySem.AutoSeq1 (wpAny_loadPart')
open PySem.MeetsSeq PySem.MeetsSeq2 PySem.MeetsSeq3

end

section
variable {prog : Program} {w : World} {A : Around} {E : Value → Shared → Prop} {s : Shared}

/-! ### t[a:b], not the whole -/
def sIx (n d : Nat) : Option Int → Nat
  | none => d
  | some v => if v < 0 then (v + (n : Int)).toNat else min v.toNat n
theorem sIx_none (n d : Nat) : sIx n d none = d := rfl
theorem sIx_nat (n d k : Nat) : sIx n d (some (k : Int)) = min k n := by
  show (if (k : Int) < 0 then ((k : Int) + (n : Int)).toNat else min (k : Int).toNat n) = min k n
  rw [if_neg (by omega), Int.toNat_natCast]
theorem sIx_le (n d : Nat) (hd : d ≤ n) (o : Option Int) : sIx n d o ≤ n := by
  cases o with
  | none => exact hd
  | some v =>
    show (if v < 0 then (v + (n : Int)).toNat else min v.toNat n) ≤ n
    by_cases hv : v < 0
    · rw [if_pos hv]; omega
    · rw [if_neg hv]; exact Nat.min_le_right _ _
end
end HT

namespace L2
open PySem PySem.Spec PyProof.Rows

/-! ### the parts of a slice -/
abbrev TO := St → Hp → (Option Int → Hp → Prop) → Prop
def PO (X : Cx) (e : Option Expr) (t : TO) : Prop :=
  ∀ (pins : List (Addr × Obj)) (s : Shared) (σ : St) (H : Hp) (Q : Option Int → Hp → Prop), Inv X pins σ H s → t σ H Q →
    wpAny (model X.prog X.w) X.A (evalPart e X.env) (fun u s' => ∃ o H', Inv X pins σ H' s' ∧ IsPart u o ∧ Q o H') X.xe s
def tNoPart : TO := fun _ H Q => Q none H
def tPart (t : TE) : TO := fun σ H Q => t σ H fun x H1 => ∃ i, x = .int i ∧ Q (some i) H1

section
variable {X : Cx} {e : Expr} {te : TE} {lo hi : Option Expr} {tl th : TO} {pos p2 : Pos}

theorem po_none : PO X none tNoPart := by
  intro pins s σ H Q I h
  rw [evalPart_none]
  exact wpAny_pure ⟨none, H, I, .none, h⟩
theorem po_some (h : PE X e te) : PO X (some e) (tPart te) := by
  intro pins s σ H Q I hw
  rw [evalPart_some]
  refine thn (h pins s σ H _ I hw) fun u s1 ⟨x, H1, I1, r1, q1⟩ => ?_
  obtain ⟨i, rfl, q⟩ := q1
  obtain ⟨t, rfl⟩ := r1
  exact ⟨some i, H1, I1, .int i t, q⟩

def SlR (X : Cx) (r : V → Option Int → Option Int → Hp → VK → Prop) : Prop :=
  ∀ (pins : List (Addr × Obj)) (s : Shared) (σ : St) (H : Hp) (x : V) (v vl vu : Value) (lo hi : Option Int) (sl : Addr) (Q : VK), Inv X pins σ H s → RelV x v → s.heap.IsSliceOf sl vl vu .none → IsPart vl lo → IsPart vu hi → r x lo hi H Q →
    ∃ T id, typeLookup (.type T) "__getitem__" = pure (some (.builtin id)) ∧ s.TypeIs v T ∧ wpAny (model X.prog X.w) X.A (getItem v (.ref sl)) (EP X pins σ Q) X.xe s
def tSl (r : V → Option Int → Option Int → Hp → VK → Prop) (te : TE) (tl th : TO) : TE := fun σ H Q => te σ H fun x H1 => tl σ H1 fun l H2 => th σ H2 fun u H3 => r x l u H3 Q
theorem pe_slice {r : V → Option Int → Option Int → Hp → VK → Prop} (hr : SlR X r) (he : PE X e te) (hl : PO X lo tl) (hu : PO X hi th) : PE X (.Subscript e (.Slice lo hi none p2) pos) (tSl r te tl th) := by
  intro pins s σ H Q I h
  refine Subscript_ (thn (he pins s σ H _ I h) fun v s1 ⟨x, H1, I1, r1, q1⟩ => ?_)
  refine wpAny_Slice (thn (hl pins s1 σ H1 _ I1 q1) fun vl s2 ⟨l, H2, I2, pl, q2⟩ => thn (hu pins s2 σ H2 _ I2 q2) fun vu s3 ⟨u, H3, I3, pu, q3⟩ => ?_)
  rw [evalPart_none]
  refine wpAny_pure ?_
  have I4 : Inv X pins σ H3 { s3 with heap := s3.heap.push { cls := .type "slice", data := .fields #[vl, vu, .none] } } := I3.kept (t' := s3.toks) fun b ob q => Heap.get?_push_of_some _ q
  obtain ⟨T, id, hT, ht, hg⟩ := hr pins { s3 with heap := s3.heap.push { cls := .type "slice", data := .fields #[vl, vu, .none] } } σ H3 x v vl vu l u s3.heap.objs.size Q I4 r1 (Heap.IsSliceOf.new ..) pl pu q3
  show wpAny (model X.prog X.w) X.A (subscriptTail e (.Slice lo hi none p2) v (.ref s3.heap.objs.size)) (EP X pins σ Q) X.xe { s3 with heap := s3.heap.push { cls := .type "slice", data := .fields #[vl, vu, .none] } }
  exact tail_any (ops := [.ref s3.heap.objs.size, v]) ht hT hg (by with_unfolding_all rfl)

def cutV (xs : List V) (lo hi : Option Int) : List V := (xs.drop (HT.sIx xs.length 0 lo)).take (HT.sIx xs.length xs.length hi - HT.sIx xs.length 0 lo)
theorem cutV_length (xs : List V) (lo hi : Option Int) : (cutV xs lo hi).length ≤ xs.length := by
  unfold cutV
  rw [List.length_take, List.length_drop]
  omega
/-! ### t < u, t + u -/
end
end L2

namespace L2
open PySem PySem.Spec PyProof.Rows

/-! ### places -/
def ixN (n : Nat) (i : Int) : Option Nat := if 0 ≤ i then (if i < n then some i.toNat else none) else if -(n : Int) ≤ i then some (i + n).toNat else none
def atI {α : Type} (xs : List α) (i : Int) : Option α := (ixN xs.length i).bind fun j => xs[j]?
theorem ixN_seq {n : Nat} {i : Int} {j : Nat} (h : ixN n i = some j) : seqIndex? i n = some j ∧ j < n ∧ -(n : Int) ≤ i ∧ i < n := by
  unfold ixN at h
  by_cases h0 : 0 ≤ i
  · rw [if_pos h0] at h
    by_cases h1 : i < n
    · rw [if_pos h1] at h
      have e : i.toNat = j := Option.some.inj h
      exact ⟨by rw [seqIndex_of h0 h1, e], by omega, by omega, h1⟩
    · rw [if_neg h1] at h; cases h
  · rw [if_neg h0] at h
    by_cases h1 : -(n : Int) ≤ i
    · rw [if_pos h1] at h
      have e : (i + n).toNat = j := Option.some.inj h
      exact ⟨by rw [seqIndex_neg (by omega) h1, e], by omega, h1, by omega⟩
    · rw [if_neg h1] at h; cases h
theorem atI_get {α : Type} {xs : List α} {i : Int} {v : α} (h : atI xs i = some v) : ∃ j, seqIndex? i xs.length = some j ∧ xs[j]? = some v ∧ j < xs.length ∧ -(xs.length : Int) ≤ i ∧ i < xs.length := by
  unfold atI at h
  cases e : ixN xs.length i with
  | none => rw [e] at h; cases h
  | some j =>
    rw [e] at h
    obtain ⟨h1, h2, h3, h4⟩ := ixN_seq e
    exact ⟨j, h1, h, h2, h3, h4⟩
theorem atI_nat {α : Type} {xs : List α} {j : Nat} {v : α} (h : xs[j]? = some v) : atI xs (j : Int) = some v := by
  have hj : j < xs.length := (List.getElem?_eq_some_iff.mp h).1
  have e : ixN xs.length (j : Int) = some j := by
    unfold ixN
    rw [if_pos (by omega), if_pos (by omega)]; simp
  unfold atI; rw [e]; exact h
theorem atI_last {α : Type} (xs : List α) (v : α) : atI (xs ++ [v]) (-1) = some v := by
  have hl : (xs ++ [v]).length = xs.length + 1 := by simp
  have e : ixN (xs ++ [v]).length (-1) = some xs.length := by
    unfold ixN
    rw [hl, if_neg (by decide), if_pos (by omega)]
    congr 1
    omega
  unfold atI
  rw [e]
  show (xs ++ [v])[xs.length]? = some v
  simp

/-! ### what may be subscripted -/
def PlainIx (b : Expr) : Prop := ∀ o i, subscripted b false o i = operate [o, i] (getItem o i)
def IxR (X : Cx) (r : R2) : Prop :=
  ∀ (value slice : Expr) (pins : List (Addr × Obj)) (s : Shared) (σ : St) (H : Hp) (x y : V) (v u : Value) (Q : VK), Inv X pins σ H s → RelV x v → RelV y u → r x y H Q →
    subscripted slice false v u = operate [v, u] (getItem v u) → wpAny (model X.prog X.w) X.A (subscriptTail value slice v u) (EP X pins σ Q) X.xe s
def MtR (X : Cx) (id : String) (r : V → List V → Hp → VK → Prop) : Prop :=
  ∀ (pins : List (Addr × Obj)) (s : Shared) (σ : St) (H : Hp) (x : V) (xs : List V) (v : Value) (us : List Value) (Q : VK), Inv X pins σ H s → RelV x v → Vals xs us → r x xs H Q →
    wpAny (model X.prog X.w) X.A (call (.builtin id) (v :: us)) (EP X pins σ Q) X.xe s
section
variable {X : Cx} {a b : Expr} {ta tb : TE} {pos : Pos}
theorem pe_ix {r : R2} (hr : IxR X r) (ha : PE X a ta) (hb : PE X b tb) (hs : PlainIx b) : PE X (.Subscript a b pos) (tOp r ta tb) := by
  intro pins s σ H Q I h
  exact Subscript_ (binT ha hb I h fun v u s2 x y H2 I2 rx ry q => hr a b pins s2 σ H2 x y v u Q I2 rx ry q (hs _ _))

def rIxL (K : PySem.W.Frag) : R2 := fun x y H Q => ∃ p xs i v, x = .ref p ∧ y = .int i ∧ SqL K H p xs ∧ atI xs i = some v ∧ Q v H
def rIxT (K : PySem.W.Frag) : R2 := fun x y H Q => ∃ p xs i v, x = .ref p ∧ y = .int i ∧ SqT K H p xs ∧ atI xs i = some v ∧ Q v H
def rIxS : R2 := fun x y H Q => ∃ z i c, x = .str z ∧ y = .int i ∧ z.length ≤ sizeLine ∧ atI z.cps.toList i = some c ∧ Q (.str ⟨#[c]⟩) H
theorem ix_list : IxR X (rIxL X.K) := by
  intro value slice pins s σ H x y v u Q I rx ry h hs
  obtain ⟨p, xs, i, z, rfl, rfl, hq, he, q⟩ := h
  cases rx
  obtain ⟨t, rfl⟩ := ry
  obtain ⟨its, r, pl, hz⟩ := I.list hq
  obtain ⟨j, h1, h2, h3, h4, h5⟩ := atI_get he
  obtain ⟨w, ew, rw'⟩ := r.get h2
  have hl := r.length
  have hn := line63
  have fin : EP X pins σ Q w s := ⟨z, H, I, rw', q⟩
  by_cases h0 : 0 ≤ i
  · have hj : i.toNat = j := by
      rw [seqIndex_of h0 h5] at h1
      exact Option.some.inj h1
    exact item_listR pl.isList h0 (by omega) (by rw [hj]; simpa using ew) fin hs
  · have hj : (i + (its.toArray.size : Int)).toNat = j := by
      rw [seqIndex_neg (by omega) h4] at h1
      rw [List.size_toArray, ← hl]
      exact Option.some.inj h1
    exact subscriptTail_builtinR (x := w) pl.isList.typeIs slot_list_getitem.lookup
      (wpAny_getItem_list_neg (Q := fun r s' => r = w ∧ EP X pins σ Q r s') pl.isList (by omega) (by rw [List.size_toArray] <;> omega) (by omega) (by rw [hj]; simpa using ew) ⟨rfl, fin⟩) hs
theorem ix_tup : IxR X (rIxT X.K) := by
  intro value slice pins s σ H x y v u Q I rx ry h hs
  obtain ⟨p, xs, i, z, rfl, rfl, hq, he, q⟩ := h
  cases rx
  obtain ⟨t, rfl⟩ := ry
  obtain ⟨its, r, pl, hz⟩ := I.tuple hq
  obtain ⟨j, h1, h2, h3, h4, h5⟩ := atI_get he
  obtain ⟨w, ew, rw'⟩ := r.get h2
  have hl := r.length
  have hn := line63
  have fin : EP X pins σ Q w s := ⟨z, H, I, rw', q⟩
  exact subscriptTail_builtinR (x := w) pl.typeIs slot_tuple_getitem.lookup
    (getItem_tuple (j := j) (Q := fun r s' => r = w ∧ EP X pins σ Q r s') pl (by omega) (by omega) (by rw [List.size_toArray, ← hl]; exact h1) (by simpa using ew) ⟨rfl, fin⟩) hs
theorem ix_str : IxR X rIxS := by
  intro value slice pins s σ H x y v u Q I rx ry h hs
  obtain ⟨z, i, c, rfl, rfl, hz, he, q⟩ := h
  obtain ⟨t, rfl⟩ := rx
  obtain ⟨t', rfl⟩ := ry
  obtain ⟨j, h1, h2, h3, h4, h5⟩ := atI_get he
  have hl : z.cps.toList.length = z.length := by simp [Str.length]
  rw [hl] at h1 h4 h5
  have hn := line63
  exact tail_any (typeIs_str s z t) slot_str_getitem.lookup (getItem_str (c := c) (by
    have e1 : decide (i < -(2 ^ 63 : Int)) = false := decide_eq_false (by omega)
    have e2 : decide (i ≥ 2 ^ 63) = false := decide_eq_false (by omega)
    rw [e1, e2, Bool.or_false]) (by rw [h1]; simpa using h2) ⟨.str ⟨#[c]⟩, H, I.tok _, ⟨_, rfl⟩, q⟩) hs
/-! ### xs[i] = v, any sign -/
theorem mapSeq_set (its : List Value) (n j : Nat) (u : Value) : Obj.mapSeq (·.setIfInBounds j u) { cls := .type "list", data := .seq its.toArray n } = { cls := .type "list", data := .seq (its.set j u).toArray n } := by
  simp [Obj.mapSeq]
theorem Inv.lst {pins : List (Addr × Obj)} {σ : St} {H : Hp} {s : Shared} {p : Addr} {xs : List V} (I : Inv X pins σ H s) (h : H p = some (.lst xs)) :
    ∃ (its : List Value) (n : Nat), Vals xs its ∧ s.heap.get? p = some { cls := .type "list", data := .seq its.toArray n } ∧ xs.length ≤ sizeLine := by
  obtain ⟨z, its, n, r, e⟩ := I.hok p _ h
  exact ⟨its, n, r, e, z⟩
theorem Inv.lstUpd {pins : List (Addr × Obj)} {σ : St} {H : Hp} {s : Shared} {p : Addr} {xs ys : List V} {its its' : List Value} {n n' : Nat} {f : Obj → Obj} (I : Inv X pins σ H s) (h : H p = some (.lst xs))
    (ho : s.heap.get? p = some { cls := .type "list", data := .seq its.toArray n }) (hf : f { cls := .type "list", data := .seq its.toArray n } = { cls := .type "list", data := .seq its'.toArray n' }) (r : Vals ys its') (hz : ys.length ≤ sizeLine) (t : Nat) :
    Inv X pins σ (upd H p (.lst ys)) { s with heap := s.heap.update p f, toks := t } := by
  have e : (s.heap.update p f).get? p = some { cls := .type "list", data := .seq its'.toArray n' } := by
    rw [Heap.get?_update_self f ho (by rw [hf] <;> rfl), hf]
  refine I.write (x := p) (e := p) (by rw [h]; trivial) (.inl rfl) (fun b u hb q => (Heap.get?_update_other _ _ (Ne.symm hb)).trans q) ⟨_, e⟩ ?_
  exact ⟨hz, its', n', r, e⟩
def rSetL : V → V → V → Hp → (Hp → Prop) → Prop := fun o i v H Q => ∃ p xs k j, o = .ref p ∧ i = .int k ∧ H p = some (.lst xs) ∧ ixN xs.length k = some j ∧ Q (upd H p (.lst (xs.set j v)))
theorem set_list : PSet X rSetL := by
  intro pins s σ H o i v ov iv u Q I ro ri rv h
  obtain ⟨p, xs, k, j, rfl, rfl, hp, hj, q⟩ := h
  cases ro
  obtain ⟨t, rfl⟩ := ri
  obtain ⟨its, n, r, ho, hz⟩ := I.lst hp
  obtain ⟨h1, h2, h3, h4⟩ := ixN_seq hj
  have hl := r.length
  have hn := line63
  have I' : Inv X pins σ (upd H p (.lst (xs.set j v))) { s with heap := s.heap.update p (Obj.mapSeq (·.setIfInBounds j u)) } :=
    I.lstUpd hp ho (mapSeq_set its n j u) (r.set rv j) (by rw [List.length_set]; exact hz) s.toks
  by_cases h0 : 0 ≤ k
  · have hk : k.toNat = j := by
      rw [seqIndex_of h0 h4] at h1
      exact Option.some.inj h1
    exact PySem.W.ki_setAt ho h0 (by omega) (by rw [List.size_toArray, ← hl]; exact h4) (by rw [hk]; exact ⟨_, I', q⟩)
  · have hk : (k + (its.toArray.size : Int)).toNat = j := by
      rw [seqIndex_neg (by omega) h3] at h1
      rw [List.size_toArray, ← hl]
      exact Option.some.inj h1
    exact PySem.W.ki_setBack ho (by omega) (by rw [List.size_toArray, ← hl]; exact h3) (by omega) (by rw [hk]; exact ⟨_, I', q⟩)

/-! ### slices -/
theorem slice_bounds (lo hi : Option Int) (n : Nat) : (sliceBounds lo hi none n).1 = ((HT.sIx n 0 lo : Nat) : Int) ∧ (sliceBounds lo hi none n).2.1 = ((HT.sIx n n hi : Nat) : Int) ∧ (sliceBounds lo hi none n).2.2 = 1 := by
  refine ⟨?_, ?_, rfl⟩
  · cases lo with
    | none => simp [sliceBounds, HT.sIx]
    | some i =>
      simp only [sliceBounds, HT.sIx, Option.getD_none, show (1 : Int) > 0 by decide, if_true]
      by_cases h : i < 0
      · simp only [h, if_true] <;> omega
      · simp only [h, if_false] <;> omega
  · cases hi with
    | none => simp [sliceBounds, HT.sIx]
    | some i =>
      simp only [sliceBounds, HT.sIx, Option.getD_none, show (1 : Int) > 0 by decide, if_true]
      by_cases h : i < 0
      · simp only [h, if_true] <;> omega
      · simp only [h, if_false] <;> omega
theorem slicePick_cut (its : List Value) (lo hi : Option Int) : slicePick its.toArray lo hi none = ((its.drop (HT.sIx its.length 0 lo)).take (HT.sIx its.length its.length hi - HT.sIx its.length 0 lo)).toArray := by
  obtain ⟨h1, h2, h3⟩ := slice_bounds lo hi its.toArray.size
  unfold slicePick
  rw [h1, h2, h3]
  simp only [sliceRange_one, pick_run, List.size_toArray] <;> rfl
def rSlL (K : PySem.W.Frag) : V → Option Int → Option Int → Hp → VK → Prop := fun x lo hi H Q => ∃ a xs, x = .ref a ∧ SqL K H a xs ∧ ∀ p, H p = none → Q (.ref p) (upd H p (.lst (cutV xs lo hi)))
theorem sl_list : SlR X (rSlL X.K) := by
  intro pins s σ H x v vl vu lo hi sl Q I rx hs pl pu h
  obtain ⟨a, xs, rfl, hx, q⟩ := h
  cases rx
  obtain ⟨its, r, ht, hz⟩ := I.list hx
  have hlen := r.length
  refine ⟨"list", _, slot_list_getitem.lookup, ht.isList.typeIs, ?_⟩
  refine wpAny_getItem_list_slice ht.isList hs pl pu .none (by simp) ?_ (by rw [List.size_toArray] <;> omega)
  rw [slicePick_cut, ← hlen]
  refine ⟨.ref s.heap.objs.size, _, I.laid (t' := s.toks) (o := .lst (cutV xs lo hi)) (fun b ob q => Heap.get?_push_of_some _ q) (Nat.le_refl _) ?_, rfl, q _ (I.hok.fresh (Nat.le_refl _))⟩
  exact ⟨Nat.le_trans (cutV_length xs lo hi) hz, _, 0, (r.drop (HT.sIx xs.length 0 lo)).take (HT.sIx xs.length xs.length hi - HT.sIx xs.length 0 lo), Heap.get?_push_size _ rfl⟩

/-! ### in, not in: flat items -/
def flatV : V → Bool
  | .non => true
  | .bl _ => true
  | .int _ => true
  | .str _ => true
  | _ => false
def eqV : V → V → Bool
  | .non, .non => true
  | .bl a, .bl b => a == b
  | .bl a, .int b => (if a then 1 else 0) == b
  | .int a, .bl b => a == (if b then 1 else 0)
  | .int a, .int b => a == b
  | .str a, .str b => a == b
  | _, _ => false
theorem eqAt_V {A : Around} {s : Shared} {y x : V} {u v : Value} (ry : RelV y u) (rx : RelV x v) (fy : flatV y = true) (fx : flatV x = true) : SeqAt.EqAt A s u v (eqV y x) := by
  cases y with
  | non =>
    cases ry
    cases x with
    | non => cases rx; exact SeqAt.EqAt.same _
    | bl b => cases rx; exact SeqAt.EqAt.none_bool b
    | int b => obtain ⟨t, rfl⟩ := rx; exact SeqAt.EqAt.none_int b t
    | str b => obtain ⟨t, rfl⟩ := rx; exact SeqAt.EqAt.none_str b t
    | _ => exact absurd (show false = true from fx) Bool.false_ne_true
  | bl a =>
    cases ry
    cases x with
    | non => cases rx; exact SeqAt.EqAt.bool_none a
    | bl b => cases rx; exact SeqAt.EqAt.bool_bool a b
    | int b => obtain ⟨t, rfl⟩ := rx; exact SeqAt.EqAt.bool_int a b t
    | str b => obtain ⟨t, rfl⟩ := rx; exact SeqAt.EqAt.bool_str a b t
    | _ => exact absurd (show false = true from fx) Bool.false_ne_true
  | int a =>
    obtain ⟨t', rfl⟩ := ry
    cases x with
    | non => cases rx; exact SeqAt.EqAt.int_none a t'
    | bl b => cases rx; exact SeqAt.EqAt.int_bool a t' b
    | int b => obtain ⟨t, rfl⟩ := rx; exact SeqAt.EqAt.int_int a t' b t
    | str b => obtain ⟨t, rfl⟩ := rx; exact SeqAt.EqAt.int_str a t' b t
    | _ => exact absurd (show false = true from fx) Bool.false_ne_true
  | str a =>
    obtain ⟨t', rfl⟩ := ry
    cases x with
    | non => cases rx; exact SeqAt.EqAt.str_none a t'
    | bl b => cases rx; exact SeqAt.EqAt.str_bool a t' b
    | int b => obtain ⟨t, rfl⟩ := rx; exact SeqAt.EqAt.str_int a t' b t
    | str b => obtain ⟨t, rfl⟩ := rx; exact SeqAt.EqAt.str_str a t' b t
    | _ => exact absurd (show false = true from fx) Bool.false_ne_true
  | _ => exact absurd (show false = true from fy) Bool.false_ne_true
/-! ### len, list(x), tuple(x) of any list or tuple that is read -/
theorem call_len_seq : CallR X (.builtin "len") (fun xs H Q => ∃ p ys, xs = [.ref p] ∧ (SqL X.K H p ys ∨ SqT X.K H p ys) ∧ Q (.int ys.length) H) := by
  intro pins s σ H xs us Q I r h
  obtain ⟨p, ys, rfl, hq, q⟩ := h
  obtain ⟨u, rfl, rx⟩ := vals1 r
  cases rx
  have hn := line63
  rcases hq with hq | hq
  · obtain ⟨its, r', pl, hz⟩ := I.list hq
    have hlen := r'.length
    exact Calls.call_len_list pl.isList (by simp only [List.size_toArray] <;> omega) ⟨.int ys.length, H, I.tok _, ⟨s.toks + 1, by rw [List.size_toArray, hlen]⟩, q⟩
  · obtain ⟨its, r', pl, hz⟩ := I.tuple hq
    have hlen := r'.length
    exact len_tuple pl (by simp only [List.size_toArray] <;> omega) ⟨.int ys.length, H, I.tok _, ⟨s.toks + 1, by rw [List.size_toArray, hlen]⟩, q⟩
theorem call_len_str : CallR X (.builtin "len") (fun xs H Q => ∃ z, xs = [.str z] ∧ z.length ≤ sizeLine ∧ Q (.int z.length) H) := by
  intro pins s σ H xs us Q I r h
  obtain ⟨z, rfl, hz, q⟩ := h
  obtain ⟨u, rfl, t, rfl⟩ := vals1 r
  have hn := line63
  exact len_str (by omega) ⟨.int z.length, H, I.tok _, ⟨_, rfl⟩, q⟩
theorem call_list_of : CallR X (.type "list") (fun xs H Q => ∃ p ys, xs = [.ref p] ∧ (SqL X.K H p ys ∨ SqT X.K H p ys) ∧ ∀ l, H l = none → Q (.ref l) (upd H l (.lst ys))) := by
  intro pins s σ H xs us Q I r h
  obtain ⟨p, ys, rfl, hq, q⟩ := h
  obtain ⟨u, rfl, rx⟩ := vals1 r
  cases rx
  have fin : ∀ (its : List Value), Vals ys its → ys.length ≤ sizeLine → ∀ (h' : Heap) (c' : Nat), (∀ b o', s.heap.get? b = some o' → h'.get? b = some o') →
      h'.get? s.heap.objs.size = some { cls := .type "list", dict := none, data := .seq its.toArray c', slots := #[] } → EP X pins σ Q (.ref s.heap.objs.size) { s with heap := h' } := fun its r' hz h' c' kp e =>
    ⟨.ref s.heap.objs.size, _, I.laid (t' := s.toks) kp (Nat.le_refl _) (show ObjOk X.prog X.w _ h' _ (.lst ys) from ⟨hz, its, c', r', e⟩), rfl, q _ (I.hok.fresh (Nat.le_refl _))⟩
  rcases hq with hq | hq
  · obtain ⟨its, r', pl, hz⟩ := I.list hq
    have hlen := r'.length
    obtain ⟨o, ho, hc, n, hd⟩ := pl.isList
    exact call_list_seq p (.inl rfl) ho hc hd (fun h' c' kp e => fin its r' hz h' c' kp e) (by simp only [List.size_toArray] <;> omega)
  · obtain ⟨its, r', pl, hz⟩ := I.tuple hq
    have hlen := r'.length
    obtain ⟨o, ho, hc, n, hd⟩ := pl
    exact call_list_seq p (.inr rfl) ho hc hd (fun h' c' kp e => fin its r' hz h' c' kp e) (by simp only [List.size_toArray] <;> omega)
/-! ### the call of a builtin's method: o.m(..) -/
def tyV (K : PySem.W.Frag) (T : String) (x : V) (H : Hp) : Prop := match x with
  | .str _ => T = "str"
  | .int _ => T = "int"
  | .ref p => (T = "list" ∧ ∃ xs, SqL K H p xs) ∨ (T = "tuple" ∧ ∃ o, K.lookup p = some o ∧ o.cls = .type "tuple" ∧ o.dict = none) ∨
      (T = "dict" ∧ ((∃ kvs, H p = some (.dK kvs)) ∨ ∃ kvs, H p = some (.dT kvs))) ∨ (T = "set" ∧ ∃ S n, H p = some (.set S n))
  | _ => False
theorem tyV_is {pins : List (Addr × Obj)} {σ : St} {H : Hp} {s : Shared} {T : String} {x : V} {v : Value} (I : Inv X pins σ H s) (r : RelV x v) (ty : tyV X.K T x H) :
    s.TypeIs v T ∧ ∀ a, v = .ref a → ∃ ob, s.heap.get? a = some ob ∧ ob.dict = none := by
  cases x with
  | str z =>
    obtain ⟨t, rfl⟩ := r
    cases (show T = "str" from ty)
    exact ⟨typeIs_str s z t, fun _ e => nomatch e⟩
  | int i =>
    obtain ⟨t, rfl⟩ := r
    cases (show T = "int" from ty)
    exact ⟨typeIs_int s i t, fun _ e => nomatch e⟩
  | ref p =>
    cases r
    rcases ty with ⟨rfl, xs, hq⟩ | ⟨rfl, o, hk, hc, hd⟩ | ⟨rfl, hk⟩ | ⟨rfl, S, n, hk⟩
    · obtain ⟨its, _, pl, _⟩ := I.list hq
      refine ⟨pl.isList.typeIs, fun a e => ?_⟩
      cases e
      obtain ⟨o, n, e, c, hd, _⟩ := pl
      exact ⟨o, e, hd⟩
    · refine ⟨⟨o, I.kIn p o hk, hc⟩, fun a e => ?_⟩
      cases e
      exact ⟨o, I.kIn _ o hk, hd⟩
    · have z : ∃ o, s.heap.get? p = some o ∧ o.ExactDict := by
        rcases hk with ⟨kvs, hk⟩ | ⟨kvs, hk⟩
        · obtain ⟨_, _, _, _, o, _, _, e, ex, _⟩ := I.hok p _ hk
          exact ⟨o, e, ex⟩
        · obtain ⟨_, _, _, _, o, _, _, e, ex, _⟩ := I.hok p _ hk
          exact ⟨o, e, ex⟩
      obtain ⟨o, e, ex⟩ := z
      refine ⟨⟨o, e, ex.1⟩, fun a e2 => ?_⟩
      cases e2
      exact ⟨o, e, ex.2.1⟩
    · obtain ⟨o, _, _, _, e, ex, _⟩ := I.hok p _ hk
      refine ⟨⟨o, e, ex.1⟩, fun a e2 => ?_⟩
      cases e2
      exact ⟨o, e, ex.2.1⟩
  | _ => exact False.elim ty
def tBM (K : PySem.W.Frag) (T : String) (r : V → List V → Hp → VK → Prop) (to : TE) (t : TA) : TE := fun σ H Q => to σ H fun x H1 => tyV K T x H1 ∧ t σ H1 fun xs H2 => r x xs H2 Q
variable {o e : Expr} {es : List Expr} {to : TE} {t : TA} {name : Str} {apos cpos : Pos} {T id : String} {r : V → List V → Hp → VK → Prop}
theorem pe_bm (pa : PlainAttrs T) (slot : Slot T name id) (hty : typeOf (.builtin id) = pure (.type "method_descriptor")) (hm : MtR X id r) (ho : PE X o to) (ha : PA X (e :: es) t)
    (hbase : attributeBase o name X.env (eval o X.env) = eval o X.env := by rfl)
    (hfew : ((backTo cpos (starEach (e :: es) X.env)).all (fun x => !x.1) && (backToKw cpos (keywordEach [] X.env)).all (fun x => x.1.isSome)
      && decide ((e :: es).length + ([] : List Keyword).length + (if ([] : List Keyword).isEmpty then 0 else 1) < 30)) = true := by rfl)
    (hline : (apos.endLine == cpos.line) = true := by rfl) (hs : starEach (e :: es) X.env = (false, eval e X.env) :: starEach es X.env := by rfl) (hplain : (backTo cpos (starEach es X.env)).any (·.1) = false := by rfl) :
    PE X (.Call (.Attribute o name apos) (e :: es) [] cpos) (tBM X.K T r to t) := by
  intro pins s σ H Q I h
  refine wpAny_Call_method_late hbase hfew hline rfl (thn (ho pins s σ H _ I h) fun v s1 ⟨x, H1, I1, r1, ty, q1⟩ => ?_)
  obtain ⟨h1, h2⟩ := tyV_is I1 r1 ty
  refine ⟨T, id, pa, slot, hty, h1, h2, ?_⟩
  have hA := ha cpos pins s1 σ H1 _ I1 q1
  rw [hs] at hA ⊢
  refine Calls.callWith_builtin (by show (false || (backTo cpos (starEach es X.env)).any (·.1)) = false; rw [hplain] <;> rfl) (Calls.evalArgs_plain ?_)
  exact thn hA fun us s2 ⟨vs, H2, I2, r2, q2⟩ => hm pins s2 σ H2 x vs v us Q I2 r1 r2 q2
/- xs.append(e), list.index on a module's tuple .. are MtR facts of 06m -/
end
end L2

namespace L2
open PySem PySem.Spec PyProof.Rows

def MtM (X : Cx) (id : String) (r : V → List V → Hp → VK → Prop) : Prop :=
  ∀ (pins : List (Addr × Obj)) (s : Shared) (σ : St) (H : Hp) (x : V) (xs : List V) (v : Value) (us : List Value) (Q : VK), Inv X pins σ H s → RelV x v → Vals xs us → r x xs H Q →
    wpAny (model X.prog X.w) X.A (call (.builtin id) (v :: us)) (EP X pins σ Q) X.xe s

/-! ### lists of values -/
theorem Vals.one : ∀ {x : V} {us : List Value}, Vals [x] us → ∃ u, us = [u] ∧ RelV x u
  | _, _, .cons r .nil => ⟨_, rfl, r⟩
theorem Vals.two : ∀ {x y : V} {us : List Value}, Vals [x, y] us → ∃ u v, us = [u, v] ∧ RelV x u ∧ RelV y v
  | _, _, _, .cons r (.cons q .nil) => ⟨_, _, rfl, r, q⟩
theorem Vals.rep {xs : List V} {us : List Value} (h : Vals xs us) : ∀ k : Nat, Vals (List.replicate k xs).flatten (List.replicate k us).flatten
  | 0 => .nil
  | k + 1 => by
    rw [List.replicate_succ, List.replicate_succ, List.flatten_cons, List.flatten_cons]
    exact Vals.append h (Vals.rep h k)
theorem foldl_rep (its : List Value) : ∀ (k : Nat) (acc : List Value),
    List.foldl (fun x1 x2 => x1 ++ x2) acc.toArray (List.replicate k its.toArray) = (acc ++ (List.replicate k its).flatten).toArray
  | 0, acc => by simp
  | k + 1, acc => by
    have e : acc.toArray ++ its.toArray = (acc ++ its).toArray := by simp
    have e2 : (acc ++ its) ++ (List.replicate k its).flatten = acc ++ (List.replicate (k + 1) its).flatten := by
      rw [List.replicate_succ, List.flatten_cons, List.append_assoc]
    rw [← e2, ← foldl_rep its k (acc ++ its), ← e, List.replicate_succ, List.foldl_cons]

section
variable {X : Cx} {pins : List (Addr × Obj)} {σ : St} {H : Hp} {s : Shared} {l b : Addr} {xs ys zs : List V}

/-! ### the two steps: a tracked list is rewritten, a new list is laid -/
theorem Inv.lset {its its' : List Value} {n : Nat} {f : Array Value → Array Value} {t' : Nat} (I : Inv X pins σ H s) (hH : H l = some (.lst xs))
    (e : s.heap.get? l = some { cls := .type "list", data := .seq its.toArray n }) (hf : f its.toArray = its'.toArray) (hv : Vals ys its') (hz : ys.length ≤ sizeLine) :
    Inv X pins σ (upd H l (.lst ys)) { s with heap := s.heap.update l (Obj.mapSeq f), toks := t' } := by
  have q := PySem.IsL.update e f
  rw [hf] at q
  refine I.write (x := l) (e := l) (by rw [hH]; exact trivial) (.inl rfl) (fun b' u hb hu => (Heap.get?_update_other s.heap (Obj.mapSeq f) (Ne.symm hb)).trans hu) ⟨_, q⟩ ?_
  exact ⟨hz, its', _, hv, q⟩
theorem Inv.lnew {its : List Value} {t' : Nat} (I : Inv X pins σ H s) (hv : Vals ys its) (hz : ys.length ≤ sizeLine) :
    Inv X pins σ (upd H s.heap.objs.size (.lst ys)) { s with heap := s.heap.push { cls := .type "list", data := .seq its.toArray }, toks := t' } :=
  I.laid (fun _ _ q => Heap.get?_push_of_some _ q) (Nat.le_refl _) ⟨hz, its, 0, hv, Heap.get?_push_size _ rfl⟩
theorem Inv.fresh (I : Inv X pins σ H s) : H s.heap.objs.size = none := I.hok.fresh (Nat.le_refl _)
theorem Inv.lstM (I : Inv X pins σ H s) (hH : H l = some (.lst xs)) : xs.length ≤ sizeLine ∧ ∃ (its : List Value) (n : Nat), Vals xs its ∧ xs.length = its.length ∧ s.heap.get? l = some { cls := .type "list", data := .seq its.toArray n } := by
  obtain ⟨z, its, n, r, e⟩ := I.hok l _ hH
  exact ⟨z, its, n, r, r.length, e⟩

theorem notLongL {n : Nat} (h : n ≤ sizeLine) : Builtin.List.listTooLong n = false := by
  unfold Builtin.List.listTooLong
  exact decide_eq_false (by omega)
end

section
variable {X : Cx}

/-! ### methods -/
def rAppend : V → List V → Hp → VK → Prop := fun x vs H Q => ∃ l xs y, x = .ref l ∧ vs = [y] ∧ H l = some (.lst xs) ∧ xs.length < sizeLine ∧ Q .non (upd H l (.lst (xs ++ [y])))
theorem mt_append : MtM X "list.append" rAppend := by
  intro pins s σ H x vs v us Q I rx rv h
  obtain ⟨l, xs, y, rfl, rfl, hH, hz, q⟩ := h
  cases rx
  obtain ⟨u, rfl, ru⟩ := rv.one
  obtain ⟨z, its, n, r, hl, e⟩ := I.lstM hH
  refine call_meets F.slot_list_append ⟨_, e, rfl⟩ F.entry_list_append (F.args_list_append_2 _ _) (PySem.list_append l its.toArray n u (by rw [List.size_toArray]; omega)) ⟨e, ?_⟩
  refine ⟨.non, _, I.lset (its' := its ++ [u]) hH e (by simp) (r.append (.cons ru .nil)) ?_, rfl, q⟩
  rw [List.length_append, List.length_singleton]
  omega

/-! ### list + list, list += list, list * int -/
def rCat : R2 := fun x y H Q => ∃ l b xs zs, x = .ref l ∧ y = .ref b ∧ H l = some (.lst xs) ∧ H b = some (.lst zs) ∧ xs.length + zs.length ≤ sizeLine ∧ ∀ p, H p = none → Q (.ref p) (upd H p (.lst (xs ++ zs)))
theorem op_cat : OpR X (binaryOp .Add) rCat := by
  intro pins s σ H x y v u Q I rx ry h
  obtain ⟨l, b, xs, zs, rfl, rfl, hH, hB, hz, q⟩ := h
  cases rx
  cases ry
  obtain ⟨z, its, n, r, hl, e⟩ := I.lstM hH
  obtain ⟨z2, its2, n2, r2, hl2, e2⟩ := I.lstM hB
  refine PySem.P.add_list e e2 ?_ (by rw [List.size_toArray, List.size_toArray]; omega)
  have ea : its.toArray ++ its2.toArray = (its ++ its2).toArray := by simp
  rw [ea]
  exact ⟨.ref _, _, I.lnew (t' := s.toks) (r.append r2) (by rw [List.length_append]; omega), rfl, q _ I.fresh⟩
def rRep : R2 := fun x y H Q => ∃ l k xs, x = .ref l ∧ y = .int k ∧ H l = some (.lst xs) ∧ -(2 ^ 63) ≤ k ∧ k < 2 ^ 63 ∧ xs.length * k.toNat ≤ sizeLine ∧
  ∀ p, H p = none → Q (.ref p) (upd H p (.lst (List.replicate k.toNat xs).flatten))
theorem len_rep {α : Type} (xs : List α) (k : Nat) : (List.replicate k xs).flatten.length = k * xs.length := by
  induction k with
  | zero => simp
  | succ k ih => rw [List.replicate_succ, List.flatten_cons, List.length_append, ih, Nat.succ_mul, Nat.add_comm]
theorem op_rep : OpR X (binaryOp .Mult) rRep := by
  intro pins s σ H x y v u Q I rx ry h
  obtain ⟨l, k, xs, rfl, rfl, hH, h1, h2, hz, q⟩ := h
  cases rx
  obtain ⟨t, rfl⟩ := ry
  obtain ⟨z, its, n, r, hl, e⟩ := I.lstM hH
  have hlen : its.toArray.size * k.toNat ≤ sizeLine := by rw [List.size_toArray, ← hl]; exact hz
  have hcap : ¬ its.toArray.size * k.toNat > (2 ^ 63 - 1) / 8 := by
    have : (sizeLine : Nat) ≤ (2 ^ 63 - 1) / 8 := by decide
    omega
  have hfit : ¬ (!Builtin.List.listFitsIndex k) = true := by
    rw [fitsIndex_both h1 h2]
    exact Bool.false_ne_true
  have hlong : ¬ Builtin.List.listTooLong (its.toArray.size * k.toNat) = true := by
    rw [notLongL hlen]
    exact Bool.false_ne_true
  have hnew : List.foldl (fun x1 x2 => x1 ++ x2) #[] (List.replicate (if its.toArray.isEmpty = true then 0 else k.toNat) its.toArray) = (List.replicate k.toNat its).flatten.toArray := by
    have f0 : ∀ m : Nat, List.foldl (fun x1 x2 => x1 ++ x2) #[] (List.replicate m its.toArray) = (List.replicate m its).flatten.toArray := fun m => by
      have := foldl_rep its m []
      rw [List.nil_append] at this
      exact this
    rw [f0]
    cases its with
    | nil => simp
    | cons a r' => rw [if_neg (by simp)]
  refine wpAny_binaryOp_repeat_ref (T := "list") (U := "int") (by decide) ⟨_, e, rfl⟩ (fun s' => typeIs_int s' k t) noFill_list_mul F.fills_int_mul F.slot_int_rmul repeat_list F.slot_int_index.lookup
    (call_meets F.slot_int_rmul (typeIs_int s k t) F.entry_int_rmul (F.args_int_rmul_2 _ _) (int___rmul___int_list k t l its.toArray n)
      ⟨e, rfl, ⟨_, e, rfl⟩, call_meets F.slot_list_mul ⟨_, e, rfl⟩ F.entry_list_mul (F.args_list_mul_2 _ _) (AutoListH.list___mul___list_int_3 l its.toArray n k t hfit hcap hlong) ⟨e, ?_⟩⟩)
  rw [hnew]
  exact ⟨.ref _, _, I.lnew (t' := s.toks) (r.rep k.toNat) (by rw [len_rep, Nat.mul_comm]; exact hz), rfl, q _ I.fresh⟩

/-! ### del xs[i] -/
end

/-! ### xs[a:b] = ys -/
section
variable {prog : Program} {w : World} {A : Around} {E : Value → Shared → Prop} {s : Shared}
set_option maxRecDepth 100000 in
end

section
variable {X : Cx}
end
end L2

namespace Att
open PySem PySem.W PySem.Calls PyProof.Rows

/-! ### the script -/
theorem ints_of_wellAll {P : Params} {h : Heap} : ∀ (ns : List Int) (vs : List Value), WellAll P h vs (ns.map WData.int) → IntsAre vs ns := by
  intro ns
  induction ns with
  | nil =>
    intro vs w
    rw [List.map_nil] at w
    cases w
    exact .nil
  | cons n ns ih =>
    intro vs w
    rw [List.map_cons] at w
    cases w with
    | cons a b =>
      cases a
      exact .cons _ _ (ih _ b)

theorem script_of {l : OpenLaw} {n : Nat} (hn : l.most = some n) {P : Params} {h : Heap} {args : List WData} {vals : List Value}
    (hpre : l.row.toRowW.claim.pre args = true) (hwl : WellAll P h vals args) :
    ∃ a vs ns, vals = [Value.ref a] ∧ args = [WData.list (ns.map WData.int)] ∧ h.get? a = some { cls := .type "list", data := .seq vs.toArray } ∧ IntsAre vs ns ∧ ns.length ≤ n := by
  have hsh : WShape.hasAll [] args [.list .int] = true := (pre_splitW hpre).1
  have hc : l.pre.holds [] { args := args } = true := (pre_splitW hpre).2
  obtain ⟨d, r, rfl, h1, h2⟩ := hasAllW_cons hsh
  obtain rfl := hasAllW_nil h2
  obtain ⟨xs, rfl, h3⟩ := hasW_list h1
  obtain ⟨ns, rfl⟩ := items_int h3
  have hlen : ns.length ≤ n := by
    unfold OpenLaw.pre at hc
    have h4 : (WTm.not (.lt (.lit (.int (n : Int))) (.len (.arg 0)))).holds [] { args := [.list (ns.map .int)] } = true := by
      have h4 := (holds_andW hc).1
      rw [hn] at h4
      exact h4
    have h5 := condW_of h4 (w_not (w_lt w_lit (w_len_list (w_arg rfl))))
    rw [List.length_map] at h5
    refine Nat.le_of_not_lt fun q => ?_
    have q' : (n : Int) < ((ns.length : Nat) : Int) := by omega
    first
      | (rw [decide_eq_true q'] at h5; exact absurd h5 (by decide))
      | (simp at h5; omega)
  cases hwl with
  | cons w1 w2 =>
    cases w2
    cases w1 with
    | list ho hall => exact ⟨_, _, ns, rfl, rfl, ho, ints_of_wellAll ns _ hall, hlen⟩

theorem post_true (l : OpenLaw) (args : List WData) : l.row.toRowW.claim.post args (.bool true) args = true :=
  postW_of (r := l.row.toRowW) (X := (true == true))
    (show WShape.has [] (.bool true) .bool = true by first | rfl | decide | simp [WShape.has, WShape.arms, WShape.armsAll])
    (show (WTm.eq .res (.lit (.bool true))).value [] { args := args, res := some (.bool true), after := args } = some (.bool (true == true)) from w_eq_bool (w_res rfl) w_lit) rfl

/-! ### the attachment: holds_open's last premise (the goal 'hc' behind k_head) from a wpAny of the law's body -/
theorem attach_call {l : OpenLaw} {n : Nat} {q : Program} {loose : List Str} {XP : (Str → Option Value) → Heap → Prop} {YP : World → Heap → Prop} {d : DefRec}
    (hn : l.most = some n) (hdf : d.params.defaults = [])
    (call : ∀ (w : World) (s₀ s₁ : Shared) (mg mb : Str → Option Value) (fa : Addr) (o : Obj) (pm cd doc : Value) (a : Addr) (vs : List Value) (ns : List Int),
      Ground q loose [] XP w s₀ mg mb s₁.heap → YP w s₁.heap →
      s₁.heap.get? fa = some o → o.data = .func (docDef d.name d.params d.body d.scope pm cd doc) → s₁.heap.CodeRec cd d.name → mg d.name = some (.ref fa) →
      s₁.heap.get? a = some { cls := .type "list", data := .seq vs.toArray } → IntsAre vs ns → ns.length ≤ n → s₁.gens = #[] →
      codeAny (model l.prog w) callerA (.call (.ref fa) ⟨[.ref a], []⟩) (fun r s' => r = .ok (.ret (.bool true)) ∧ OldK s₁.heap s'.heap ∧ s'.os = s₁.os ∧ AllBare s'.gens) s₁) :
    WalkO q loose XP YP l.row.toRowW d [] (fun f vs => PySem.call f vs) := by
  intro w s₀ s₁ mg mb G Y fa o pm cd doc dV kV ho hd hcd hD hmg hg args vals as hpre hlay hrd hwl hlo
  obtain rfl : dV = .none := Dflts.none hD hdf
  obtain rfl : kV = .none := Dflts.noKw hD
  obtain ⟨a, vs, ns, rfl, rfl, hobj, hints, hlen⟩ := script_of hn hpre hwl
  refine enter_call (codeAny_mono (call w s₀ s₁ mg mb fa o pm cd doc a vs ns G Y ho (fd_plain hd) hcd hmg hobj hints hlen hg) fun r s' hq => ?_)
  obtain ⟨rfl, h2, h3, h4⟩ := hq
  exact ⟨.inl ⟨.bool true, .bool true, [], rfl, fun _ => rfl, .bool true, post_true l _, fun _ => ⟨List.Pairwise.nil, fun _ hm => (nomatch hm)⟩⟩, h2, h3, h4⟩

/-! ### rules over ANY heap (no ledger) from facts about the written part K: the library's own take a ledger (News) for what they write -/
section
variable {prog : Program} {w : World} {A : Around} {E : Value → Shared → Prop} {s : Shared} {K : Frag}

/-! the whole heap as the ledger: makes every rule that writes through a ledger a rule over any heap -/
end
end Att

namespace L2
open PySem PySem.Spec PyProof.Rows

theorem vals_ints : ∀ {vs : List Value} {ns : List Int}, IntsAre vs ns → Vals (ns.map V.int) vs
  | _, _, .nil => .nil
  | _, _, .cons n t h => .cons ⟨t, rfl⟩ (vals_ints h)

def Only (H : Hp) : Prop := ∀ b, H b = none ∨ ∃ o xs, H b = some (.frz o (.lst xs))

theorem law_call {P : Program} {w : World} {K : PySem.W.Frag} {mg mb : Str → Option Value} {CX : CXT} {k : Nat} {fa a : Addr} {fd : FuncData} {x : Str} {sp : Sp} {s₁ : Shared} {vs : List Value} {ns : List Int}
    (KX : K.In s₁.heap) (hns : s₁.heap.Ns mainGlobals mg) (hb : s₁.heap.Ns builtinsNs mb) (hbb : ∀ x : Str, x ≠ "__name__" → mb x = bootBuiltins x) (hlim : s₁.heap.NoLimit) (hg : s₁.gens = #[])
    (ha : s₁.heap.get? a = some { cls := .type "list", data := .seq vs.toArray }) (hi : IntsAre vs ns) (hl : ns.length ≤ sizeLine) (hr : Room k callerA)
    (F : ∀ base : Heap, K.In base → base.Ns mainGlobals mg → FnOk P w K mg base CX k fa fd [x] sp) (hbind : ∀ (s : Shared) (u : Value), BindsTo s fd ⟨[u], []⟩ [(x, u)])
    (hsp : ∀ H : Hp, Only H → SqL K H a (ns.map V.int) → sp [.ref a] H (fun v _ => v = .bl true) fun _ _ _ => False)
    (hCX : ∀ H e s', CX [] H s₁ (fun _ _ _ => False) e s' → False) :
    codeAny (model P w) callerA (.call (.ref fa) ⟨[.ref a], []⟩) (fun r s' => r = .ok (.ret (.bool true)) ∧ OldK s₁.heap s'.heap ∧ s'.os = s₁.os ∧ AllBare s'.gens) s₁ := by
  have rv := vals_ints hi
  have lenV := hi.length
  -- from an abstract heap in which nothing but the script may be tracked
  have core : ∀ H : Hp, Only H → SqL K H a (ns.map V.int) → HOk P w H s₁.heap → (∀ b, H b ≠ none → b = a) → (H a ≠ none → K.lookup a = none) →
      codeAny (model P w) callerA (.call (.ref fa) ⟨[.ref a], []⟩) (fun r s' => r = .ok (.ret (.bool true)) ∧ OldK s₁.heap s'.heap ∧ s'.os = s₁.os ∧ AllBare s'.gens) s₁ := by
    intro H hO hS hok hA hK
    have base_of : ∀ {b : Addr} {o : Obj}, s₁.heap.get? b = some o → H b = none → (hidT s₁.heap H).get? b = some o := fun e n => hidT_get e n
    have noA : ∀ {b : Addr} {o : Obj} {es : Array DictEntry} {ep : Nat}, s₁.heap.get? b = some o → o.data = .dict es ep → H b = none := fun {b o es ep} e d => by
      cases q : H b with
      | none => rfl
      | some u =>
        have e' : b = a := hA b (by rw [q]; simp)
        subst e'
        rw [ha] at e; cases e
        have d' : Data.seq vs.toArray _ = Data.dict es ep := d
        cases d'
    have nsK : ∀ {b : Addr} {m : Str → Option Value}, s₁.heap.Ns b m → (hidT s₁.heap H).Ns b m := fun {b m} ⟨o, es, ep, e, d, r⟩ => ⟨o, es, ep, base_of e (noA e d), d, r⟩
    have hKb : K.In (hidT s₁.heap H) := fun b o e => base_of (KX b o e) (by
      cases q : H b with
      | none => rfl
      | some u =>
        have e' : b = a := hA b (by rw [q]; simp)
        subst e'
        rw [hK (by rw [q]; simp)] at e; cases e)
    have hM : Mod K mg (hidT s₁.heap H) := ⟨hKb, nsK hns, ⟨mb, nsK hb, hbb⟩, let ⟨mc, h1, h2⟩ := hlim; ⟨mc, nsK h1, h2⟩⟩
    have e0 : Env0 P w K mg (hidT s₁.heap H) callerA [] s₁ H := ⟨rfl, hM, fun b o e => of_hidT e, Nat.le_of_eq (hidT_size _ _), trivial, fun b hb => absurd (show b ∈ ([] : List Addr) from hb) (by simp), hok, .of_eq hg⟩
    refine codeAny_mono ((F _ hKb (nsK hns)).run callerA [] s₁ H ⟨[.ref a], []⟩ [.ref a] [.ref a] _ _ hr e0 (hbind s₁ (.ref a)) (.cons rfl .nil) (hsp H hO hS)) fun r s' h => ?_
    cases r with
    | error e => exact (hCX H e s' h).elim
    | ok fl =>
      cases fl with
      | next => exact False.elim h
      | brk => exact False.elim h
      | cont => exact False.elim h
      | ret u =>
        obtain ⟨v, H', os, bare, un, hok', r', q⟩ := h
        have q' : v = .bl true := q
        subst q'
        obtain rfl : u = Value.bool true := r'
        refine ⟨rfl, OldK.of_keep fun b o e => ?_, os, bare⟩
        cases q : H b with
        | none => exact un.keep b o e q (by intro z; exact absurd (show b ∈ ([] : List Addr) from z) (by simp)) (by simp)
        | some u =>
          rcases hO b with z | ⟨ob, xs, z⟩
          · rw [q] at z; cases z
          · have z2 := un.frzs b ob _ z
            obtain ⟨e1, _⟩ := hok b _ z
            obtain ⟨e2, _⟩ := hok' b _ z2
            rw [e] at e1; cases e1
            exact e2
  cases hk : K.lookup a with
  | some o =>
    -- the script is one of the module's own objects
    have e := KX a o hk
    rw [ha] at e
    cases e
    refine core (fun _ => none) (fun _ => .inl rfl) (.inr ⟨_, vs.toArray, _, hk, rfl, rfl, rfl, by rw [List.size_toArray, lenV]; exact hl, by simpa using rv⟩) (fun b u z => by have z' : (none : Option HO) = some u := z; cases z') (fun b z => absurd rfl z) fun z => absurd rfl z
  | none =>
    refine core (fun b => if b = a then some (.frz { cls := .type "list", data := .seq vs.toArray } (.lst (ns.map V.int))) else none) (fun b => ?_) (.inl (.inr ⟨{ cls := .type "list", data := .seq vs.toArray }, if_pos rfl⟩)) (fun b u z => ?_) (fun b z => ?_) fun _ => hk
    · by_cases hb : b = a
      · exact .inr ⟨_, _, if_pos hb⟩
      · exact .inl (if_neg hb)
    · by_cases hb : b = a
      · have z' := (if_pos hb).symm.trans z
        cases z'
        subst hb
        exact ⟨ha, by rw [List.length_map]; exact hl, vs, _, rv, ha⟩
      · have z' := (if_neg hb).symm.trans z
        cases z'
    · by_cases hb : b = a
      · exact hb
      · exact absurd (if_neg hb) z
end L2

namespace L2
open PySem PySem.Spec PyProof.Rows

theorem walk_of {l : PySem.W.OpenLaw} {n k : Nat} {q : Program} {loose : List Str} {XP : (Str → Option Value) → Heap → Prop} {YP : World → Heap → Prop} {d : DefRec} {K : Params → PySem.W.Frag} {CX : World → CXT} {sp : World → Sp} {x : Str}
    (hn : l.most = some n) (hn2 : n ≤ sizeLine) (hdf : d.params.defaults = []) (hr : Room k callerA)
    (hY : ∀ (w : World) (h : Heap), YP w h → (K w.params).In h)
    (F : ∀ (w : World) (mg : Str → Option Value) (fa : Addr) (h : Heap), (K w.params).In h → h.Ns mainGlobals mg → mg d.name = some (.ref fa) →
      ∃ fd : FuncData, (∀ (s : Shared) (u : Value), BindsTo s fd ⟨[u], []⟩ [(x, u)]) ∧
        ∀ base : Heap, (K w.params).In base → base.Ns mainGlobals mg → FnOk l.prog w (K w.params) mg base (CX w) k fa fd [x] (sp w))
    (hsp : ∀ (w : World) (H : Hp) (a : Addr) (ns : List Int), ns.length ≤ n → Only H → SqL (K w.params) H a (ns.map V.int) → sp w [.ref a] H (fun v _ => v = .bl true) fun _ _ _ => False)
    (hCX : ∀ (w : World) (H : Hp) (s : Shared) (e : Value) (s' : Shared), CX w [] H s (fun _ _ _ => False) e s' → False) :
    PySem.W.WalkO q loose XP YP l.row.toRowW d [] (fun f vs => PySem.call f vs) := by
  refine Att.attach_call hn hdf fun w s₀ s₁ mg mb fa o pm cd doc a vs ns G Y ho hd hcd hmg hobj hints hlen hg => ?_
  have KX := hY w _ Y
  obtain ⟨fd, hb, hF⟩ := F w mg fa _ KX G.T.g hmg
  exact law_call KX G.T.g G.T.b G.T.builtins G.T.nolimit hg hobj hints (Nat.le_trans hlen hn2) hr hF hb (fun H hO hS => hsp w H a ns hlen hO hS) fun H e s' => hCX w H s₁ e s'
end L2

/- THE LAST THEOREM (shape; LID, My.* are yours):
   My.Adr: a structure of the addresses that your layer names (classes, functions); My.Txt K t: a structure (Prop) of the equations over K;
   My.txt_mk : {K} {implicit addresses ..} (e1 : nsIn K mainGlobals "law" = some (some (.ref f))) (e2 : K.lookup f = some ⟨oc, od, .func (fnOf "law" "law" params body scope dV kV doc pm an cdv ct), sl⟩) (e3 : codeIn K cdv "law" = true) .. : ∃ t, My.Txt K t

set_option maxRecDepth 100000 in
set_option maxHeartbeats 0 in
theorem PySem.Challenge.cw_LID_holds : PySem.Challenge.rw_LID.Holds := by
  w_on; o_law; k_head; (case hw => w_witness2)
  k_fill
  refine L2.walk_of (l := PySem.Challenge.rw_LID) (n := 63) (k := 40) (x := "script") (CX := fun w => ..) (sp := fun _ => My.sp_law) rfl (by decide) rfl ⟨rfl, by decide, by decide⟩ (fun w h Y => PySem.W.kIn_of Y) ?F ?S ?C
  case F =>
    intro w mg fa h KX G hmg
    have T : ∃ t, My.Txt (L2.KOf KX) t := by
      dsimp only [L2.KOf]                          -- K must stand as «<heap const> w.params» for k_is
      refine' My.txt_mk ?e1 ?e2 ?e3 ..
      (case e1 => PySem.W.k_is)                    -- in the order: a name -> its address -> its object -> its parts
      (case e2 => PySem.W.k_is)
      ..
    obtain ⟨t, T⟩ := T
    have e0 := hmg.symm.trans (PySem.W.mg_of KX G T.law)
    cases e0                                       -- fa is the law's own address
    exact ⟨_, fun s u => .of_eq rfl, fun base kb nb => My.law_fn T kb nb⟩     -- if «.of_eq rfl» comes too early: refine' ⟨_, ?b, fun base kb nb => My.law_fn T kb nb⟩; exact fun s u => .of_eq rfl
  case S => exact fun w H a ns hl hO hS => ..
  case C => exact ..
(the tactic k_is has no namespace: write k_is) -/

/-! SHORT WORDS over the layer: a def of the text, its body, what a loop and a test want. -/
namespace L2
open PySem PySem.Spec PyProof.Rows

/-! ### the text by places -/
def defArgs (s : Stmt) : Arguments := match s with
  | .FunctionDef _ a _ _ _ _ _ _ _ _ => a
  | _ => { posonlyargs := [], args := [], vararg := none, kwonlyargs := [], kw_defaults := [], kwarg := none, defaults := [] }
def defBody (s : Stmt) : List Stmt := match s with
  | .FunctionDef _ _ b _ _ _ _ _ _ _ => b
  | _ => []
def defScope (s : Stmt) : Scope := match s with
  | .FunctionDef _ _ _ _ _ _ sc _ _ _ => sc
  | _ => { kind := .function, names := [], isGenerator := false, isCoroutine := false }

/-! ### no exception leaves a def -/
abbrev CX0 : CXT := fun _ _ _ _ _ _ => False
abbrev E0 : XK := fun _ _ _ => False
theorem pass0 {X : Cx} : Passes CX0 X E0 := fun _ _ _ _ _ _ _ h => h.elim

/-! ### a def (or method) of the text as it stands behind the top -/
structure Fun (K : PySem.W.Frag) (x qual : Str) (st : Stmt) (f : Addr) (fd : FuncData) : Prop where
  ex : ∃ (oc : Value) (od : Option Addr) (kV doc pm : Value) (an : Option Addr) (cdv ct : Value) (osl : Array (Option Value)),
    fd = PySem.W.fnOf x qual (defArgs st) (defBody st) (defScope st) .none kV doc pm an cdv ct ∧ K.lookup f = some ⟨oc, od, .func fd, osl⟩ ∧ PySem.W.codeIn K cdv qual = true
  kp : PySem.W.keepIn K (.ref f) = true
section
variable {P : Program} {w : World} {K : PySem.W.Frag} {mg : Str → Option Value} {base : Heap}
theorem Fun.ok {x qual : Str} {st : Stmt} {f : Addr} {fd : FuncData} {N ps : List Str} {k : Nat} {sp : Sp} (F : Fun K x qual st f fd) (S : FnScope N ps (defScope st)) (len : ∀ vs H Q E, sp vs H Q E → vs.length = ps.length)
    (hbody : ∀ (cdv : Value) (A : Around) (outer : List Env) (s : Shared) (H : Hp) (vs : List V) (Q : VK) (E : XK), Room k (A.deeper (envOfC qual (defScope st) s.heap.objs.size f cdv)) → sp vs H Q E →
      ∃ t, PSs (cxOf CX0 P w K mg base N qual (defScope st) f cdv A outer s H E).nox (defBody st) t ∧ t { nx := fun _ H' => Q .non H', rt := Q } (start N vs) H) : FnOk P w K mg base CX0 (k + 1) f fd ps sp := by
  obtain ⟨oc, od, kV, doc, pm, an, cdv, ct, osl, rfl, lk, hcd⟩ := F.ex
  refine fn_of lk hcd S len fun A outer s H vs Q E hr hsp => ?_
  obtain ⟨t, h, q⟩ := hbody cdv A outer s H vs Q E hr hsp
  exact ⟨t, h.nox, q⟩
theorem Fun.binds {x qual : Str} {st : Stmt} {f : Addr} {fd : FuncData} {ps : List Str} (F : Fun K x qual st f fd)
    (h : ∀ (kV doc pm : Value) (an : Option Addr) (cdv ct : Value) (us : List Value), us.length = ps.length → bindArgs (PySem.W.fnOf x qual (defArgs st) (defBody st) (defScope st) .none kV doc pm an cdv ct) ⟨us, []⟩ = pure (ps.zip us)) : Binds K fd ps [] := by
  obtain ⟨oc, od, kV, doc, pm, an, cdv, ct, osl, rfl, lk, hcd⟩ := F.ex
  exact .all (h kV doc pm an cdv ct)
theorem fun_mk {x qual : Str} {st : Stmt} {f : Addr} {oc : Value} {od an : Option Addr} {osl : Array (Option Value)} {kV doc pm cdv ct : Value} (l : K.lookup f = some ⟨oc, od, .func (PySem.W.fnOf x qual (defArgs st) (defBody st) (defScope st) .none kV doc pm an cdv ct), osl⟩)
    (c : PySem.W.codeIn K cdv qual = true) (k : PySem.W.keepIn K (.ref f) = true) : Fun K x qual st f (PySem.W.fnOf x qual (defArgs st) (defBody st) (defScope st) .none kV doc pm an cdv ct) := ⟨⟨oc, od, kV, doc, pm, an, cdv, ct, osl, rfl, l, c⟩, k⟩
end
/-! ### expressions in short: the name that stands in the i-th slot -/
section
variable {X : Cx}
theorem pv (i : Nat) {x : Str} {pos : Pos} (hN : X.N[i]? = some x := by rfl) (hv : Vis X.env.scope x := by first | exact Or.inl rfl | exact Or.inr (Or.inl rfl) | exact Or.inr (Or.inr rfl)) (hd : (x == ("__debug__" : Str)) = false := by decide)
    (hcd : (x == ("__classdict__" : Str)) = false := by decide) : PE X (.Name x pos) (tVar i) := pe_var hN hv hd hcd
end

/-! ### tests -/
theorem iteF {A B : Prop} (h : B) : if false = true then A else B := by
  rw [if_neg Bool.false_ne_true]
  exact h
theorem iteT {A B : Prop} (h : A) : if true = true then A else B := by
  rw [if_pos rfl]
  exact h
theorem ite2 {c A B : Prop} [Decidable c] (h1 : c → A) (h2 : ¬ c → B) : if c then A else B := by
  by_cases h : c
  · rw [if_pos h]
    exact h1 h
  · rw [if_neg h]
    exact h2 h
theorem iteNS {c A B : Prop} [Decidable c] (hc : c) (h : B) : if (!decide c) = true then A else B := by
  rw [decide_eq_true hc]
  exact iteF h

/-! ### heaps -/
def Same (H H' : Hp) : Prop := ∀ b o, H b = some o → H' b = some o
theorem Same.refl (H : Hp) : Same H H := fun _ _ h => h
theorem Same.trans {H H1 H2 : Hp} (a : Same H H1) (b : Same H1 H2) : Same H H2 := fun c o h => b c o (a c o h)
theorem Same.free {H H' : Hp} (e : Same H H') {l : Addr} (h : H' l = Option.none) : H l = Option.none := by
  cases q : H l with
  | none => rfl
  | some o =>
    rw [e l o q] at h
    cases h
theorem Same.seq {K : PySem.W.Frag} {H H' : Hp} {a : Addr} {xs : List V} (e : Same H H') (h : SqL K H a xs) : SqL K H' a xs := by
  rcases h with (h | ⟨o, h⟩) | h
  · exact .inl (.inl (e _ _ h))
  · exact .inl (.inr ⟨o, e _ _ h⟩)
  · exact .inr h

end L2

set_option Elab.async false
set_option linter.all false
set_option maxRecDepth 100000
set_option maxHeartbeats 4000000
namespace L2
open PySem PySem.Spec PyProof.Rows
/-! texts as lists of codes -/
abbrev S (l : List Nat) : Str := ⟨⟨l⟩⟩
theorem S_len (l : List Nat) : (S l).length = l.length := rfl
theorem S_app (a b : List Nat) : S a ++ S b = S (a ++ b) := by
  refine PyProof.Rows.ext_toList ?_
  rw [PySem.W.KT.app_list]
theorem S_inj {a b : List Nat} (h : S a = S b) : a = b := congrArg (fun x : Str => x.cps.toList) h
def cutL {α : Type} (l : List α) (lo hi : Option Int) : List α := (l.drop (HT.sIx l.length 0 lo)).take (HT.sIx l.length l.length hi - HT.sIx l.length 0 lo)
theorem clipS (v : Int) (n : Nat) : max 0 (min (if v < 0 then v + (n : Int) else v) (n : Int)) = ((HT.sIx n 0 (some v) : Nat) : Int) := by
  show _ = (((if v < 0 then (v + (n : Int)).toNat else min v.toNat n) : Nat) : Int)
  by_cases hv : v < 0
  · simp only [if_pos hv]; omega
  · simp only [if_neg hv]; omega
theorem strIx_eq (lo hi : Option Int) (n : Nat) : Builtin.Str.strSliceIndices lo hi 1 n = (List.range (HT.sIx n n hi - HT.sIx n 0 lo)).map (HT.sIx n 0 lo + ·) := by
  rw [← sliceRange_one]
  unfold Builtin.Str.strSliceIndices
  simp only [show (1 : Int) > 0 by decide, if_true]
  cases lo with
  | none =>
    cases hi with
    | none => rfl
    | some v => dsimp only; rw [clipS]; rfl
  | some u =>
    cases hi with
    | none => dsimp only; rw [clipS]; rfl
    | some v => dsimp only; rw [clipS, clipS]; rfl
theorem slice_S (l : List Nat) (lo hi : Option Int) : Txt.slice (S l) lo hi = S (cutL l lo hi) := by
  unfold Txt.slice
  rw [strIx_eq, pick_run]
  split
  · rename_i h
    have e : (List.map (HT.sIx (S l).length 0 lo + ·) (List.range (HT.sIx (S l).length (S l).length hi - HT.sIx (S l).length 0 lo))).length = (S l).length := by
      simpa using h
    rw [List.length_map, List.length_range, S_len] at e
    have h1 : HT.sIx l.length l.length hi ≤ l.length := HT.sIx_le _ _ (Nat.le_refl _) _
    have h0 : HT.sIx l.length 0 lo ≤ l.length := HT.sIx_le _ _ (Nat.zero_le _) _
    have z : l.length = 0 ∨ HT.sIx l.length 0 lo = 0 := by omega
    unfold cutL
    rcases z with z | z
    · have : l = [] := List.length_eq_zero_iff.mp z
      subst this
      simp
    · rw [z, List.drop_zero, List.take_of_length_le (by omega)]
  · rfl
section
variable {X : Cx}
theorem sl_str : SlR X (fun x lo hi H Q => ∃ l, x = .str (S l) ∧ l.length ≤ sizeLine ∧ Q (.str (S (cutL l lo hi))) H) := by
  intro pins s σ H x v vl vu lo hi sl Q I rx hs pl pu h
  obtain ⟨l, rfl, hz, q⟩ := h
  obtain ⟨t, rfl⟩ := rx
  refine ⟨"str", _, F.slot_str_getitem.lookup, typeIs_str _ _ _, ?_⟩
  have fin : ∀ t' k, EP X pins σ Q (.str (Txt.slice (S l) lo hi) t') { s with toks := k } := fun t' k => ⟨.str (S (cutL l lo hi)), H, I.tok _, ⟨t', by rw [slice_S]⟩, q⟩
  have hz' : ∀ lo hi, (Txt.slice (S l) lo hi).length ≤ sizeLine := fun lo hi => Nat.le_trans (Txt.slice_le _ _ _) hz
  cases pl with
  | none =>
    cases pu with
    | none => exact wpAny_getItem_str_slice (l := none) (u := none) (st := none) hs rfl (post_val_or_str ⟨hz' _ _, fin⟩)
    | int j tj => exact wpAny_getItem_str_slice (l := none) (u := some (j, tj)) (st := none) hs rfl (post_val_or_str ⟨hz' _ _, fin⟩)
  | int i ti =>
    cases pu with
    | none => exact wpAny_getItem_str_slice (l := some (i, ti)) (u := none) (st := none) hs rfl (post_val_or_str ⟨hz' _ _, fin⟩)
    | int j tj => exact wpAny_getItem_str_slice (l := some (i, ti)) (u := some (j, tj)) (st := none) hs rfl (post_val_or_str ⟨hz' _ _, fin⟩)
theorem op_adS : OpR X (binaryOp .Add) (fun x y H Q => ∃ a b, x = .str (S a) ∧ y = .str (S b) ∧ a.length + b.length ≤ sizeLine ∧ Q (.str (S (a ++ b))) H) := by
  intro pins s σ H x y v u Q I rx ry h
  obtain ⟨a, b, rfl, rfl, hz, q⟩ := h
  exact op_add_str pins s σ H _ _ v u Q I rx ry ⟨S a, S b, rfl, rfl, hz, by rw [S_app]; exact q⟩
theorem call_lenS : CallR X (.builtin "len") (fun xs H Q => ∃ l, xs = [.str (S l)] ∧ l.length ≤ sizeLine ∧ Q (.int l.length) H) := by
  intro pins s σ H xs us Q I r h
  obtain ⟨l, rfl, hz, q⟩ := h
  exact call_len_str pins s σ H _ us Q I r ⟨S l, rfl, hz, q⟩
theorem ix_S : IxR X (fun x y H Q => ∃ l i c, x = .str (S l) ∧ y = .int i ∧ l.length ≤ sizeLine ∧ atI l i = some c ∧ Q (.str (S [c])) H) := by
  intro value slice pins s σ H x y v u Q I rx ry h hs
  obtain ⟨l, i, c, rfl, rfl, hz, he, q⟩ := h
  exact ix_str value slice pins s σ H _ _ v u Q I rx ry ⟨S l, i, c, rfl, rfl, hz, he, q⟩ hs
def clsV : V → Value
  | .ty n => .type n
  | .ref a => .ref a
  | _ => .none
theorem call_isi : CallR X (.builtin "isinstance") (fun xs H Q => ∃ x c t b, xs = [x, c] ∧ (∃ n, c = .ty n ∨ ∃ a, c = .ref a) ∧ TyOf X.K H x t ∧ PySem.W.kitOne X.K t (clsV c) = some b ∧ Q (.bl b) H) := by
  intro pins s σ H xs us Q I r h
  obtain ⟨x, c, t, b, rfl, hc, ty, e, q⟩ := h
  obtain ⟨u, w, rfl, ru, rw'⟩ := r.two
  have ew : w = clsV c := by
    obtain ⟨n, rfl | ⟨a, rfl⟩⟩ := hc
    · exact rw'
    · exact rw'
  subst ew
  exact isinst_ok I ru ty e fun tk => ⟨.bl b, H, I.tok _, rfl, q⟩
end
/-! an own def, bundled -/
structure Own (P : Program) (w : World) (K : PySem.W.Frag) (mg : Str → Option Value) (base : Heap) (CX : CXT) (k : Nat) (x : Str) (ps : List Str) (sp : Sp) : Prop where
  ex : ∃ f fd, FnOk P w K mg base CX k f fd ps sp ∧ Binds K fd ps [] ∧ PySem.W.keepIn K (.ref f) = true ∧ mg x = some (.ref f)
section
variable {X : Cx} {CX : CXT} {j k : Nat} {ps : List Str} {sp : Sp} {E : XK} {x : Str} {p pos : Pos} {e : Expr} {es : List Expr} {t : TA}
theorem pe_own (O : Own X.prog X.w X.K X.mg X.base CX j x ps sp) (hr : Room k X.A) (hg : Gl X x) (hx : Passes CX X E) (ha : PA X (e :: es) t) (hj : j ≤ k := by decide) (hdb : (x == ("__debug__" : Str)) = false := by decide)
    (he : starEach (e :: es) X.env = (false, eval e X.env) :: starEach es X.env := by rfl) (hpl : (backTo pos (starEach es X.env)).any (·.1) = false := by rfl) : PE X (.Call (.Name x p) (e :: es) [] pos) (tCall sp [] E t) := by
  obtain ⟨f, fd, F, b, kp, m⟩ := O.ex
  exact pe_call F (hr.mono hj) hg m kp b .nil hx ha hdb he hpl
end
theorem boot_isi : bootBuiltins "isinstance" = some (.builtin "isinstance") := by first | exact PySem.boot_isinstance | decide +kernel
theorem small {n : Nat} (h : n ≤ 1000000) : n ≤ sizeLine := by rw [PySem.sizeLine_eq]; omega
theorem boot_int : bootBuiltins "int" = some (.type "int") := by decide +kernel
theorem boot_bool : bootBuiltins "bool" = some (.type "bool") := by decide +kernel
theorem boot_str : bootBuiltins "str" = some (.type "str") := by decide +kernel
theorem boot_tuple : bootBuiltins "tuple" = some (.type "tuple") := by decide +kernel
theorem boot_list : bootBuiltins "list" = some (.type "list") := by decide +kernel
theorem kit_ii {K : PySem.W.Frag} : PySem.W.kitOne K (.type "int") (.type "int") = some true := by rfl
theorem kit_ib {K : PySem.W.Frag} : PySem.W.kitOne K (.type "int") (.type "bool") = some false := by first | rfl | decide +kernel | (unfold PySem.W.kitOne; rfl)
theorem kit_ss {K : PySem.W.Frag} : PySem.W.kitOne K (.type "str") (.type "str") = some true := by rfl
theorem kit_tt {K : PySem.W.Frag} : PySem.W.kitOne K (.type "tuple") (.type "tuple") = some true := by rfl
theorem kit_ll {K : PySem.W.Frag} : PySem.W.kitOne K (.type "list") (.type "list") = some true := by rfl
theorem atI_in {α : Type} (l : List α) {i : Int} (h0 : 0 ≤ i) (h : i.toNat < l.length) : atI l i = some (l[i.toNat]) := by
  have e : ((i.toNat : Nat) : Int) = i := by omega
  have z := atI_nat (List.getElem?_eq_getElem h)
  rw [e] at z
  exact z
theorem cutL_nn {α : Type} (l : List α) (k hi : Nat) : cutL l (some (k : Int)) (some (hi : Int)) = (l.drop k).take (hi - k) := by
  unfold cutL
  rw [HT.sIx_nat, HT.sIx_nat]
  by_cases h : k ≤ l.length
  · rw [Nat.min_eq_left h]
    by_cases h2 : hi ≤ l.length
    · rw [Nat.min_eq_left h2]
    · rw [Nat.min_eq_right (by omega), List.take_of_length_le (by simp), List.take_of_length_le (by simp; omega)]
  · rw [List.drop_eq_nil_of_le (by omega), List.drop_eq_nil_of_le (by omega)]
    simp
theorem cutL_n {α : Type} (l : List α) (k : Nat) : cutL l (some (k : Int)) none = l.drop k := by
  unfold cutL
  rw [HT.sIx_nat, HT.sIx_none]
  by_cases h : k ≤ l.length
  · rw [Nat.min_eq_left h, List.take_of_length_le (by simp)]
  · rw [List.drop_eq_nil_of_le (by omega), List.drop_eq_nil_of_le (by omega)]
    simp
theorem cutL_m {α : Type} (l : List α) (k : Nat) : cutL l none (some (k : Int)) = l.take k := by
  unfold cutL
  rw [HT.sIx_nat, HT.sIx_none, List.drop_zero, Nat.sub_zero]
  by_cases h : k ≤ l.length
  · rw [Nat.min_eq_left h]
  · rw [Nat.min_eq_right (by omega), List.take_of_length_le (by omega), List.take_of_length_le (by omega)]
theorem cutL_j {α : Type} (l : List α) {i : Int} (hi : 0 ≤ i) : cutL l none (some i) = l.take i.toNat := by
  have e : i = (i.toNat : Int) := by omega
  rw [e, cutL_m]
  rfl
theorem cutL_map {α β : Type} (f : α → β) (l : List α) (lo hi : Option Int) : cutL (l.map f) lo hi = (cutL l lo hi).map f := by
  unfold cutL
  rw [List.length_map, List.map_take, List.map_drop]
theorem cutL_le {α : Type} (l : List α) (lo hi : Option Int) : (cutL l lo hi).length ≤ l.length := by
  unfold cutL
  rw [List.length_take, List.length_drop]
  omega
theorem same_new {H : Hp} {p : Addr} (h : H p = none) (o : HO) : Same H (upd H p o) := fun b u q => by rw [upd_ne (ne_of_none q h)]; exact q
theorem sq_cut {K : PySem.W.Frag} {H : Hp} {p : Addr} {cs : List Int} {lo hi : Option Int} : SqL K (upd H p (.lst (cutV (cs.map V.int) lo hi))) p ((cutL cs lo hi).map V.int) := by
  rw [← cutL_map]
  exact SqL.of upd_same
theorem iteDT {c A B : Prop} [Decidable c] (h : c) (x : A) : if decide c = true then A else B := by
  rw [decide_eq_true h]
  exact iteT x
theorem iteDF {c A B : Prop} [Decidable c] (h : ¬ c) (x : B) : if decide c = true then A else B := by
  rw [decide_eq_false h]
  exact iteF x
end L2

set_option Elab.async false
set_option linter.all false
set_option maxRecDepth 100000
set_option maxHeartbeats 4000000
namespace L2
open PySem PySem.Spec PyProof.Rows PySem.W PySem.Builtin.ObjectAttr PySem.Builtin.Getset_descriptor
/-! ## exceptions of own classes -/
section
variable {K : Frag} {e C : Addr} {M : Model} {h : Heap}
end
section
variable {X : Cx}
end
/-! ## how an exception lies behind a call: it flies; whatever is done to its own records, the rest stands -/
section
variable {X : Cx} {pins : List (Addr × Obj)} {σ : St} {H : Hp} {s : Shared}
end
section
variable {P : Program} {w : World} {K : Frag} {mg : Str → Option Value} {base : Heap} {N : List Str} {qual : Str} {scope : Scope} {f : Addr} {cd : Value} {A : Around} {outer : List Env} {s : Shared} {H : Hp} {E : XK}
end
/-! ## raise C(..) -/
section
variable {X : Cx} {x : Str} {C : Addr} {np cpos pos : Pos} {e0 : Expr} {t : TA} {E : XK}
end
/-! ## try: body; except M as n: suite -/
section
variable {X : Cx} {CX : CXT} {j k : Nat} {ps : List Str} {sp : Sp} {E : St → XK} {x : Str} {p pos : Pos} {e : Expr} {es : List Expr} {t : TA}
end
section
variable {X : Cx} {pins pins' : List (Addr × Obj)} {σ : St} {H : Hp} {s : Shared} {E : St → XK} {e : Addr}
end
section
variable {X : Cx} {pins : List (Addr × Obj)} {σ : St} {H H' : Hp} {s : Shared}
end
section
variable {X : Cx} {n x : Str} {i : Nat} {M : Addr} {body suite : List Stmt} {b₀ : Stmt} {np hpos pos : Pos} {tb : (St → XK) → TS} {ts : Addr → TS}
end
/-! ## a def that is called in an except suite -/
section
variable {P : Program} {w : World} {K : Frag} {mg : Str → Option Value} {base : Heap}
end
section
variable {X : Cx} {j k : Nat} {ps : List Str} {sp : Sp} {x : Str} {p pos : Pos} {e : Expr} {es : List Expr} {t : TA}
end
end L2

set_option Elab.async false
set_option linter.all false
set_option maxRecDepth 100000
set_option maxHeartbeats 4000000
namespace L2
open PySem PySem.Spec PyProof.Rows PySem.StrLaws
/-! ## texts: count, rfind of one sign; l * n -/
theorem occ_go (l : List Nat) (c : Nat) : ∀ (m a : Nat) (st : Array Nat × Nat), st.snd ≤ a → st.fst.size ≤ a → a + m ≤ l.length + 1 →
    (forIn (List.range' a m) st (occBody (S l) (S [c]) l.length (l.length + 1))).run.fst.toList = st.fst.toList ++ (List.range' a m).filter (fun i => l[i]? == some c)
  | 0, a, st, _, _, _ => by simp
  | m + 1, a, st, h1, h2, h3 => by
    rw [List.range'_succ, List.forIn_cons]
    unfold occBody
    have key := subAt_one (S l) c a
    by_cases hc : l[a]? = some c
    · have z := key.mpr hc
      rw [if_pos ⟨⟨⟨by omega, h1⟩, z.1⟩, z.2⟩]
      have ih := occ_go l c m (a + 1) (st.fst.push a, a + 1) (Nat.le_refl _) (by simp; omega) (by omega)
      rw [List.filter_cons, if_pos (by rw [hc]; exact beq_self_eq_true _)]
      refine Eq.trans ih ?_
      simp
    · have z : ¬ (((st.fst.size < l.length + 1 ∧ st.snd ≤ a) ∧ a + (S [c]).length ≤ l.length) ∧ Builtin.Str.subAt (S l) (S [c]) a = true) := fun q => hc (key.mp ⟨q.1.2, q.2⟩)
      rw [if_neg z]
      have ih := occ_go l c m (a + 1) (st.fst, st.snd) (by show st.snd ≤ a + 1; omega) (by show st.fst.size ≤ a + 1; omega) (by omega)
      rw [List.filter_cons, if_neg (by intro q; exact hc (beq_iff_eq.mp q))]
      exact ih
theorem occ_one (l : List Nat) (c : Nat) : Builtin.Str.occurrences (S l) (S [c]) 0 l.length (l.length + 1) = (List.range (l.length + 1)).filter (fun i => l[i]? == some c) := by
  rw [occ_eq, Nat.sub_zero, occ_go l c (l.length + 1) 0 (#[], 0) (Nat.le_refl _) (by simp) (by omega), List.range_eq_range']
  simp
theorem snoc_ind {α : Type} {P : List α → Prop} (h0 : P []) (h1 : ∀ l x, P l → P (l ++ [x])) (l : List α) : P l := by
  have z : ∀ l : List α, P l.reverse := fun l => by
    induction l with
    | nil => exact h0
    | cons x l ih => rw [List.reverse_cons]; exact h1 _ _ ih
  have e := z l.reverse
  rw [List.reverse_reverse] at e
  exact e
theorem places_len (c : Nat) (l : List Nat) : ((List.range l.length).filter (fun i => l[i]? == some c)).length = l.count c := by
  refine snoc_ind (P := fun l => ((List.range l.length).filter (fun i => l[i]? == some c)).length = l.count c) (by simp) (fun l x ih => ?_) l
  · rw [List.length_append, List.length_singleton, List.range_succ, List.filter_append, List.length_append, List.count_append]
    have e : (List.range l.length).filter (fun i => (l ++ [x])[i]? == some c) = (List.range l.length).filter (fun i => l[i]? == some c) := by
      apply List.filter_congr
      intro i hi
      rw [List.getElem?_append_left (List.mem_range.mp hi)]
    rw [e, ih, List.filter_cons, List.filter_nil, List.getElem?_append_right (Nat.le_refl _), Nat.sub_self]
    by_cases h : x = c
    · subst h; simp
    · have h' : ¬ (some x == some c) = true := fun q => h (Option.some.inj (beq_iff_eq.mp q))
      simp [h]
theorem count_one (l : List Nat) (c : Nat) : Txt.count (S l) (S [c]) = (l.count c : Int) := by
  unfold Txt.count
  rw [S_len, occ_one, List.range_succ, List.filter_append, List.length_append, places_len]
  simp
def rf (l : List Nat) (c : Nat) : Int := Txt.rfind (S l) (S [c])
theorem at_iff (l : List Nat) (c i : Nat) : StrLaws.At (S l) (S [c]) l.length i ↔ l[i]? = some c := subAt_one (S l) c i
theorem rf_spec (l : List Nat) (c : Nat) : (rf l c = -1 ∧ ∀ i : Nat, ¬ l[i]? = some c) ∨ ∃ i : Nat, rf l c = (i : Int) ∧ l[i]? = some c ∧ ∀ k, i < k → ¬ l[k]? = some c := by
  rcases last_spec (S l) (S [c]) with ⟨h1, h2⟩ | ⟨i, h1, h2, h3⟩
  · refine .inl ⟨?_, fun i q => h2 i ((at_iff l c i).mpr q)⟩
    unfold rf Txt.rfind
    rw [h1]
  · refine .inr ⟨i, ?_, (at_iff l c i).mp h2, fun k hk q => h3 k hk ((at_iff l c k).mpr q)⟩
    unfold rf Txt.rfind
    rw [h1]
def colF (l : List Nat) : Int := l.length - (rf l 10 + 1)
def rep (l : List Nat) (n : Nat) : List Nat := (List.replicate n l).flatten
theorem rep_len (l : List Nat) (n : Nat) : (rep l n).length = n * l.length := by
  unfold rep
  induction n with
  | zero => simp
  | succ n ih => rw [List.replicate_succ, List.flatten_cons, List.length_append, ih, Nat.succ_mul]; omega
theorem rep_all {l : List Nat} {n : Nat} {p : Nat → Prop} (h : ∀ c ∈ l, p c) : ∀ c ∈ rep l n, p c := by
  intro c hc
  unfold rep at hc
  obtain ⟨l', h1, h2⟩ := List.mem_flatten.mp hc
  rw [(List.mem_replicate.mp h1).2] at h2
  exact h c h2
theorem foldl_cps (l : List Nat) : ∀ (n : Nat) (acc : Array Nat), ((List.replicate n (⟨l⟩ : Array Nat)).foldl (· ++ ·) acc).toList = acc.toList ++ (List.replicate n l).flatten
  | 0, acc => by simp
  | n + 1, acc => by
    rw [List.replicate_succ, List.foldl_cons, foldl_cps l n, List.replicate_succ, List.flatten_cons, Array.toList_append, List.append_assoc]
theorem mul_S (l : List Nat) {n : Int} (h : 0 ≤ n) : Txt.mul (S l) n = S (rep l n.toNat) := by
  unfold Txt.mul
  split
  · have : n.toNat = 0 := by omega
    rw [this]
    rfl
  · split
    · rename_i h1 h2
      rw [Bool.or_eq_true, beq_iff_eq, beq_iff_eq] at h2
      rcases h2 with h2 | h2
      · subst h2
        unfold rep
        simp
      · have : l = [] := List.length_eq_zero_iff.mp h2
        subst this
        unfold rep
        simp
    · refine PyProof.Rows.ext_toList ?_
      show ((List.replicate n.toNat (⟨l⟩ : Array Nat)).foldl (· ++ ·) #[]).toList = (List.replicate n.toNat l).flatten
      rw [foldl_cps]
      simp
section
variable {X : Cx}
theorem op_mulS : OpR X (binaryOp .Mult) (fun x y H Q => ∃ l n, x = .str (S l) ∧ y = .int n ∧ 0 ≤ n ∧ n ≤ 1000 ∧ l.length ≤ 1000 ∧ Q (.str (S (rep l n.toNat))) H) := by
  intro pins s σ H x y v u Q I rx ry h
  obtain ⟨l, n, rfl, rfl, h0, h1, h2, q⟩ := h
  obtain ⟨t, rfl⟩ := rx
  obtain ⟨t', rfl⟩ := ry
  refine SB.mul ⟨?_, fun a b => ?_, fun a b => ?_⟩ fun t' k => ⟨.str (S (rep l n.toNat)), H, I.tok _, ⟨t', by rw [mul_S l h0]⟩, q⟩
  · have e1 : decide (n < -(2 ^ 63 : Int)) = false := decide_eq_false (by omega)
    have e2 : decide (n ≥ 2 ^ 63) = false := decide_eq_false (by omega)
    rw [e1, e2, Bool.or_false]
  · show ¬ ((l.length : Int) > (2 ^ 63 - 1) / n)
    have : (1000 : Int) ≤ (2 ^ 63 - 1) / n := by
      rw [Int.le_ediv_iff_mul_le (by omega)]
      omega
    omega
  · have hz : l.length * n.toNat ≤ 1000000 := by
      have := Nat.mul_le_mul h2 (show n.toNat ≤ 1000 by omega)
      omega
    show Builtin.Str.tooLong (l.length * n.toNat) = false
    unfold Builtin.Str.tooLong
    have := small hz
    simp
    omega
theorem mt_count : MtR X "str.count" (fun x vs H Q => ∃ l c, x = .str (S l) ∧ vs = [.str (S [c])] ∧ Q (.int (l.count c)) H) := by
  intro pins s σ H x vs v us Q I rx rv h
  obtain ⟨l, c, rfl, rfl, q⟩ := h
  obtain ⟨t, rfl⟩ := rx
  obtain ⟨u, rfl, t', rfl⟩ := rv.one
  refine SC.count ⟨.int (l.count c), H, I.tok _, ⟨_, by rw [count_one]⟩, q⟩
theorem mt_rfind : MtR X "str.rfind" (fun x vs H Q => ∃ l c, x = .str (S l) ∧ vs = [.str (S [c])] ∧ Q (.int (rf l c)) H) := by
  intro pins s σ H x vs v us Q I rx rv h
  obtain ⟨l, c, rfl, rfl, q⟩ := h
  obtain ⟨t, rfl⟩ := rx
  obtain ⟨u, rfl, t', rfl⟩ := rv.one
  refine SC.rfind ⟨.int (rf l c), H, I.tok _, ⟨_, rfl⟩, q⟩
end
/-! ## == of two lists, of two tuples of flat values -/
def eqs : List V → List V → Bool
  | [], [] => true
  | x :: xs, y :: ys => eqV x y && eqs xs ys
  | _, _ => false
def eqAtJ (xs ys : List V) (j : Nat) : Bool := match xs[j]?, ys[j]? with
  | some x, some y => eqV x y
  | _, _ => false
theorem eqs_all : ∀ {xs ys : List V}, xs.length = ys.length → (List.range xs.length).all (eqAtJ xs ys) = eqs xs ys
  | [], [], _ => rfl
  | [], _ :: _, h => by cases h
  | _ :: _, [], h => by cases h
  | x :: xs, y :: ys, h => by
    have ih := eqs_all (xs := xs) (ys := ys) (Nat.succ.inj h)
    rw [List.length_cons, List.range_succ_eq_map, List.all_cons, List.all_map]
    unfold eqs
    rw [← ih]
    rfl
theorem Vals.at {xs : List V} {us : List Value} (r : Vals xs us) {j : Nat} (h : j < us.toArray.size) : ∃ x, xs[j]? = some x ∧ RelV x us.toArray[j] := by
  have hj : j < us.length := by simpa using h
  have hx : j < xs.length := by rw [r.length]; exact hj
  obtain ⟨u, hu, ru⟩ := r.get (List.getElem?_eq_getElem hx)
  refine ⟨xs[j], List.getElem?_eq_getElem hx, ?_⟩
  rw [List.getElem?_eq_getElem hj] at hu
  cases hu
  simpa using ru
theorem flat_at {xs : List V} (h : xs.all flatV = true) {j : Nat} {x : V} (e : xs[j]? = some x) : flatV x = true := List.all_eq_true.mp h x (List.mem_of_getElem? e)
section
variable {X : Cx}
end
end L2

set_option Elab.async false
set_option linter.all false
set_option maxRecDepth 100000
set_option maxHeartbeats 4000000
namespace L2
open PySem PySem.Spec PyProof.Rows PySem.StrLaws
/-! ## != of lists and tuples; == of lists of the same references -/
section
variable {X : Cx}
theorem refs_same {as : List Addr} {us : List Value} (r : Vals (as.map V.ref) us) : us = as.map Value.ref := by
  induction as generalizing us with
  | nil => cases r; rfl
  | cons a as ih =>
    rw [List.map_cons] at r
    cases r with
    | cons r1 r2 => rw [ih r2, List.map_cons]; congr 1
theorem all_true (n : Nat) : (List.range n).all (fun _ => true) = true := by simp
end
/-! ## split('\n') -/
def occs (l : List Nat) : List Nat := (List.range l.length).filter (fun i => l[i]? == some 10)
theorem occ_nl (l : List Nat) : Builtin.Str.occurrences (S l) (S [10]) 0 l.length (l.length + 1) = occs l := by
  rw [occ_one, List.range_succ, List.filter_append]
  unfold occs
  simp
def starts (l : List Nat) : List Nat := 0 :: (occs l).map (· + 1)
def stops (l : List Nat) : List Nat := occs l ++ [l.length]
def splitL (l : List Nat) : List (List Nat) := ((starts l).zip (stops l)).map fun p => (l.drop p.1).take (p.2 - p.1)
theorem sub_S (l : List Nat) (i j : Nat) : Builtin.Str.strSub (S l) i j = S ((l.drop i).take (j - i)) := by
  refine PyProof.Rows.ext_toList ?_
  show ((⟨l⟩ : Array Nat).extract i j).toList = (l.drop i).take (j - i)
  simp [List.extract_eq_take_drop]
theorem parts_S (l : List Nat) : Builtin.Str.partsBetween (S l) (occs l) 1 = (splitL l).map S := by
  unfold Builtin.Str.partsBetween splitL starts stops
  rw [List.map_map]
  apply List.map_congr_left
  rintro ⟨i, j⟩ _
  exact sub_S l i j
theorem occs_len (l : List Nat) : (occs l).length = l.count 10 := places_len 10 l
theorem starts_len (l : List Nat) : (starts l).length = l.count 10 + 1 := by unfold starts; rw [List.length_cons, List.length_map, occs_len]
theorem stops_len (l : List Nat) : (stops l).length = l.count 10 + 1 := by unfold stops; rw [List.length_append, occs_len]; rfl
theorem splitL_len (l : List Nat) : (splitL l).length = l.count 10 + 1 := by unfold splitL; rw [List.length_map, List.length_zip, starts_len, stops_len, Nat.min_self]
theorem splitL_one {l : List Nat} (h : occs l = []) : splitL l = [l] := by
  unfold splitL starts stops
  rw [h]
  simp
theorem count_le (l : List Nat) : l.count 10 ≤ l.length := List.count_le_length
section
variable {X : Cx}
theorem vals_from (tk : Nat) : ∀ (ls : List (List Nat)), Vals (ls.map fun r => V.str (S r)) (strsFrom tk (ls.map S)) := by
  intro ls
  induction ls generalizing tk with
  | nil => exact .nil
  | cons r ls ih => exact .cons ⟨_, rfl⟩ (ih (tk + 1))
theorem mt_split : MtR X "str.split" (fun x vs H Q => ∃ l, x = .str (S l) ∧ vs = [.str (S [10])] ∧ l.length ≤ 100000 ∧ ∀ p, H p = none → Q (.ref p) (upd H p (.lst ((splitL l).map fun r => .str (S r))))) := by
  intro pins s σ H x vs v us Q I rx rv h
  obtain ⟨l, rfl, rfl, hl, q⟩ := h
  obtain ⟨t, rfl⟩ := rx
  obtain ⟨u, rfl, t', rfl⟩ := rv.one
  have hz : ((splitL l).map fun r => V.str (S r)).length ≤ sizeLine := by
    rw [List.length_map, splitL_len]
    have := count_le l
    exact small (by omega)
  have one : ∀ e : occs l = [], EP X pins σ Q (.ref s.heap.objs.size) { s with heap := s.heap.push { cls := .type "list", data := .seq [Value.str (S l) t].toArray } } := fun e => by
    have J := I.lnew (ys := (splitL l).map fun r => V.str (S r)) (its := [Value.str (S l) t]) (t' := s.toks) (by rw [splitL_one e]; exact .cons ⟨_, rfl⟩ .nil) hz
    exact ⟨.ref s.heap.objs.size, _, J, rfl, q _ I.fresh⟩
  have hw : (((S [10]).length == 0) : Bool) = false := rfl
  cases h1 : (decide ((S l).length < (S [10]).length) || decide (Builtin.Str.strKind (S l) < Builtin.Str.strKind (S [10]))) with
  | true =>
    have e : occs l = [] := by
      have k1 : Builtin.Str.strKind (S [10]) = 1 := by decide +kernel
      have k2 : 1 ≤ Builtin.Str.strKind (S l) := by unfold Builtin.Str.strKind; split <;> (try split) <;> omega
      rw [Bool.or_eq_true, decide_eq_true_eq, decide_eq_true_eq] at h1
      have hlen : (S [10]).length = 1 := rfl
      have : l.length = 0 := by
        rcases h1 with z | z
        · have z' : l.length < 1 := z
          omega
        · omega
      have : l = [] := List.length_eq_zero_iff.mp this
      subst this
      rfl
    exact call_meets F.slot_str_split (typeIs_str _ _ _) F.entry_str_split (F.args_str_split_2 _ _) (meets_str_split_cannot_occur (S l) (S [10]) t t' h1) (one e)
  | false =>
    have eo : Builtin.Str.occurrences (S l) (S [10]) 0 (S l).length ((S l).length + 1) = occs l := occ_nl l
    cases hf : (occs l).isEmpty with
    | true =>
      have e : occs l = [] := List.isEmpty_iff.mp hf
      exact call_meets F.slot_str_split (typeIs_str _ _ _) F.entry_str_split (F.args_str_split_2 _ _) (meets_str_split_not_found (S l) (S [10]) t t' h1 hw (by rw [eo]; exact hf)) (one e)
    | false =>
      have ep : Builtin.Str.partsBetween (S l) (Builtin.Str.occurrences (S l) (S [10]) 0 (S l).length ((S l).length + 1)) (S [10]).length = (splitL l).map S := by rw [eo]; exact parts_S l
      refine call_meets F.slot_str_split (typeIs_str _ _ _) F.entry_str_split (F.args_str_split_2 _ _) (meets_str_split_sep (S l) (S [10]) t t' h1 hw (by rw [eo]; exact hf) (small (by show l.length ≤ 1000000; omega)) (by rw [ep, List.length_map]; rw [List.length_map] at hz; exact hz)) ?_
      have J := I.lnew (ys := (splitL l).map fun r => V.str (S r)) (its := strsFrom s.toks ((splitL l).map S)) (t' := s.toks + ((splitL l).map S).length) (vals_from _ _) hz
      show EP X pins σ Q (.ref s.heap.objs.size) _
      rw [ep]
      exact ⟨.ref s.heap.objs.size, _, J, rfl, q _ I.fresh⟩
end
/-! ## the rows of a text, by their begins and ends -/
theorem occs_mem {l : List Nat} {i : Nat} (h : i ∈ occs l) : i < l.length := List.mem_range.mp (List.mem_filter.mp h).1
theorem occs_sorted (l : List Nat) : (occs l).Pairwise (· < ·) := List.Pairwise.filter _ List.pairwise_lt_range
theorem stops_sorted (l : List Nat) : (stops l).Pairwise (· < ·) := by
  unfold stops
  rw [List.pairwise_append]
  refine ⟨occs_sorted l, by simp, fun a ha b hb => ?_⟩
  rw [List.mem_singleton] at hb
  subst hb
  exact occs_mem ha
def endAt (l : List Nat) (i : Nat) : Nat := (stops l).getD i 0
def begAt (l : List Nat) : Nat → Nat
  | 0 => 0
  | i + 1 => endAt l i + 1
theorem stops_at {l : List Nat} {i : Nat} (h : i < l.count 10 + 1) : (stops l)[i]? = some (endAt l i) := by
  unfold endAt
  rw [List.getD_eq_getElem?_getD, List.getElem?_eq_getElem (by rw [stops_len]; exact h)]
  rfl
theorem end_le {l : List Nat} {i : Nat} (h : i < l.count 10 + 1) : endAt l i ≤ l.length := by
  have m := List.mem_of_getElem? (stops_at h)
  unfold stops at m
  rcases List.mem_append.mp m with z | z
  · exact Nat.le_of_lt (occs_mem z)
  · rw [List.mem_singleton] at z; omega
theorem starts_at {l : List Nat} {i : Nat} (h : i < l.count 10 + 1) : (starts l)[i]? = some (begAt l i) := by
  unfold starts
  cases i with
  | zero => rfl
  | succ i =>
    rw [List.getElem?_cons_succ, List.getElem?_map]
    have e := stops_at (l := l) (i := i) (by omega)
    unfold stops at e
    rw [List.getElem?_append_left (by rw [occs_len]; omega)] at e
    rw [e]
    rfl
theorem beg_le {l : List Nat} {i : Nat} (h : i < l.count 10 + 1) : begAt l i ≤ endAt l i := by
  cases i with
  | zero => exact Nat.zero_le _
  | succ i =>
    have s := stops_sorted l
    have e1 := stops_at (l := l) (i := i) (by omega)
    have e2 := stops_at (l := l) (i := i + 1) h
    obtain ⟨h1, g1⟩ := List.getElem?_eq_some_iff.mp e1
    obtain ⟨h2, g2⟩ := List.getElem?_eq_some_iff.mp e2
    have := (List.pairwise_iff_getElem.mp s) i (i + 1) h1 h2 (by omega)
    show endAt l i + 1 ≤ endAt l (i + 1)
    omega
theorem splitL_at {l : List Nat} {i : Nat} (h : i < l.count 10 + 1) : ∃ r : List Nat, (splitL l)[i]? = some r ∧ r.length = endAt l i - begAt l i := by
  refine ⟨(l.drop (begAt l i)).take (endAt l i - begAt l i), ?_, ?_⟩
  · unfold splitL
    have z : ((starts l).zip (stops l))[i]? = some (begAt l i, endAt l i) := by
      rw [List.getElem?_zip_eq_some]
      exact ⟨starts_at h, stops_at h⟩
    rw [List.getElem?_map, z]
    rfl
  · have := end_le h
    rw [List.length_take, List.length_drop]
    omega
theorem boot_min : bootBuiltins "min" = some (.builtin "min") := by decide +kernel
theorem boot_max : bootBuiltins "max" = some (.builtin "max") := by decide +kernel
theorem same_upd {H H' : Hp} {p : Addr} {o : HO} (h : Same H H') (n : H p = none) : Same H (upd H' p o) := fun b u q => by
  rw [upd_ne (ne_of_none q n)]
  exact h b u q
end L2

set_option Elab.async false
set_option linter.all false
set_option maxRecDepth 100000
set_option maxHeartbeats 4000000
namespace L2
open PySem PySem.Spec PyProof.Rows PySem.StrLaws
/-! ## split('\n', k): cut at the first k line feeds; find('\n', i) -/
theorem occ_goK (l : List Nat) (c k : Nat) : ∀ (m a : Nat) (st : Array Nat × Nat), st.snd ≤ a → st.fst.size ≤ k →
    (forIn (List.range' a m) st (occBody (S l) (S [c]) l.length k)).run.fst.toList = (st.fst.toList ++ (List.range' a m).filter (fun i => l[i]? == some c)).take k
  | 0, a, st, _, h2 => by
    have e : st.fst.toList.take k = st.fst.toList := List.take_of_length_le (by simpa using h2)
    simp [e]
  | m + 1, a, st, h1, h2 => by
    rw [List.range'_succ, List.forIn_cons]
    unfold occBody
    have key := subAt_one (S l) c a
    by_cases hc : l[a]? = some c
    · have z := key.mpr hc
      have ef : (a :: List.range' (a + 1) m).filter (fun i => l[i]? == some c) = a :: (List.range' (a + 1) m).filter (fun i => l[i]? == some c) := by
        rw [List.filter_cons, if_pos (by rw [hc]; exact beq_self_eq_true _)]
      rw [ef]
      by_cases hk : st.fst.size < k
      · rw [if_pos ⟨⟨⟨hk, h1⟩, z.1⟩, z.2⟩]
        have ih := occ_goK l c k m (a + 1) (st.fst.push a, a + 1) (Nat.le_refl _) (by simp; omega)
        refine Eq.trans ih ?_
        simp
      · rw [if_neg (fun q => hk q.1.1.1)]
        have ih := occ_goK l c k m (a + 1) (st.fst, st.snd) (by show st.snd ≤ a + 1; omega) h2
        refine Eq.trans ih ?_
        have e : k = st.fst.toList.length := by simp; omega
        rw [e, List.take_left', List.take_left'] <;> rfl
    · have z : ¬ (((st.fst.size < k ∧ st.snd ≤ a) ∧ a + (S [c]).length ≤ l.length) ∧ Builtin.Str.subAt (S l) (S [c]) a = true) := fun q => hc (key.mp ⟨q.1.2, q.2⟩)
      rw [if_neg z]
      have ih := occ_goK l c k m (a + 1) (st.fst, st.snd) (by show st.snd ≤ a + 1; omega) h2
      rw [List.filter_cons, if_neg (by intro q; exact hc (beq_iff_eq.mp q))]
      exact ih
theorem occ_K (l : List Nat) (k : Nat) : Builtin.Str.occurrences (S l) (S [10]) 0 l.length k = (occs l).take k := by
  rw [occ_eq, Nat.sub_zero, occ_goK l 10 k (l.length + 1) 0 (#[], 0) (Nat.le_refl _) (Nat.zero_le _), ← List.range_eq_range', List.range_succ, List.filter_append]
  unfold occs
  simp
def splitM (l : List Nat) (k : Nat) : List (List Nat) := (((0 :: ((occs l).take k).map (· + 1))).zip ((occs l).take k ++ [l.length])).map fun p => (l.drop p.1).take (p.2 - p.1)
theorem parts_M (l : List Nat) (k : Nat) : Builtin.Str.partsBetween (S l) ((occs l).take k) 1 = (splitM l k).map S := by
  unfold Builtin.Str.partsBetween splitM
  rw [List.map_map]
  apply List.map_congr_left
  rintro ⟨i, j⟩ _
  exact sub_S l i j
theorem takeK_len {l : List Nat} {k : Nat} (h : k ≤ l.count 10) : ((occs l).take k).length = k := by rw [List.length_take, occs_len]; omega
theorem splitM_len {l : List Nat} {k : Nat} (h : k ≤ l.count 10) : (splitM l k).length = k + 1 := by
  unfold splitM
  rw [List.length_map, List.length_zip, List.length_cons, List.length_map, List.length_append, takeK_len h, List.length_singleton, Nat.min_self]
theorem splitM_one {l : List Nat} {k : Nat} (h : (occs l).take k = []) : splitM l k = [l] := by
  unfold splitM
  rw [h]
  simp
theorem splitM_at {l : List Nat} {k : Nat} (h : k ≤ l.count 10) : (splitM l k)[k]? = some (l.drop (begAt l k)) := by
  unfold splitM
  have e2 : ((occs l).take k ++ [l.length])[k]? = some l.length := by
    rw [List.getElem?_append_right (by rw [takeK_len h]; exact Nat.le_refl _), takeK_len h, Nat.sub_self]
    rfl
  have e1 : (0 :: ((occs l).take k).map (· + 1))[k]? = some (begAt l k) := by
    have s := starts_at (l := l) (i := k) (by omega)
    unfold starts at s
    rw [← s]
    cases k with
    | zero => rfl
    | succ k => rw [List.getElem?_cons_succ, List.getElem?_cons_succ, List.getElem?_map, List.getElem?_map, List.getElem?_take_of_lt (by omega)]
  have z : ((0 :: ((occs l).take k).map (· + 1)).zip ((occs l).take k ++ [l.length]))[k]? = some (begAt l k, l.length) := by
    rw [List.getElem?_zip_eq_some]
    exact ⟨e1, e2⟩
  rw [List.getElem?_map, z]
  show some ((l.drop (begAt l k)).take (l.length - begAt l k)) = _
  rw [List.take_of_length_le (by rw [List.length_drop]; exact Nat.le_refl _)]
def ffN (l : List Nat) (i : Nat) : Int := Txt.find3 (S l) (S [10]) (i : Int)
theorem ffN_spec (l : List Nat) (i : Nat) : (ffN l i = -1 ∧ ∀ k : Nat, i ≤ k → ¬ l[k]? = some 10) ∨ ∃ j : Nat, ffN l i = (j : Int) ∧ i ≤ j ∧ l[j]? = some 10 ∧ ∀ k, i ≤ k → k < j → ¬ l[k]? = some 10 := by
  have ei : fromIndex (S l).length (i : Int) = i := by
    unfold fromIndex
    rw [if_neg (by omega)]
    omega
  unfold ffN Txt.find3
  rw [ei]
  rcases occ_head_from (S l) (S [10]) i 1 (Nat.le_refl _) with ⟨h1, h2⟩ | ⟨j, r, h1, h2, h3, h4⟩
  · refine .inl ⟨by rw [h1], fun k hk q => h2 k hk ((at_iff l 10 k).mpr q)⟩
  · refine .inr ⟨j, by rw [h1], h2, (at_iff l 10 j).mp h3, fun k hk hj q => h4 k hk hj ((at_iff l 10 k).mpr q)⟩
theorem occs_iff {l : List Nat} {i : Nat} : i ∈ occs l ↔ l[i]? = some 10 := by
  unfold occs
  rw [List.mem_filter, List.mem_range, beq_iff_eq]
  exact ⟨fun h => h.2, fun h => ⟨(List.getElem?_eq_some_iff.mp h).1, h⟩⟩
theorem endAt_last {l : List Nat} : endAt l (l.count 10) = l.length := by
  have s := stops_at (l := l) (i := l.count 10) (by omega)
  unfold stops at s
  rw [List.getElem?_append_right (by rw [occs_len]; exact Nat.le_refl _), occs_len, Nat.sub_self] at s
  exact (Option.some.inj s).symm
theorem occs_at {l : List Nat} {i : Nat} (h : i < l.count 10) : (occs l)[i]? = some (endAt l i) := by
  have s := stops_at (l := l) (i := i) (by omega)
  unfold stops at s
  rwa [List.getElem?_append_left (by rw [occs_len]; exact h)] at s
theorem occs_nth {l : List Nat} {j : Nat} (h : l[j]? = some 10) : ∃ i, i < l.count 10 ∧ endAt l i = j := by
  obtain ⟨i, hi, e⟩ := List.getElem_of_mem (occs_iff.mpr h)
  have hi' : i < l.count 10 := by rwa [occs_len] at hi
  refine ⟨i, hi', ?_⟩
  have := occs_at hi'
  rw [List.getElem?_eq_getElem hi, e] at this
  exact (Option.some.inj this).symm
theorem endAt_lt {l : List Nat} {i j : Nat} (h : i < j) (hj : j ≤ l.count 10) : endAt l i < endAt l j := by
  have s := stops_sorted l
  obtain ⟨h1, g1⟩ := List.getElem?_eq_some_iff.mp (stops_at (l := l) (i := i) (by omega))
  obtain ⟨h2, g2⟩ := List.getElem?_eq_some_iff.mp (stops_at (l := l) (i := j) (by omega))
  have := (List.pairwise_iff_getElem.mp s) i j h1 h2 h
  rwa [g1, g2] at this
theorem ffN_row {l : List Nat} {r : Nat} (h : r ≤ l.count 10) : (ffN l (begAt l r) = -1 ∧ endAt l r = l.length) ∨ ffN l (begAt l r) = (endAt l r : Nat) := by
  have hbe := beg_le (l := l) (i := r) (by omega)
  have no : ∀ k, begAt l r ≤ k → k < endAt l r → ¬ l[k]? = some 10 := by
    intro k h1 h2 q
    obtain ⟨i, hi, rfl⟩ := occs_nth q
    by_cases hir : i < r
    · obtain ⟨r', rfl⟩ : ∃ r', r = r' + 1 := ⟨r - 1, by omega⟩
      have e : begAt l (r' + 1) = endAt l r' + 1 := rfl
      rcases Nat.lt_or_ge i r' with z | z
      · have := endAt_lt (l := l) z (by omega); omega
      · have : i = r' := by omega
        subst this; omega
    · rcases Nat.lt_or_ge r i with z | z
      · have := endAt_lt (l := l) z (by omega); omega
      · have : i = r := by omega
        subst this; omega
  rcases ffN_spec l (begAt l r) with ⟨h1, h2⟩ | ⟨j, h1, h2, h3, h4⟩
  · refine .inl ⟨h1, ?_⟩
    rcases Nat.lt_or_ge r (l.count 10) with z | z
    · exact absurd (occs_iff.mp (List.mem_of_getElem? (occs_at z))) (h2 _ hbe)
    · have : r = l.count 10 := by omega
      rw [this]; exact endAt_last
  · refine .inr ?_
    rw [h1]
    have hj := (List.getElem?_eq_some_iff.mp h3).1
    have : ¬ j < endAt l r := fun z => no j h2 z h3
    rcases Nat.lt_or_ge r (l.count 10) with z | z
    · have : ¬ endAt l r < j := fun q => h4 _ hbe q (occs_iff.mp (List.mem_of_getElem? (occs_at z)))
      congr 1; omega
    · have e : r = l.count 10 := by omega
      have : endAt l r = l.length := by rw [e]; exact endAt_last
      omega
section
variable {X : Cx}
theorem mt_findN : MtR X "str.find" (fun x vs H Q => ∃ (l : List Nat) (i : Nat), x = .str (S l) ∧ vs = [.str (S [10]), .int (i : Int)] ∧ Q (.int (ffN l i)) H) := by
  intro pins s σ H x vs v us Q I rx rv h
  obtain ⟨l, i, rfl, rfl, q⟩ := h
  obtain ⟨t, rfl⟩ := rx
  obtain ⟨u1, u2, rfl, ⟨t1, rfl⟩, ⟨t2, rfl⟩⟩ := rv.two
  refine SC.find3 ⟨.int (ffN l i), H, I.tok _, ⟨_, rfl⟩, q⟩
theorem mt_splitM : MtR X "str.split" (fun x vs H Q => ∃ (l : List Nat) (k : Nat), x = .str (S l) ∧ vs = [.str (S [10]), .int (k : Int)] ∧ k ≤ l.count 10 ∧ l.length ≤ 100000 ∧ ∀ p, H p = none → Q (.ref p) (upd H p (.lst ((splitM l k).map fun r => .str (S r))))) := by
  intro pins s σ H x vs v us Q I rx rv h
  obtain ⟨l, k, rfl, rfl, hk, hl, q⟩ := h
  obtain ⟨t, rfl⟩ := rx
  obtain ⟨u1, u2, rfl, ⟨t1, rfl⟩, ⟨t2, rfl⟩⟩ := rv.two
  have hc := count_le l
  have hz : ((splitM l k).map fun r => V.str (S r)).length ≤ sizeLine := by
    rw [List.length_map, splitM_len hk]
    exact small (by omega)
  have hk2 : (decide ((k : Int) < -(2 ^ 63 : Int)) || decide ((k : Int) ≥ 2 ^ 63)) = false := by
    have e1 : decide ((k : Int) < -(2 ^ 63 : Int)) = false := decide_eq_false (by omega)
    have e2 : decide ((k : Int) ≥ 2 ^ 63) = false := decide_eq_false (by omega)
    rw [e1, e2, Bool.or_false]
  have elim : limitOf (S l) (k : Int) = k := by unfold limitOf; rw [if_neg (by omega)]; rfl
  have one : ∀ e : (occs l).take k = [], EP X pins σ Q (.ref s.heap.objs.size) { s with heap := s.heap.push { cls := .type "list", data := .seq [Value.str (S l) t].toArray } } := fun e => by
    have J := I.lnew (ys := (splitM l k).map fun r => V.str (S r)) (its := [Value.str (S l) t]) (t' := s.toks) (by rw [splitM_one e]; exact .cons ⟨_, rfl⟩ .nil) hz
    exact ⟨.ref s.heap.objs.size, _, J, rfl, q _ I.fresh⟩
  have hw : (((S [10]).length == 0) : Bool) = false := rfl
  cases h1 : (decide ((S l).length < (S [10]).length) || decide (Builtin.Str.strKind (S l) < Builtin.Str.strKind (S [10]))) with
  | true =>
    have e : occs l = [] := by
      have k1 : Builtin.Str.strKind (S [10]) = 1 := by decide +kernel
      have k2 : 1 ≤ Builtin.Str.strKind (S l) := by unfold Builtin.Str.strKind; split <;> (try split) <;> omega
      rw [Bool.or_eq_true, decide_eq_true_eq, decide_eq_true_eq] at h1
      have hlen : (S [10]).length = 1 := rfl
      have : l.length = 0 := by
        rcases h1 with z | z
        · have z' : l.length < 1 := z
          omega
        · omega
      have : l = [] := List.length_eq_zero_iff.mp this
      subst this
      rfl
    exact call_meets F.slot_str_split (typeIs_str _ _ _) F.entry_str_split (F.args_str_split_3 _ _ _) (meets_str_split_max_cannot_occur (S l) (S [10]) k t t1 t2 hk2 h1) (one (by rw [e]; exact List.take_nil))
  | false =>
    have eo : Builtin.Str.occurrences (S l) (S [10]) 0 (S l).length (limitOf (S l) (k : Int)) = (occs l).take k := by rw [elim]; exact occ_K l k
    cases hf : ((occs l).take k).isEmpty with
    | true =>
      have e : (occs l).take k = [] := List.isEmpty_iff.mp hf
      exact call_meets F.slot_str_split (typeIs_str _ _ _) F.entry_str_split (F.args_str_split_3 _ _ _) (meets_str_split_max_not_found (S l) (S [10]) k t t1 t2 hk2 h1 hw (by rw [eo]; exact hf)) (one e)
    | false =>
      have ep : Builtin.Str.partsBetween (S l) (Builtin.Str.occurrences (S l) (S [10]) 0 (S l).length (limitOf (S l) (k : Int))) (S [10]).length = (splitM l k).map S := by rw [eo]; exact parts_M l k
      refine call_meets F.slot_str_split (typeIs_str _ _ _) F.entry_str_split (F.args_str_split_3 _ _ _) (meets_str_split_sep_max (S l) (S [10]) k t t1 t2 hk2 h1 hw (by rw [eo]; exact hf) (small (by show l.length ≤ 1000000; omega)) (by rw [ep, List.length_map]; rw [List.length_map] at hz; exact hz)) ?_
      have J := I.lnew (ys := (splitM l k).map fun r => V.str (S r)) (its := strsFrom s.toks ((splitM l k).map S)) (t' := s.toks + ((splitM l k).map S).length) (vals_from _ _) hz
      show EP X pins σ Q (.ref s.heap.objs.size) _
      rw [ep]
      exact ⟨.ref s.heap.objs.size, _, J, rfl, q _ I.fresh⟩
end
end L2

set_option Elab.async false
set_option linter.all false
set_option maxRecDepth 100000
set_option maxHeartbeats 4000000
namespace L2
open PySem PySem.Spec PyProof.Rows PySem.StrLaws
/-! ## ljust: blanks behind, up to a width -/
def ljL (l : List Nat) (n : Nat) : List Nat := l ++ List.replicate (n - l.length) 32
theorem lj_S (l : List Nat) (n : Nat) : Txt.ljust (S l) (n : Int) = S (ljL l n) := by
  refine PyProof.Rows.ext_toList ?_
  have e : Txt.ljust (S l) (n : Int) = Txt.ljustF (S l) (n : Int) 32 := rfl
  rw [e, ljustF_list]
  rfl
section
variable {X : Cx}
theorem mt_ljust : MtR X "str.ljust" (fun x vs H Q => ∃ (l : List Nat) (n : Nat), x = .str (S l) ∧ vs = [.int (n : Int)] ∧ n ≤ 1000 ∧ Q (.str (S (ljL l n))) H) := by
  intro pins s σ H x vs v us Q I rx rv h
  obtain ⟨l, n, rfl, rfl, hn, q⟩ := h
  obtain ⟨t, rfl⟩ := rx
  obtain ⟨u, rfl, t', rfl⟩ := rv.one
  refine SC.ljust ?_ fun t'' k => ⟨.str (S (ljL l n)), H, I.tok _, ⟨t'', by rw [lj_S]⟩, q⟩
  have e2 : Builtin.Str.tooLong ((n : Int)).toNat = false := by
    have hz : n ≤ sizeLine := small (by omega)
    show Builtin.Str.tooLong n = false
    unfold Builtin.Str.tooLong
    simp
    omega
  have e1 : fitsSsize (n : Int) = true := by
    unfold fitsSsize
    have a1 : decide ((n : Int) < -(2 ^ 63 : Int)) = false := decide_eq_false (by omega)
    have a2 : decide ((n : Int) ≥ 2 ^ 63) = false := decide_eq_false (by omega)
    rw [a1, a2]
    rfl
  unfold PadOk
  rw [e1, e2]
  rfl
end
/-! ## a text so many times, none where the number is below 0 -/
theorem mul_SZ (l : List Nat) (n : Int) : Txt.mul (S l) n = S (rep l n.toNat) := by
  by_cases h : 0 ≤ n
  · exact mul_S l h
  · unfold Txt.mul
    split
    · have : n.toNat = 0 := by omega
      rw [this]
      rfl
    · rename_i h1
      have h2 : 1 ≤ n := by simpa using h1
      omega
section
variable {X : Cx}
theorem op_mulZ : OpR X (binaryOp .Mult) (fun x y H Q => ∃ l n, x = .str (S l) ∧ y = .int n ∧ -1000000 ≤ n ∧ n ≤ 1000 ∧ l.length ≤ 1000 ∧ Q (.str (S (rep l n.toNat))) H) := by
  intro pins s σ H x y v u Q I rx ry h
  obtain ⟨l, n, rfl, rfl, h0, h1, h2, q⟩ := h
  by_cases hn : 0 ≤ n
  · exact op_mulS pins s σ H _ _ v u Q I rx ry ⟨l, n, rfl, rfl, hn, h1, h2, q⟩
  obtain ⟨t, rfl⟩ := rx
  obtain ⟨t', rfl⟩ := ry
  refine SB.mul ⟨?_, fun a b => ?_, fun a b => ?_⟩ fun t' k => ⟨.str (S (rep l n.toNat)), H, I.tok _, ⟨t', by rw [mul_SZ l]⟩, q⟩
  · have e1 : decide (n < -(2 ^ 63 : Int)) = false := decide_eq_false (by omega)
    have e2 : decide (n ≥ 2 ^ 63) = false := decide_eq_false (by omega)
    rw [e1, e2, Bool.or_false]
  · exact absurd a (by omega)
  · exact absurd a (by omega)
end
end L2

set_option Elab.async false
set_option linter.all false
set_option maxRecDepth 100000
set_option maxHeartbeats 4000000
namespace L2
open PySem PySem.Spec PyProof.Rows
/-! ### comprehensions: the block runs in a context of its own -/
abbrev blk (X : Cx) (scope : Scope) (cl : List (Str × Addr)) (NB : List Str) (C : Addr) (fp : List Addr) (s3 : Shared) (H3 : Hp) : Cx :=
  { X with env := compEnvC scope cl C X.env, N := NB, s₀ := s3, H₀ := H3, outer := X.stack, stack := X.stack, ex := fp, fn := fun _ => false, xe := fun _ _ => False }
def around (ix : List (Option Nat)) (σ : St) : St := ix.map fun o => o.bind fun j => (σ[j]?).bind id
structure ClOk (X : Cx) (scope : Scope) (cl : List (Str × Addr)) (NB : List Str) (ix : List (Option Nat)) : Prop where
  clos : closureFor scope X.env = pure cl
  cell : ∀ y ∈ scope.names, y.2 ≠ .cell
  kind : scope.kind = .function
  names : ∀ y ∈ scope.names, y.2 = .local → scope.names.lookup y.1 = some .local
  sub : ∀ x c, cl.lookup x = some c → X.env.cells.lookup x = some c
  has : ∀ C x, ((compEnvC scope cl C X.env).kindOf x = some .cell ∨ (compEnvC scope cl C X.env).kindOf x = some .free) → ∃ c, cl.lookup x = some c
  len : ix.length = NB.length
  at_ : ∀ (i : Nat) x j, NB[i]? = some x → ix[i]? = some (some j) → X.N[j]? = some x ∧ (X.env.kindOf x = some .cell ∨ X.env.kindOf x = some .free) ∧ ∀ C, (compEnvC scope cl C X.env).kindOf x = some .cell ∨ (compEnvC scope cl C X.env).kindOf x = some .free
section
variable {X : Cx} {scope : Scope} {cl : List (Str × Addr)} {NB : List Str} {ix : List (Option Nat)} {fp : List Addr} {pins : List (Addr × Obj)} {σ : St} {H : Hp} {s : Shared}
theorem blk_ok (hb : ClOk X scope cl NB ix) (I : Inv X pins σ H s) (hf : ∀ b ∈ fp, FpOk X pins H b) (hl : ∀ b ∈ fp, b < s.heap.objs.size) : (blk X scope cl NB s.heap.objs.size fp s H).Ok where
  mod := I.mod
  kind := hb.kind
  glob := I.ok.glob
  blt := I.ok.blt
  above := Nat.le_refl _
  inj := fun x y c h1 h2 => I.ok.inj x y c (hb.sub x c h1) (hb.sub y c h2)
  has := fun x h => hb.has _ x h
  cab := fun _ _ z => nomatch z
  hd := I.ok.hd
  frames := I.ok.frames
  stk := .inl rfl
  exf := fun b z => ⟨Nat.ne_of_lt (hl b z), fun x c e => (hf b z).2.2.2.2.1 x c (hb.sub x c e)⟩
  bs := fun b o e => I.bs b o e
  bsz := Nat.le_trans I.ok.bsz I.sz
  noex := fun b o e z => by
    rcases (hf b z).2.2.2.1 with q | q
    · exact I.ok.noex b o e q
    · exact absurd (Nat.lt_of_lt_of_le (Heap.lt_size e) (Nat.le_trans I.ok.bsz q)) (Nat.lt_irrefl _)
  exfs := fun b z q => by
    rcases List.mem_cons.mp (I.stkSub b q) with e | e
    · exact (hf b z).2.1 e
    · exact (hf b z).2.2.1 e
  funs := I.stack
  frf := I.stkFree
theorem blk_inv (hb : ClOk X scope cl NB ix) (I : Inv X pins σ H s) (hf : ∀ b ∈ fp, FpOk X pins H b) (hl : ∀ b ∈ fp, b < s.heap.objs.size) {h' : Heap} {t' : Nat} {m : Str → Option Value} (hn : h'.Ns s.heap.objs.size m)
    (k : ∀ b o, s.heap.get? b = some o → h'.get? b = some o) : Inv (blk X scope cl NB s.heap.objs.size fp s H) pins (around ix σ) H { s with heap := h', toks := t' } where
  ok := blk_ok hb I hf hl
  os := rfl
  bare := I.bare
  base := Un.kept k
  loc := by
    refine ⟨m, hn, fun i x v e1 e2 e3 => ?_⟩
    have e2' : ∃ j, ix[i]? = some (some j) ∧ σ[j]? = some (some v) := by
      unfold around at e2
      rw [List.getElem?_map] at e2
      cases q : ix[i]? with
      | none => rw [q] at e2; cases e2
      | some o =>
        rw [q] at e2
        cases o with
        | none => cases e2
        | some j =>
          refine ⟨j, rfl, ?_⟩
          simp only [Option.map_some, Option.bind_some, Option.some.injEq] at e2
          cases r : σ[j]? with
          | none => rw [r] at e2; cases e2
          | some o => rw [r] at e2; simp only [Option.bind_some, id] at e2; rw [e2]
    obtain ⟨j, q1, q2⟩ := e2'
    obtain ⟨n1, n2, n3⟩ := hb.at_ i x j e1 q1
    obtain ⟨m0, _, hl0⟩ := I.loc
    have hv : Vis X.env.scope x := n2.elim (fun z => .inr (.inl z)) fun z => .inr (.inr z)
    obtain ⟨u, r, lk⟩ := hl0 j x v n1 q2 hv
    refine ⟨u, r, .inr ⟨n3 _, ?_⟩⟩
    rcases lk with ⟨z, _⟩ | ⟨_, c, ec, o, ho, hd⟩
    · rcases n2 with n2 | n2 <;> (rw [n2] at z; cases z)
    · obtain ⟨c', hc'⟩ := hb.has s.heap.objs.size x (n3 _)
      have := hb.sub x c' hc'
      rw [ec] at this; cases this
      exact ⟨c, hc', o, k c o ho, hd⟩
  cell := fun x c e => by
    obtain ⟨v, o, ho, hd⟩ := I.cell x c (hb.sub x c e)
    exact ⟨v, o, k c o ho, hd⟩
  free := I.hok.fresh (Nat.le_refl _)
  freeC := fun x c e => I.freeC x c (hb.sub x c e)
  pin := fun p hp => by
    obtain ⟨e, n, ne, nf, d⟩ := I.pin p hp
    refine ⟨k _ _ e, n, Nat.ne_of_lt (Heap.lt_size e), fun z => ?_, d⟩
    rcases List.mem_cons.mp (I.stkSub p.1 z) with q | q
    · exact ne q
    · exact nf q
  hok := I.hok.kept k
  len := by show (around ix σ).length = NB.length; unfold around; rw [List.length_map]; exact hb.len
theorem blk_back {C : Addr} {s' : Shared} {σ' : St} {H' : Hp} {h' : Heap} (I : Inv X pins σ H s) (hC : s.heap.objs.size ≤ C) (hf : ∀ b ∈ fp, FpOk X pins H b) (J : Inv (blk X scope cl NB C fp s H) pins σ' H' s') (hs : Heap.SameBut C s'.heap h') : Inv X pins σ H' { s' with heap := h' } := by
  have nC : ∀ b o, s.heap.get? b = some o → b ≠ C := fun b o e => Nat.ne_of_lt (Nat.lt_of_lt_of_le (Heap.lt_size e) hC)
  refine I.call' (ch := fp) J.os ?_ ?_ J.bare fun b hb => ?_
  · have B := J.base
    exact ⟨fun b o e n h1 h2 => (hs.2 b (nC b o e)).trans (B.keep b o e n h1 h2), fun b o e n h1 h2 => let ⟨sl, q⟩ := B.slot b o e n h1 h2; ⟨sl, (hs.2 b (nC b o e)).trans q⟩, B.free, fun b o e h1 => let ⟨o', q⟩ := B.there b o e h1; ⟨o', (hs.2 b (nC b o e)).trans q⟩, B.tups, B.frzs, B.tbls⟩
  · intro b ob e
    have fr : H' C = none := J.free
    refine (J.hok b ob e).stay (fun c w' hc q => (hs.2 c ?_).trans q) (fun _ q => q) fun _ _ q => q
    rintro rfl
    rcases hc with rfl | hc
    · rw [fr] at e; cases e
    · rw [fr] at hc; cases hc
  · obtain ⟨_, f1, _, f3, f4, f5⟩ := hf b hb
    exact ⟨f3, f1, f4, f5⟩
def PIf (X : Cx) (ifs : List Expr) (t : TT) : Prop :=
  ∀ (pins : List (Addr × Obj)) (s : Shared) (σ : St) (H : Hp) (Q : Bool → Hp → Prop), Inv X pins σ H s → t σ H Q →
    wpAny (model X.prog X.w) X.A (forIn ifs true fun c r => if r = true then do let ok ← isTrue c X.env (eval c X.env); pure (ForInStep.yield ok) else pure (ForInStep.yield r)) (TP X pins σ Q) X.xe s
def tYes : TT := fun _ H Q => Q true H
theorem pif_nil : PIf X [] tYes := fun _ _ _ H _ I h => wpAny_tests_nil ⟨H, I, h⟩
theorem pif_one {c : Expr} {t : TT} (h : PT X c t) : PIf X [c] t := fun pins s σ H Q I hq => wpAny_tests_one (h pins s σ H Q I hq)
def CompW (J : It) (D : Addr) (σ0 : St) (H0 : Hp) (g : TG) (tc : TT) (te : TE) (Q : VK) : Prop := ∃ W : Nat → Nat → St → Hp → Prop, (∃ m, W 0 m σ0 H0) ∧ ∀ i m σ H, W i m σ H →
  (J.stop i H ∧ Q (.ref D) H) ∨ (J.go i H ∧ ∃ N : St → Hp → Prop, (∀ σ' H', N σ' H' → ∃ m', m' < m ∧ W (i + 1) m' σ' H') ∧ ∀ x H', J.yld i H x H' → g x σ H' fun σ2 H2 => tc σ2 H2 fun b H3 =>
    if b = true then te σ2 H3 fun y H4 => ∃ ys, H4 D = some (.lst ys) ∧ ys.length < sizeLine ∧ N σ2 (upd H4 D (.lst (ys ++ [y]))) else N σ2 H3)
def tComp (ix : List (Option Nat)) (wi : TI) (g : TG) (tc : TT) (te : TE) : TE := fun σ H Q => wi σ H fun J H1 => ∀ D, H1 D = none → CompW J D (around ix σ) (upd H1 D (.lst [])) g tc te Q
theorem pe_comp {elt iter : Expr} {x : Str} {px : Pos} {ifs : List Expr} {pos : Pos} {wi : TI} {g : TG} {tc : TT} {te : TE} (NB : List Str) (ix : List (Option Nat)) (cl : List (Str × Addr)) (hc : X.calm = true) (hb : ClOk X scope cl NB ix) (hi : PI X (.Name x px) iter wi)
    (hg : ∀ C fp s3 H3, PG (blk X scope cl NB C fp s3 H3) (.Name x px) g) (ht : ∀ C fp s3 H3, PIf (blk X scope cl NB C fp s3 H3) ifs tc) (he : ∀ C fp s3 H3, PE (blk X scope cl NB C fp s3 H3) elt te)
    (hs : ∀ x, foldedSetIterable iter X.env x = pure x := by intro _; rfl) : PE X (.ListComp elt [⟨.Name x px, iter, ifs, 0⟩] scope pos) (tComp ix wi g tc te) := by
  intro pins s σ H Q I h
  rw [eval_ListComp]
  refine wpAny_comprehension_free (use := none) rfl hs hb.clos hb.kind hb.names (thn (hi pins s σ H _ I h) fun v s1 h1 => thn h1 fun itv s2 h2 => ?_)
  obtain ⟨it, fp, tn, J, H2, e, I2, T, st2, f2, turn0⟩ := h2
  subst e
  have hD : H2 s2.heap.objs.size = none := I2.hok.fresh (Nat.le_refl _)
  obtain ⟨W, ⟨m0, w0⟩, turn⟩ := turn0 _ hD
  have flt : ∀ b ∈ fp, b < s2.heap.objs.size := fun b z => let ⟨o, e, _⟩ := T.obj _ _ st2 b z; Heap.lt_size e
  refine wpAny_newObj_type (wpAny_newFunctionEnv hb.cell (by intro y hy; simp at hy) (fun h₁ hns₁ hsb₁ => ?_) hb.kind)
  dsimp only at hns₁ hsb₁ ⊢
  have I3 := I2.lnew (ys := []) (its := []) (t' := s2.toks) .nil (Nat.zero_le _)
  have hsz3 : (s2.heap.push { cls := .type "list", data := .seq ([] : List Value).toArray }).objs.size = s2.heap.objs.size + 1 := Heap.size_push ..
  have fp3 : ∀ b ∈ fp, FpOk X pins (upd H2 s2.heap.objs.size (.lst [])) b := fun b z => ⟨by rw [upd_ne (Nat.ne_of_lt (flt b z))]; exact (f2 b z).1, (f2 b z).2⟩
  have flt3 : ∀ b ∈ fp, b < (s2.heap.push { cls := .type "list", data := .seq ([] : List Value).toArray }).objs.size := fun b z => by rw [hsz3]; exact Nat.lt_succ_of_lt (flt b z)
  have k3 : ∀ b o, (s2.heap.push { cls := .type "list", data := .seq ([] : List Value).toArray }).get? b = some o → h₁.get? b = some o := fun b o e => hsb₁.extBut b o (Nat.ne_of_lt (Heap.lt_size e)) (Heap.get?_push_of_some _ e)
  have J0 := blk_inv hb I3 fp3 flt3 (h' := h₁) (t' := s2.toks + ([] : List (Str × Value)).length) hns₁ k3
  have st3 : tn 0 h₁ := T.keep _ _ _ st2 fun b z o e => k3 b o (Heap.get?_push_of_some _ e)
  have loop : ∀ s4 : Shared, s4 = { s2 with heap := h₁, toks := s2.toks + ([] : List (Str × Value)).length } →
      codeAny (model X.prog X.w) X.A (.compLoop (.ListComp elt [⟨.Name x px, iter, ifs, 0⟩] scope pos) 0 (.ref it) (.ref s2.heap.objs.size) (compEnvC scope cl (s2.heap.push { cls := .type "list", data := .seq ([] : List Value).toArray }).objs.size X.env))
        (compPost (model X.prog X.w) X.A X.xe none (EP X pins σ Q) (.ref s2.heap.objs.size) (s2.heap.push { cls := .type "list", data := .seq ([] : List Value).toArray }).objs.size) s4 := by
    rintro s4 rfl
    have J0' : Inv (blk X scope cl NB (s2.heap.push { cls := .type "list", data := .seq ([] : List Value).toArray }).objs.size fp _ _) pins _ _ _ := J0
    generalize hC : (s2.heap.push { cls := .type "list", data := .seq ([] : List Value).toArray }).objs.size = C at *
    refine codeAny_compLoop_tests (fun n s' => ∃ i σ' H', Inv (blk X scope cl NB C fp { s2 with heap := s2.heap.push { cls := .type "list", data := .seq ([] : List Value).toArray } } (upd H2 s2.heap.objs.size (.lst []))) pins σ' H' s' ∧ tn i s'.heap ∧ (∀ b ∈ fp, H' b = none) ∧ W i n σ' H') ?_ m0 ⟨0, _, _, J0', st3, fun b z => (fp3 b z).1, w0⟩
    rintro n s5 ⟨i, σ5, H5, I5, st5, fr5, w5⟩
    have stat : ∀ {H' : Hp}, (∀ b ∈ fp, H' b = none) → ∀ b ∈ fp, FpOk (blk X scope cl NB C fp { s2 with heap := s2.heap.push { cls := .type "list", data := .seq ([] : List Value).toArray } } (upd H2 s2.heap.objs.size (.lst []))) pins H' b := fun hn b z => by
      obtain ⟨_, f1, f2', f3, f4, f5⟩ := fp3 b z
      exact ⟨hn b z, Nat.ne_of_lt (flt3 b z), fun q => I5.ok.exfs b z q, .inl z, fun y c e => f4 y c (hb.sub y c e), f5⟩
    rcases turn i n σ5 H5 w5 with ⟨stop, qn⟩ | ⟨go, N, hN, step⟩
    · refine wpAny_mono (T.done (blk X scope cl NB C fp { s2 with heap := s2.heap.push { cls := .type "list", data := .seq ([] : List Value).toArray } } (upd H2 s2.heap.objs.size (.lst []))) rfl rfl rfl hc i pins s5 σ5 H5 (fun _ _ => False) I5 (stat fr5) st5 stop) (fun r s6 ⟨hr, I6⟩ => ?_) fun _ _ z => z.elim
      subst hr
      obtain ⟨m6, hn6, _⟩ := id I6.loc
      refine ⟨m6, hn6, fun h' hs' => ?_⟩
      exact ⟨.ref _, H5, blk_back I3 (Nat.le_of_eq hC) fp3 I6 hs', rfl, qn⟩
    · refine wpAny_mono (T.item (blk X scope cl NB C fp { s2 with heap := s2.heap.push { cls := .type "list", data := .seq ([] : List Value).toArray } } (upd H2 s2.heap.objs.size (.lst []))) rfl rfl rfl hc i pins s5 σ5 H5 (fun _ _ => False) I5 (stat fr5) st5 go) (fun r s6 ⟨u, hr, h6⟩ => ?_) fun _ _ z => z.elim
      subst hr
      show wpAny _ _ (pure () >>= fun _ => assign (.Name x px) _ u) _ _ s6
      refine wpAny_bind (wpAny_mono h6 (fun _ s7 ⟨y, H7, I7, r7, y7, st7, fr7⟩ => ?_) fun _ _ z => z.elim)
      have I7' := I7.pinned (stat fr7) (T.obj _ _ st7)
      refine wpAny_mono (hg _ _ _ _ _ s7 σ5 H7 y u _ I7' r7 (step y H7 y7)) (fun _ s8 ⟨σ8, H8, I8, q8⟩ => ?_) fun _ _ z => z.elim
      refine wpAny_mono (ht _ _ _ _ _ s8 σ8 H8 _ I8 q8) (fun ok s9 ⟨H9, I9, q9⟩ => ?_) fun _ _ z => z.elim
      have again : ∀ {s' : Shared} {H' : Hp}, Inv (blk X scope cl NB C fp { s2 with heap := s2.heap.push { cls := .type "list", data := .seq ([] : List Value).toArray } } (upd H2 s2.heap.objs.size (.lst []))) (pins ++ pinsAt fp s7.heap) σ8 H' s' → N σ8 H' → ∃ m, m < n ∧ ∃ i σ' H', Inv (blk X scope cl NB C fp { s2 with heap := s2.heap.push { cls := .type "list", data := .seq ([] : List Value).toArray } } (upd H2 s2.heap.objs.size (.lst []))) pins σ' H' s' ∧ tn i s'.heap ∧ (∀ b ∈ fp, H' b = none) ∧ W i m σ' H' := fun {s' H'} I' n' => by
        obtain ⟨m', hm, w'⟩ := hN _ _ n'
        refine ⟨m', hm, i + 1, _, H', I'.unpinned, T.keep _ _ _ st7 fun b z o e => (I'.pin (b, o) (List.mem_append_right _ (List.mem_append_right _ (mem_pinsAt z e)))).1, fun b z => ?_, w'⟩
        obtain ⟨o, e, d⟩ := T.obj _ _ st7 b z
        exact (I'.pin (b, o) (List.mem_append_right _ (List.mem_append_right _ (mem_pinsAt z e)))).2.1
      cases ok with
      | false => exact again I9 q9
      | true =>
        rw [if_pos rfl] at q9 ⊢
        refine wpAny_mono (he _ _ _ _ _ s9 σ8 H9 _ I9 q9) (fun w s10 ⟨z, H10, I10, r10, ys, hD10, hz10, n10⟩ => ?_) fun _ _ z => z.elim
        refine wpAny_mono (mt_append (X := (blk X scope cl NB C fp { s2 with heap := s2.heap.push { cls := .type "list", data := .seq ([] : List Value).toArray } } (upd H2 s2.heap.objs.size (.lst [])))) _ s10 σ8 H10 (.ref s2.heap.objs.size) [z] _ [w] (fun _ H' => H' = upd H10 s2.heap.objs.size (.lst (ys ++ [z]))) I10 rfl (.cons r10 .nil) ⟨_, ys, z, rfl, rfl, hD10, hz10, rfl⟩) (fun _ s11 ⟨_, H11, I11, _, e11⟩ => ?_) fun _ _ z => z.elim
        subst e11
        exact again I11 n10
  exact codeAny_compStart_list (loop _ rfl) (T.self _ 0 _ _ _ st3 (loop _ rfl))

/-! ### reversed(list) -/
theorem comp_list {K : PySem.W.Frag} {a D : Addr} {xs : List V} {ix : List (Option Nat)} {g : TG} {tc : TT} {te : TE} {σ : St} {H : Hp} {Q : VK} (Pv : Nat → St → Hp → Prop) (h0 : Pv 0 (around ix σ) (upd H D (.lst []))) (hl : ∀ i σ H, i ≤ xs.length → Pv i σ H → SqL K H a xs)
    (hs : ∀ i x σ H, xs[i]? = some x → Pv i σ H → g x σ H fun σ2 H2 => tc σ2 H2 fun b H3 => if b = true then te σ2 H3 fun y H4 => ∃ ys, H4 D = some (.lst ys) ∧ ys.length < sizeLine ∧ Pv (i + 1) σ2 (upd H4 D (.lst (ys ++ [y]))) else Pv (i + 1) σ2 H3)
    (hd : ∀ σ H, Pv xs.length σ H → Q (.ref D) H) :
    CompW (Itl K a) D (around ix σ) (upd H D (.lst [])) g tc te Q := by
  refine ⟨fun i m σ H => m = xs.length - i ∧ i ≤ xs.length ∧ Pv i σ H, ⟨xs.length, by simp, Nat.zero_le _, h0⟩, ?_⟩
  rintro i m σ H ⟨rfl, hi, p⟩
  have q := hl i σ H hi p
  by_cases hlt : i < xs.length
  · refine .inr ⟨⟨xs, xs[i], q, by simp [hlt]⟩, Pv (i + 1), fun σ' H' p' => ⟨xs.length - (i + 1), by omega, rfl, hlt, p'⟩, fun x H' y => ?_⟩
    obtain ⟨e, y⟩ := y
    subst e
    exact hs i x σ _ (y xs q) p
  · have e : i = xs.length := by omega
    subst e
    exact .inl ⟨⟨xs, q, Nat.le_refl _⟩, hd σ H p⟩
theorem yes {i : Nat} {v : V} {σ : St} {H : Hp} {F G : St → Hp → Prop} (h : F (σ.set i (some v)) H) : gName i v σ H (fun σ2 H2 => tYes σ2 H2 fun b H3 => if b = true then F σ2 H3 else G σ2 H3) := by
  show (if true = true then F (σ.set i (some v)) H else G (σ.set i (some v)) H)
  rw [if_pos rfl]
  exact h
theorem nd1 (x : Str) : [x].Nodup := by simp
theorem lookup_mem {α : Type} : ∀ {l : List (Str × α)} {x : Str} {k : α}, l.lookup x = some k → ∃ y, (y, k) ∈ l
  | (y, k') :: r, x, k, h => by
    rw [List.lookup_cons] at h
    split at h
    · cases h; exact ⟨y, List.mem_cons_self⟩
    · obtain ⟨z, hz⟩ := lookup_mem h
      exact ⟨z, List.mem_cons_of_mem _ hz⟩
theorem cl_none (NB : List Str) (hf : (scope.names.all fun y => y.2 != NameKind.free && y.2 != NameKind.cell) = true) (hk : scope.kind = .function) (hn : (scope.names.all fun y => y.2 != NameKind.local || scope.names.lookup y.1 == some NameKind.local) = true) : ClOk X scope [] NB (NB.map fun _ => none) := by
  have nf : ∀ y ∈ scope.names, y.2 ≠ .free ∧ y.2 ≠ .cell := fun y hy => by
    have := List.all_eq_true.mp hf y hy
    simpa using this
  have er : (scope.names.map fun (n, k) => if (k == NameKind.free && X.env.scope.kind == .function && X.env.kindOf n == some .cell) then (n, NameKind.cell) else (n, k)) = scope.names := by
    refine (List.map_congr_left fun y hy => ?_).trans (List.map_id _)
    obtain ⟨n, k⟩ := y
    have h1 : (k == NameKind.free) = false := by simpa using (nf _ hy).1
    show (if (k == NameKind.free && X.env.scope.kind == .function && X.env.kindOf n == some .cell) = true then (n, NameKind.cell) else (n, k)) = (n, k)
    rw [h1, Bool.false_and, Bool.false_and]
    rfl
  refine ⟨closureFor_none fun y hy => (nf y hy).1, fun y hy => (nf y hy).2, hk, fun y hy hl => ?_, fun x c h => (by cases h), fun C x h => ?_, by simp, fun i x j h1 h2 => ?_⟩
  · have := List.all_eq_true.mp hn y hy
    rw [hl] at this
    simpa using this
  · exfalso
    have hx : (compEnvC scope [] C X.env).kindOf x = scope.names.lookup x := by
      show List.lookup x (scope.names.map fun (n, k) => if (k == NameKind.free && X.env.scope.kind == .function && X.env.kindOf n == some .cell) then (n, NameKind.cell) else (n, k)) = _
      rw [er]
    rw [hx] at h
    rcases h with h | h
    · obtain ⟨y, hy⟩ := lookup_mem h
      exact (nf _ hy).2 rfl
    · obtain ⟨y, hy⟩ := lookup_mem h
      exact (nf _ hy).1 rfl
  · rw [List.getElem?_map] at h2
    cases q : NB[i]? with
    | none => rw [q] at h2; cases h2
    | some o => rw [q] at h2; cases h2
end
end L2

set_option Elab.async false
set_option linter.all false
set_option maxRecDepth 100000
set_option maxHeartbeats 4000000
namespace L2
open PySem PySem.Spec PyProof.Rows
/-! ### for i, x in enumerate(list) -/
theorem Inv.turned2 {X : Cx} {pins : List (Addr × Obj)} {σ : St} {H : Hp} {s : Shared} {h' : Heap} {t' : Nat} {e it a : Addr} {o : HO} (I : Inv X pins σ H s) (k : ∀ b u, b ≠ e → b ≠ it → s.heap.get? b = some u → h'.get? b = some u) (ha : s.heap.objs.size ≤ a) (fe : FpOk X pins H e) (fi : FpOk X pins H it)
    (new : ObjOk X.prog X.w (upd H a o) h' a o) : Inv X pins σ (upd H a o) { s with heap := h', toks := t' } := by
  have hn := I.hok.fresh ha
  have ne_ : ∀ b u, H b = some u → b ≠ e := fun b u q z => by rw [z, fe.1] at q; cases q
  have ni : ∀ b u, H b = some u → b ≠ it := fun b u q z => by rw [z, fi.1] at q; cases q
  have na : ∀ b u, H b = some u → b ≠ a := fun b u q z => by rw [z, hn] at q; cases q
  have ka : ∀ b u, H b = some u → upd H a o b = some u := fun b u q => by rw [upd_ne (na b u q)]; exact q
  have sa : ∀ b u, s.heap.get? b = some u → b ≠ a := fun b u q z => absurd (Nat.lt_of_lt_of_le (Heap.lt_size q) ha) (by rw [z]; exact Nat.lt_irrefl _)
  have mem : ∀ b, b ∉ [e, it] → b ≠ e ∧ b ≠ it := fun b hb => ⟨fun z => hb (by simp [z]), fun z => hb (by simp [z])⟩
  refine I.step (g' := s.gens) (d' := s.drawn) (ch := [e, it]) (fun b hb => ?_) (fun b u _ _ hc q _ => k b u (mem b hc).1 (mem b hc).2 q) (fun b u _ _ hc q _ => ⟨u.slots, k b u (mem b hc).1 (mem b hc).2 q⟩) (fun b u hc q n => by rw [upd_ne (sa b u q)]; exact n)
    (fun b u hc q => ⟨u, k b u (mem b hc).1 (mem b hc).2 q⟩) (fun b xs q => ka b _ q) (fun b _ _ q => ka b _ q) (fun b ps q => ⟨#[], by rw [ka b _ q]; simp⟩) (fun m hm => ?_) (fun b u q => ?_) I.bare
  · rcases List.mem_cons.mp hb with z | z
    · subst z
      exact ⟨fe.2.2.2.1, fe.2.1, fe.2.2.2.2.1, fe.2.2.2.2.2⟩
    · have z : b = it := by simpa using z
      subst z
      exact ⟨fi.2.2.2.1, fi.2.1, fi.2.2.2.2.1, fi.2.2.2.2.2⟩
  · obtain ⟨u, es, ep, ho, r⟩ := hm
    exact ⟨u, es, ep, k _ u (Ne.symm fe.2.1) (Ne.symm fi.2.1) ho, r⟩
  · by_cases hb : b = a
    · subst hb; rw [upd_same] at q; cases q; exact new
    · rw [upd_ne hb] at q
      refine (I.hok b u q).stay (fun c v hc y => ?_) (fun c y => ka c _ y) fun c xs y => ka c _ y
      rcases hc with z | z
      · rw [z]
        rw [z] at y
        exact k b v (ne_ b u q) (ni b u q) y
      · exact k c v (ne_ c _ z) (ni c _ z) y
def Ite (K : PySem.W.Frag) (a : Addr) : It :=
  ⟨fun i H => ∃ xs x, SqL K H a xs ∧ xs[i]? = some x, fun i H v H' => ∃ u x, v = .ref u ∧ H u = none ∧ H' = upd H u (.tup [.int (i : Int), x]) ∧ ∀ xs, SqL K H a xs → xs[i]? = some x, fun i H => ∃ xs, SqL K H a xs ∧ xs.length ≤ i⟩
theorem turn_enum {P : Program} {w : World} {K : PySem.W.Frag} {elts : List Expr} {x1} {pos : Pos} (a e it : Addr) (hei : e ≠ it) : Turn P w K (.Tuple elts x1 pos) (Ite K a) [e, it] e (fun i h => (∃ old, IsEnum h e it ((i : Nat) : Int) old) ∧ h.IsListIter it a i) where
  mem := by simp
  obj := fun i h st b hb => by
    obtain ⟨⟨old, he⟩, o, eo, c, d⟩ := st
    rcases List.mem_cons.mp hb with z | z
    · subst z
      exact ⟨_, he, fun v z => by
        have z' : Data.fields _ = Data.cell v := z
        cases z'⟩
    · have z : b = it := by simpa using z
      subst z
      exact ⟨o, eo, fun v z => by rw [d] at z; cases z⟩
  keep := fun i h h' st k => ⟨let ⟨old, he⟩ := st.1; ⟨old, k e (by simp) _ he⟩, st.2.at fun o q => k it (by simp) o q⟩
  item := by
    intro X hP hw hK hc i pins s σ H E I hf st hg
    subst hP hw hK
    obtain ⟨xs, x, hq, hx⟩ := hg
    obtain ⟨its, rv, p, hz⟩ := I.list hq
    obtain ⟨u, hu, ru⟩ := rv.get hx
    obtain ⟨⟨old, he⟩, hit⟩ := st
    have fe := hf e (by simp)
    have fi := hf it (by simp)
    have elt : e < s.heap.objs.size := Heap.lt_size he
    have ilt : it < s.heap.objs.size := by obtain ⟨_, q, _⟩ := hit; exact Heap.lt_size q
    have hn : H s.heap.objs.size = none := I.hok.fresh (Nat.le_refl _)
    refine wpAny_pyNext_enum_item he hit p.isList (x := u) (by simpa using hu) hei fun h' ho hit' hT hsz hk => ?_
    refine ⟨_, rfl, wpAny_letOwnedTupleGo_enum ho fun h2 he2 hs2 => ?_⟩
    replace hs2 : Heap.SameBut e h' h2 := hs2
    have hT2 : h2.get? s.heap.objs.size = some { cls := .type "tuple", data := .seq #[.int i s.toks, u] } := (hs2.2 _ (Nat.ne_of_gt elt)).trans hT
    have I1 : Inv X pins σ (upd H s.heap.objs.size (.tup [.int (i : Int), x])) { s with heap := h2, toks := s.toks + 1 } := I.turned2 (fun b o h1 h3 q => (hs2.2 b h1).trans (hk b o h1 h3 q)) (Nat.le_refl _) fe fi ⟨by show 2 ≤ sizeLine; decide, [.int i s.toks, u], .cons ⟨_, rfl⟩ (.cons ru .nil), ⟨_, hT2, rfl, _, rfl⟩⟩
    refine ⟨.ref s.heap.objs.size, _, I1, rfl, ⟨_, x, rfl, hn, rfl, fun ys hy => by rw [I.list_inj hy hq]; exact hx⟩, ⟨⟨u, by simpa using he2⟩, hit'.at fun o y => (hs2.2 it hei.symm).trans y⟩, fun b hb => ?_⟩
    have hb' : H b = none := (hf b hb).1
    have : b ≠ s.heap.objs.size := by
      rcases List.mem_cons.mp hb with z | z
      · rw [z]; exact Nat.ne_of_lt elt
      · have z : b = it := by simpa using z
        rw [z]; exact Nat.ne_of_lt ilt
    rw [upd_ne this]
    exact hb'
  done := by
    intro X hP hw hK hc i pins s σ H E I hf st hg
    subst hP hw hK
    obtain ⟨xs, hq, hx⟩ := hg
    obtain ⟨its, rv, p, hz⟩ := I.list hq
    obtain ⟨⟨old, he⟩, hit⟩ := st
    obtain ⟨f0, f1, f2, f3, f4, f5⟩ := hf it (by simp)
    have hl := rv.length
    exact wpAny_pyNext_enum_end (I.ok.hd hc) he hit p.isList (by simp; omega) fun h' eb => ⟨rfl, I.turned (t' := s.toks) (fun b o hb e => eb b o hb e) f0 f1 f3 f4 f5⟩
  self := fun A i s Q E st h => by
    obtain ⟨⟨old, he⟩, _⟩ := st
    exact wpAny_pyIter_enum he h
section
variable {X : Cx}
def iEnum (K : PySem.W.Frag) (ta : TA) : TI := fun σ H R => ta σ H fun xs H1 => ∃ a, xs = [.ref a] ∧ (∃ ys, SqL K H1 a ys) ∧ R (Ite K a) H1
theorem boot_enumerate : bootBuiltins "enumerate" = some (.type "enumerate") := by decide +kernel
theorem pi_enum {elts : List Expr} {x1} {tp : Pos} {l : Expr} {tl : TA} {p pos : Pos} (hg : Gl X "enumerate") (hm : X.mg "enumerate" = none) (hl : PA X [l] tl) (hs : starEach [l] X.env = [(false, eval l X.env)] := by rfl) : PI X (.Tuple elts x1 tp) (.Call (.Name "enumerate" p) [l] [] pos) (iEnum X.K tl) := by
  intro pins s σ H R I h
  refine Call_ (ld_blt I hg hm boot_enumerate (PyProof.Rows.callWith_type1 (thn (hl pos pins s σ H _ I h) fun us s1 ⟨vs, H1, I1, r1, q1⟩ => ?_) hs rfl))
  obtain ⟨a, rfl, ⟨ys, hq⟩, q⟩ := q1
  obtain ⟨u, rfl, ru⟩ := r1.one
  cases ru
  obtain ⟨its, rv, p, hz⟩ := I1.list hq
  refine call_enumerate_list p.isList fun h' he hit hsz hk => ?_
  refine wpAny_pyIter_enum he ?_
  refine ⟨s1.heap.objs.size + 1, [s1.heap.objs.size + 1, s1.heap.objs.size], _, _, H1, rfl, I1.kept (t' := s1.toks) hk, turn_enum a _ _ (Nat.succ_ne_self _), ⟨⟨_, he⟩, hit⟩, fun b hb => ?_, q⟩
  have : s1.heap.objs.size ≤ b := by
    rcases List.mem_cons.mp hb with z | z
    · rw [z]; omega
    · have z : b = s1.heap.objs.size := by simpa using z
      rw [z]
      exact Nat.le_refl _
  exact I1.fpOk this (I1.hok.fresh this)
theorem for_enum {K : PySem.W.Frag} {a : Addr} {xs : List V} {g : TG} {tb : TS} {D : Ends} {σ : St} {H : Hp} (Pv : Nat → St → Hp → Prop) (h0 : Pv 0 σ H) (hl : ∀ i σ H, i ≤ xs.length → Pv i σ H → SqL K H a xs)
    (hs : ∀ i x σ H u, xs[i]? = some x → Pv i σ H → H u = none → g (.ref u) σ (upd H u (.tup [.int (i : Int), x])) fun σ2 H2 => tb { D with nx := Pv (i + 1), ct := Pv (i + 1), bk := D.nx } σ2 H2) (hd : ∀ σ H, Pv xs.length σ H → D.nx σ H) :
    ∃ W : Nat → Nat → St → Hp → Prop, (∃ m, W 0 m σ H) ∧ ∀ i m σ H, W i m σ H →
      ((Ite K a).stop i H ∧ D.nx σ H) ∨ ((Ite K a).go i H ∧ ∃ N : St → Hp → Prop, (∀ σ' H', N σ' H' → ∃ m', m' < m ∧ W (i + 1) m' σ' H') ∧ ∀ x H', (Ite K a).yld i H x H' → g x σ H' fun σ2 H2 => tb { D with nx := N, ct := N, bk := D.nx } σ2 H2) := by
  refine ⟨fun i m σ H => m = xs.length - i ∧ i ≤ xs.length ∧ Pv i σ H, ⟨xs.length, by simp, Nat.zero_le _, h0⟩, ?_⟩
  rintro i m σ H ⟨rfl, hi, p⟩
  have q := hl i σ H hi p
  by_cases hlt : i < xs.length
  · refine .inr ⟨⟨xs, xs[i], q, by simp [hlt]⟩, Pv (i + 1), fun σ' H' p' => ⟨xs.length - (i + 1), by omega, rfl, hlt, p'⟩, fun v H' y => ?_⟩
    obtain ⟨u, x, rfl, hu, rfl, y⟩ := y
    exact hs i x σ _ u (y xs q) p hu
  · have e : i = xs.length := by omega
    subst e
    exact .inl ⟨⟨xs, q, Nat.le_refl _⟩, hd σ H p⟩
end
end L2

set_option Elab.async false
set_option linter.all false
set_option maxRecDepth 100000
set_option maxHeartbeats 4000000
namespace L2
open PySem PySem.Spec PyProof.Rows PySem.StrLaws
/-! ## texts: ''.join, in, <= -/
theorem strs_are : ∀ {ls : List (List Nat)} {us : List Value}, Vals (ls.map fun r => V.str (S r)) us → StrsAre us (ls.map S)
  | [], _, .nil => .nil
  | l :: ls, _, .cons r t => by
    obtain ⟨tk, rfl⟩ := r
    exact .cons _ tk (strs_are t)
theorem glue_S : ∀ (ls : List (List Nat)), Txt.join (S []) (ls.map S) = S ls.flatten := by
  intro ls
  refine (PySem.StrLaws.glued_eq_join (S []) (ls.map S)).trans ?_
  induction ls with
  | nil => rfl
  | cons l ls ih =>
    cases ls with
    | nil =>
      show S l = S [l].flatten
      simp
    | cons m ls =>
      show S l ++ S [] ++ Str.join (S []) ((m :: ls).map S) = _
      rw [ih, S_app, S_app]
      simp
theorem flat_len {ls : List (List Nat)} : ((ls.map S).map (·.length)).sum = ls.flatten.length := by
  rw [List.length_flatten, List.map_map]
  rfl
section
variable {X : Cx}
theorem mt_join : MtR X "str.join" (fun x vs H Q => ∃ (p : Addr) (ls : List (List Nat)), x = .str (S []) ∧ vs = [.ref p] ∧ SqL X.K H p (ls.map fun r => V.str (S r)) ∧ ls.flatten.length ≤ 1000000 ∧ Q (.str (S ls.flatten)) H) := by
  intro pins s σ H x vs v us Q I rx rv h
  obtain ⟨p, ls, rfl, rfl, hq, hl, q⟩ := h
  obtain ⟨t, rfl⟩ := rx
  obtain ⟨u, rfl, ru⟩ := rv.one
  cases ru
  obtain ⟨its, r, pl, hz⟩ := I.list hq
  refine join_list (items := its.toArray) (ys := ls.map S) pl.isList (by simpa using strs_are r) ?_ fun t' k => ?_
  · rw [flat_len]
    show _ + _ * 0 ≤ _
    omega
  · exact ⟨.str (S ls.flatten), H, I.tok _, ⟨t', by rw [glue_S]⟩, q⟩
theorem found_S (l : List Nat) (c : Nat) : (!(Builtin.Str.occurrences (S l) (S [c]) 0 (S l).length 1).isEmpty) = decide (c ∈ l) := by
  rw [Bool.eq_iff_iff, found_iff, decide_eq_true_iff]
  constructor
  · rintro ⟨i, h⟩
    exact List.mem_of_getElem? ((subAt_one (S l) c i).mp h)
  · intro h
    obtain ⟨i, hi⟩ := List.mem_iff_getElem?.mp h
    exact ⟨i, (subAt_one (S l) c i).mpr hi⟩
theorem op_in1 : OpR X (compareOp .In) (fun x y H Q => ∃ (c : Nat) (l : List Nat), x = .str (S [c]) ∧ y = .str (S l) ∧ Q (.bl (decide (c ∈ l))) H) := by
  intro pins s σ H x y v u Q I rx ry h
  obtain ⟨c, l, rfl, rfl, q⟩ := h
  exact op_in_str pins s σ H _ _ v u Q I rx ry ⟨S [c], S l, rfl, rfl, by rw [found_S]; exact q⟩
end
end L2

set_option Elab.async false
set_option linter.all false
set_option maxRecDepth 100000
set_option maxHeartbeats 4000000
namespace L2
open PySem PySem.Spec PyProof.Rows
/-! ### name = comprehension -/
section
variable {X : Cx} {scope : Scope} {cl : List (Str × Addr)} {NB : List Str} {ix : List (Option Nat)} {fp : List Addr} {pins : List (Addr × Obj)} {σ : St} {H : Hp} {s : Shared}
theorem ps_setC {i : Nat} {y : Str} {py spos : Pos} {elt iter : Expr} {x : Str} {px : Pos} {ifs : List Expr} {pos : Pos} {wi : TI} {g : TG} {tc : TT} {te : TE} (NB : List Str) (ix : List (Option Nat)) (cl : List (Str × Addr)) (hN : X.N.Nodup) (hi' : X.N[i]? = some y) (hx' : Loc X.env.scope y) (hc : X.calm = true) (hb : ClOk X scope cl NB ix) (hi : PI X (.Name x px) iter wi)
    (hg : ∀ C fp s3 H3, PG (blk X scope cl NB C fp s3 H3) (.Name x px) g) (ht : ∀ C fp s3 H3, PIf (blk X scope cl NB C fp s3 H3) ifs tc) (he : ∀ C fp s3 H3, PE (blk X scope cl NB C fp s3 H3) elt te)
    (hs : ∀ x, foldedSetIterable iter X.env x = pure x := by intro _; rfl) (hsw : swapsWith (.ListComp elt [⟨.Name x px, iter, ifs, 0⟩] scope pos) (some (.Name y py)) spos.line X.env = pure true := by rfl)
    (hf' : X.fn y = true ∨ X.env.scope.names.lookup y = some .local := by first | exact .inl rfl | exact .inr rfl | assumption) : PS X (.Assign [.Name y py] (.ListComp elt [⟨.Name x px, iter, ifs, 0⟩] scope pos) spos) (tAsg (tComp ix wi g tc te) (gName i)) := by
  intro pins s σ H DE I h
  rw [exec_Assign_Name_used _ _ _ _ hsw]
  refine wpAny_bind (wpAny_standAt (wpAny_bind ?_))
  show wpAny _ X.A (do let _ ← comprehension (.ListComp elt [⟨.Name x px, iter, ifs, 0⟩] scope pos) scope X.env _ (newList []) false (eval iter X.env) (some (assign (.Name y py) X.env))) _ _ s
  refine wpAny_bind (wpAny_mono (wpAny_comprehension_free (use := some (assign (.Name y py) X.env)) (Q := fun _ s' => SP X pins DE .next s') rfl hs hb.clos hb.kind hb.names
    (thn (hi pins s σ H _ I h) fun v s1 h1 => thn h1 fun itv s2 h2 => ?_)) (fun _ s' hq => wpAny_pure (wpAny_pure hq)) fun _ _ e => e)
  obtain ⟨it, fp, tn, J, H2, e, I2, T, st2, f2, turn0⟩ := h2
  subst e
  have hD : H2 s2.heap.objs.size = none := I2.hok.fresh (Nat.le_refl _)
  obtain ⟨W, ⟨m0, w0⟩, turn⟩ := turn0 _ hD
  have flt : ∀ b ∈ fp, b < s2.heap.objs.size := fun b z => let ⟨o, e, _⟩ := T.obj _ _ st2 b z; Heap.lt_size e
  refine wpAny_newObj_type (wpAny_newFunctionEnv hb.cell (by intro y hy; simp at hy) (fun h₁ hns₁ hsb₁ => ?_) hb.kind)
  dsimp only at hns₁ hsb₁ ⊢
  have I3 := I2.lnew (ys := []) (its := []) (t' := s2.toks) .nil (Nat.zero_le _)
  have hsz3 : (s2.heap.push { cls := .type "list", data := .seq ([] : List Value).toArray }).objs.size = s2.heap.objs.size + 1 := Heap.size_push ..
  have fp3 : ∀ b ∈ fp, FpOk X pins (upd H2 s2.heap.objs.size (.lst [])) b := fun b z => ⟨by rw [upd_ne (Nat.ne_of_lt (flt b z))]; exact (f2 b z).1, (f2 b z).2⟩
  have flt3 : ∀ b ∈ fp, b < (s2.heap.push { cls := .type "list", data := .seq ([] : List Value).toArray }).objs.size := fun b z => by rw [hsz3]; exact Nat.lt_succ_of_lt (flt b z)
  have k3 : ∀ b o, (s2.heap.push { cls := .type "list", data := .seq ([] : List Value).toArray }).get? b = some o → h₁.get? b = some o := fun b o e => hsb₁.extBut b o (Nat.ne_of_lt (Heap.lt_size e)) (Heap.get?_push_of_some _ e)
  have J0 := blk_inv hb I3 fp3 flt3 (h' := h₁) (t' := s2.toks + ([] : List (Str × Value)).length) hns₁ k3
  have st3 : tn 0 h₁ := T.keep _ _ _ st2 fun b z o e => k3 b o (Heap.get?_push_of_some _ e)
  have loop : ∀ s4 : Shared, s4 = { s2 with heap := h₁, toks := s2.toks + ([] : List (Str × Value)).length } →
      codeAny (model X.prog X.w) X.A (.compLoop (.ListComp elt [⟨.Name x px, iter, ifs, 0⟩] scope pos) 0 (.ref it) (.ref s2.heap.objs.size) (compEnvC scope cl (s2.heap.push { cls := .type "list", data := .seq ([] : List Value).toArray }).objs.size X.env))
        (compPost (model X.prog X.w) X.A X.xe (some (assign (.Name y py) X.env)) (fun _ s' => SP X pins DE .next s') (.ref s2.heap.objs.size) (s2.heap.push { cls := .type "list", data := .seq ([] : List Value).toArray }).objs.size) s4 := by
    rintro s4 rfl
    have J0' : Inv (blk X scope cl NB (s2.heap.push { cls := .type "list", data := .seq ([] : List Value).toArray }).objs.size fp _ _) pins _ _ _ := J0
    generalize hC : (s2.heap.push { cls := .type "list", data := .seq ([] : List Value).toArray }).objs.size = C at *
    refine codeAny_compLoop_tests (fun n s' => ∃ i σ' H', Inv (blk X scope cl NB C fp { s2 with heap := s2.heap.push { cls := .type "list", data := .seq ([] : List Value).toArray } } (upd H2 s2.heap.objs.size (.lst []))) pins σ' H' s' ∧ tn i s'.heap ∧ (∀ b ∈ fp, H' b = none) ∧ W i n σ' H') ?_ m0 ⟨0, _, _, J0', st3, fun b z => (fp3 b z).1, w0⟩
    rintro n s5 ⟨i, σ5, H5, I5, st5, fr5, w5⟩
    have stat : ∀ {H' : Hp}, (∀ b ∈ fp, H' b = none) → ∀ b ∈ fp, FpOk (blk X scope cl NB C fp { s2 with heap := s2.heap.push { cls := .type "list", data := .seq ([] : List Value).toArray } } (upd H2 s2.heap.objs.size (.lst []))) pins H' b := fun hn b z => by
      obtain ⟨_, f1, f2', f3, f4, f5⟩ := fp3 b z
      exact ⟨hn b z, Nat.ne_of_lt (flt3 b z), fun q => I5.ok.exfs b z q, .inl z, fun y c e => f4 y c (hb.sub y c e), f5⟩
    rcases turn i n σ5 H5 w5 with ⟨stop, qn⟩ | ⟨go, N, hN, step⟩
    · refine wpAny_mono (T.done (blk X scope cl NB C fp { s2 with heap := s2.heap.push { cls := .type "list", data := .seq ([] : List Value).toArray } } (upd H2 s2.heap.objs.size (.lst []))) rfl rfl rfl hc i pins s5 σ5 H5 (fun _ _ => False) I5 (stat fr5) st5 stop) (fun r s6 ⟨hr, I6⟩ => ?_) fun _ _ z => z.elim
      subst hr
      obtain ⟨m6, hn6, _⟩ := id I6.loc
      have I6' : Inv X pins σ H5 { s6 with heap := s6.heap } := blk_back I3 (Nat.le_of_eq hC) fp3 I6 ⟨rfl, fun _ _ => rfl⟩
      have hCz : (s2.heap.push { cls := .type "list", data := .seq ([] : List Value).toArray }).objs.size = C := hC
      have nL : X.env.locals ≠ C := by
        obtain ⟨m0', hn0, _⟩ := I3.loc
        exact fun z => absurd (hn0.lt) (by rw [z]; show ¬ C < _; rw [← hCz]; exact Nat.lt_irrefl _)
      have nC : ∀ x c, X.env.cells.lookup x = some c → c ≠ C := fun x c e z => by
        obtain ⟨v, o, ho, _⟩ := I3.cell x c e
        exact absurd (Heap.lt_size ho) (by rw [z, ← hCz]; exact Nat.lt_irrefl _)
      refine wpAny_assign_Name (store_ok2 (v := .ref s2.heap.objs.size) I6' hN hi' hx' rfl (fun s7 I7 ⟨a, sb, ha⟩ => ?_) hf')
      have na : a ≠ C := ha.elim (fun z => z ▸ nL) fun z => nC _ _ z
      refine ⟨m6, hn6.sameBut sb (Ne.symm na), fun h' hs' => ?_⟩
      exact ⟨_, H5, I7.turned (t' := s7.toks) (it := C) (fun b o hb e => (hs'.2 b hb).trans e) I6.free (Ne.symm nL) (.inr (by rw [← hCz]; exact I3.sz)) nC (fun p hp z => absurd (Heap.lt_size (I3.pin p hp).1) (by rw [z, ← hCz]; exact Nat.lt_irrefl _)), qn⟩
    · refine wpAny_mono (T.item (blk X scope cl NB C fp { s2 with heap := s2.heap.push { cls := .type "list", data := .seq ([] : List Value).toArray } } (upd H2 s2.heap.objs.size (.lst []))) rfl rfl rfl hc i pins s5 σ5 H5 (fun _ _ => False) I5 (stat fr5) st5 go) (fun r s6 ⟨u, hr, h6⟩ => ?_) fun _ _ z => z.elim
      subst hr
      show wpAny _ _ (pure () >>= fun _ => assign (.Name x px) _ u) _ _ s6
      refine wpAny_bind (wpAny_mono h6 (fun _ s7 ⟨y, H7, I7, r7, y7, st7, fr7⟩ => ?_) fun _ _ z => z.elim)
      have I7' := I7.pinned (stat fr7) (T.obj _ _ st7)
      refine wpAny_mono (hg _ _ _ _ _ s7 σ5 H7 y u _ I7' r7 (step y H7 y7)) (fun _ s8 ⟨σ8, H8, I8, q8⟩ => ?_) fun _ _ z => z.elim
      refine wpAny_mono (ht _ _ _ _ _ s8 σ8 H8 _ I8 q8) (fun ok s9 ⟨H9, I9, q9⟩ => ?_) fun _ _ z => z.elim
      have again : ∀ {s' : Shared} {H' : Hp}, Inv (blk X scope cl NB C fp { s2 with heap := s2.heap.push { cls := .type "list", data := .seq ([] : List Value).toArray } } (upd H2 s2.heap.objs.size (.lst []))) (pins ++ pinsAt fp s7.heap) σ8 H' s' → N σ8 H' → ∃ m, m < n ∧ ∃ i σ' H', Inv (blk X scope cl NB C fp { s2 with heap := s2.heap.push { cls := .type "list", data := .seq ([] : List Value).toArray } } (upd H2 s2.heap.objs.size (.lst []))) pins σ' H' s' ∧ tn i s'.heap ∧ (∀ b ∈ fp, H' b = none) ∧ W i m σ' H' := fun {s' H'} I' n' => by
        obtain ⟨m', hm, w'⟩ := hN _ _ n'
        refine ⟨m', hm, i + 1, _, H', I'.unpinned, T.keep _ _ _ st7 fun b z o e => (I'.pin (b, o) (List.mem_append_right _ (List.mem_append_right _ (mem_pinsAt z e)))).1, fun b z => ?_, w'⟩
        obtain ⟨o, e, d⟩ := T.obj _ _ st7 b z
        exact (I'.pin (b, o) (List.mem_append_right _ (List.mem_append_right _ (mem_pinsAt z e)))).2.1
      cases ok with
      | false => exact again I9 q9
      | true =>
        rw [if_pos rfl] at q9 ⊢
        refine wpAny_mono (he _ _ _ _ _ s9 σ8 H9 _ I9 q9) (fun w s10 ⟨z, H10, I10, r10, ys, hD10, hz10, n10⟩ => ?_) fun _ _ z => z.elim
        refine wpAny_mono (mt_append (X := (blk X scope cl NB C fp { s2 with heap := s2.heap.push { cls := .type "list", data := .seq ([] : List Value).toArray } } (upd H2 s2.heap.objs.size (.lst [])))) _ s10 σ8 H10 (.ref s2.heap.objs.size) [z] _ [w] (fun _ H' => H' = upd H10 s2.heap.objs.size (.lst (ys ++ [z]))) I10 rfl (.cons r10 .nil) ⟨_, ys, z, rfl, rfl, hD10, hz10, rfl⟩) (fun _ s11 ⟨_, H11, I11, _, e11⟩ => ?_) fun _ _ z => z.elim
        subst e11
        exact again I11 n10
  exact codeAny_compStart_list (loop _ rfl) (T.self _ 0 _ _ _ st3 (loop _ rfl))
theorem turn_N {Pv : St → Hp → Prop} {μ : St → Hp → Nat} {σ : St} {H : Hp} : ∀ σ' H', (Pv σ' H' ∧ μ σ' H' < μ σ H) → ∃ m', m' < μ σ H ∧ m' = μ σ' H' ∧ Pv σ' H' := fun _ _ h => ⟨_, h.2, rfl, h.1⟩
theorem while_in {c : TT} {tb : TS} {D : Ends} {σ : St} {H : Hp} (Pv : St → Hp → Prop) (μ : St → Hp → Nat) (h0 : Pv σ H)
    (hs : ∀ σ H, Pv σ H → c σ H fun b H1 => if b = true then ∃ N : St → Hp → Prop, (∀ σ' H', N σ' H' → ∃ m', m' < μ σ H ∧ m' = μ σ' H' ∧ Pv σ' H') ∧ tb { D with nx := N, ct := N, bk := D.nx } σ H1 else D.nx σ H1) : tWhile c tb D σ H := by
  refine ⟨fun m σ H => m = μ σ H ∧ Pv σ H, ⟨_, rfl, h0⟩, ?_⟩
  rintro m σ H ⟨rfl, p⟩
  exact hs σ H p
theorem gname_go {i : Nat} {v : V} {σ : St} {H : Hp} {Q : St → Hp → Prop} (h : Q (σ.set i (some v)) H) : gName i v σ H Q := h
theorem seq_at {t u : TS} {D : Ends} {σ : St} {H : Hp} {r : VK} {b c : St → Hp → Prop} (h : tSeq t u D σ H) : ({ nx := tSeq t u D, rt := r, bk := b, ct := c } : Ends).nx σ H := h
theorem seq_to {t u : TS} {D : Ends} {σ : St} {H : Hp} (Out : St → Hp → Prop) (hs : ∀ nx : St → Hp → Prop, (∀ σ H, Out σ H → nx σ H) → t { D with nx := nx } σ H) (fin : ∀ σ H, Out σ H → u D σ H) : tSeq t u D σ H := hs _ fin
end
end L2

set_option Elab.async false
set_option linter.all false
set_option maxRecDepth 100000
set_option maxHeartbeats 4000000
namespace L2
open PySem PySem.Spec PyProof.Rows PySem.StrLaws
section
variable {X : Cx}
end
end L2

set_option Elab.async false
set_option linter.all false
set_option maxRecDepth 100000
set_option maxHeartbeats 4000000
namespace L2
open PySem PySem.Spec PyProof.Rows
/-! ## range with a step; list(range(..)) -/
section
variable {X : Cx} {tg : Expr}
/-! a comprehension over a range -/
theorem comp_range {lo : Int} {n : Nat} {D : Addr} {ix : List (Option Nat)} {g : TG} {tc : TT} {te : TE} {σ : St} {H : Hp} {Q : VK} (Pv : Nat → St → Hp → Prop) (h0 : Pv 0 (around ix σ) (upd H D (.lst [])))
    (hs : ∀ i σ H, i < n → Pv i σ H → g (.int (lo + i)) σ H fun σ2 H2 => tc σ2 H2 fun b H3 => if b = true then te σ2 H3 fun y H4 => ∃ ys, H4 D = some (.lst ys) ∧ ys.length < sizeLine ∧ Pv (i + 1) σ2 (upd H4 D (.lst (ys ++ [y]))) else Pv (i + 1) σ2 H3)
    (hd : ∀ σ H, Pv n σ H → Q (.ref D) H) :
    CompW (Itr lo n) D (around ix σ) (upd H D (.lst [])) g tc te Q := by
  refine ⟨fun i m σ H => m = n - i ∧ i ≤ n ∧ Pv i σ H, ⟨n, by simp, Nat.zero_le _, h0⟩, ?_⟩
  rintro i m σ H ⟨rfl, hi, p⟩
  by_cases hlt : i < n
  · refine .inr ⟨hlt, Pv (i + 1), fun σ' H' p' => ⟨n - (i + 1), by omega, rfl, hlt, p'⟩, fun x H' y => ?_⟩
    obtain ⟨e, y⟩ := y
    subst e y
    exact hs i σ _ hlt p
  · have e : i = n := by omega
    subst e
    exact .inl ⟨Nat.le_refl _, hd σ H p⟩
/-! the range as an object -/
end
end L2

set_option Elab.async false
set_option linter.all false
set_option maxRecDepth 100000
set_option maxHeartbeats 4000000
namespace L2
/-! ## brackets of one kind: the walk and the heap -/
/-! ## the three kinds -/
end L2

set_option Elab.async false
set_option linter.all false
set_option maxRecDepth 100000
set_option maxHeartbeats 4000000
namespace L2
open PySem PySem.Spec PyProof.Rows
/-! ### lists of pairs as tables -/
section
variable {κ : Type} [DecidableEq κ]
end


/-! ### a tracked dict, its keys ints and texts or tuples of these -/
section
variable {P : Program} {w : World} {H : Hp} {h : Heap} {a : Addr}
end

section
variable {X : Cx} {pins : List (Addr × Obj)} {σ : St} {H : Hp} {s : Shared} {a : Addr} {y v : V} {u r : Value} {o : Option V} {A : Around} {E : Value → Shared → Prop}

end

section
variable {X : Cx} {pins : List (Addr × Obj)} {σ : St} {H : Hp} {s : Shared} {a : Addr} {kvs : List (Key × V)} {k : Key} {u : Value} {A : Around} {E : Value → Shared → Prop}
end


/-! ### readings and rules -/
section
variable {X : Cx} {o i e value : Expr} {pos pos' tpos : Pos} {td ty tv : TE}
end


/-! ### displays -/
section
variable {X : Cx} {pos : Pos}
end

/-! ### methods -/
section
variable {X : Cx} {pins : List (Addr × Obj)} {σ : St} {H : Hp} {s : Shared} {a : Addr} {y d : V} {u r : Value} {o : Option V} {A : Around} {E : Value → Shared → Prop}
end

section
variable {X : Cx} {o e f : Expr} {apos cpos : Pos} {td ty tx : TE}
end

/-! ### dict(d): a copy -/
section
variable {X : Cx} {pins : List (Addr × Obj)} {σ : St} {H : Hp} {s : Shared} {a : Addr} {kvs : List (Key × V)} {A : Around} {E : Value → Shared → Prop}
end


section
variable {X : Cx} {pins : List (Addr × Obj)} {σ : St} {H : Hp} {s : Shared} {a : Addr} {y : V} {u : Value} {A : Around} {E : Value → Shared → Prop}
end
section
variable {X : Cx}
end
end L2

set_option Elab.async false
set_option linter.all false
set_option maxRecDepth 100000
set_option maxHeartbeats 4000000
namespace L2
open PySem PySem.Spec PyProof.Rows
theorem Room.u1 {k : Nat} {A : Around} (r : Room k A) : A.units + 1 < cLine := by have := r.units; omega
/-! ## defs with defaults -/
structure FunD (K : PySem.W.Frag) (x qual : Str) (st : Stmt) (dV : Value) (f : Addr) (fd : FuncData) : Prop where
  ex : ∃ (oc : Value) (od : Option Addr) (kV doc pm : Value) (an : Option Addr) (cdv ct : Value) (osl : Array (Option Value)),
    fd = PySem.W.fnOf x qual (defArgs st) (defBody st) (defScope st) dV kV doc pm an cdv ct ∧ K.lookup f = some ⟨oc, od, .func fd, osl⟩ ∧ PySem.W.codeIn K cdv qual = true
  kp : PySem.W.keepIn K (.ref f) = true
section
variable {P : Program} {w : World} {K : PySem.W.Frag} {mg : Str → Option Value} {base : Heap}
theorem FunD.ok {x qual : Str} {st : Stmt} {dV : Value} {f : Addr} {fd : FuncData} {N ps : List Str} {k : Nat} {sp : Sp} (F : FunD K x qual st dV f fd) (S : FnScope N ps (defScope st)) (len : ∀ vs H Q E, sp vs H Q E → vs.length = ps.length)
    (hbody : ∀ (cdv : Value) (A : Around) (outer : List Env) (s : Shared) (H : Hp) (vs : List V) (Q : VK) (E : XK), Room k (A.deeper (envOfC qual (defScope st) s.heap.objs.size f cdv)) → sp vs H Q E →
      ∃ t, PSs (cxOf CX0 P w K mg base N qual (defScope st) f cdv A outer s H E).nox (defBody st) t ∧ t { nx := fun _ H' => Q .non H', rt := Q } (start N vs) H) : FnOk P w K mg base CX0 (k + 1) f fd ps sp := by
  obtain ⟨oc, od, kV, doc, pm, an, cdv, ct, osl, rfl, lk, hcd⟩ := F.ex
  refine fn_of lk hcd S len fun A outer s H vs Q E hr hsp => ?_
  obtain ⟨t, h, q⟩ := hbody cdv A outer s H vs Q E hr hsp
  exact ⟨t, h.nox, q⟩
theorem funD_mk {x qual : Str} {st : Stmt} {dV : Value} {f : Addr} {oc : Value} {od an : Option Addr} {osl : Array (Option Value)} {kV doc pm cdv ct : Value} (l : K.lookup f = some ⟨oc, od, .func (PySem.W.fnOf x qual (defArgs st) (defBody st) (defScope st) dV kV doc pm an cdv ct), osl⟩)
    (c : PySem.W.codeIn K cdv qual = true) (k : PySem.W.keepIn K (.ref f) = true) : FunD K x qual st dV f (PySem.W.fnOf x qual (defArgs st) (defBody st) (defScope st) dV kV doc pm an cdv ct) := ⟨⟨oc, od, kV, doc, pm, an, cdv, ct, osl, rfl, l, c⟩, k⟩
structure OwnD (P : Program) (w : World) (K : PySem.W.Frag) (mg : Str → Option Value) (base : Heap) (CX : CXT) (k : Nat) (x : Str) (ps : List Str) (sp : Sp) (dvs : List V) : Prop where
  ex : ∃ f fd ds, FnOk P w K mg base CX k f fd ps sp ∧ Binds K fd ps ds ∧ Vals dvs ds ∧ PySem.W.keepIn K (.ref f) = true ∧ mg x = some (.ref f)
end
section
variable {X : Cx} {CX : CXT} {j k : Nat} {ps : List Str} {sp : Sp} {dvs : List V} {E : XK} {x : Str} {p pos : Pos} {e : Expr} {es : List Expr} {t : TA}
theorem pe_ownD (O : OwnD X.prog X.w X.K X.mg X.base CX j x ps sp dvs) (hr : Room k X.A) (hg : Gl X x) (hx : Passes CX X E) (ha : PA X (e :: es) t) (hj : j ≤ k := by decide) (hdb : (x == ("__debug__" : Str)) = false := by decide)
    (he : starEach (e :: es) X.env = (false, eval e X.env) :: starEach es X.env := by rfl) (hpl : (backTo pos (starEach es X.env)).any (·.1) = false := by rfl) : PE X (.Call (.Name x p) (e :: es) [] pos) (tCall sp dvs E t) := by
  obtain ⟨f, fd, ds, F, b, v, kp, m⟩ := O.ex
  exact pe_call F (hr.mono hj) hg m kp b v hx ha hdb he hpl
end
/-! ## a call of what an expression tells -/
section
variable {X : Cx} {CX : CXT} {k : Nat} {E : XK} {func e : Expr} {es : List Expr} {pos : Pos} {tf : TE} {t : TA}
end
/-! ## a dict of the module: texts to objects -/
section
variable {prog : Program} {w : World} {K : PySem.W.Frag} {a : Addr} {ps : List (List Nat × Tok × Addr)}
end
section
variable {X : Cx} {o i : Expr} {td ty : TE} {pos : Pos}
end
end L2

set_option Elab.async false
set_option linter.all false
set_option maxRecDepth 100000
set_option maxHeartbeats 4000000
namespace L2
/-! ## the row of a place -/
def IsRow (l : List Nat) (p b e : Nat) : Prop := b ≤ p ∧ p ≤ e ∧ e ≤ l.length ∧ (∀ j, b ≤ j → j < e → l[j]? ≠ some 10) ∧ (b = 0 ∨ (0 < b ∧ l[b - 1]? = some 10)) ∧ (e = l.length ∨ l[e]? = some 10)
def rno (l : List Nat) (p : Nat) : Nat := (l.take p).count 10
def rb (l : List Nat) (p : Nat) : Nat := begAt l (rno l p)
def re (l : List Nat) (p : Nat) : Nat := endAt l (rno l p)
theorem occs_has {l : List Nat} {j : Nat} : j ∈ occs l ↔ l[j]? = some 10 := by
  unfold occs
  rw [List.mem_filter, List.mem_range]
  constructor
  · rintro ⟨_, h⟩
    exact beq_iff_eq.mp h
  · intro h
    exact ⟨(List.getElem?_eq_some_iff.mp h).1, beq_iff_eq.mpr h⟩
theorem occs_take (l : List Nat) {p : Nat} (h : p ≤ l.length) : occs (l.take p) = (occs l).filter (· < p) := by
  unfold occs
  rw [List.length_take, Nat.min_eq_left h, List.filter_filter]
  have e : List.range l.length = List.range p ++ (List.range (l.length - p)).map (p + ·) := by
    rw [← List.range_add]
    congr 1
    omega
  rw [e, List.filter_append]
  have e2 : List.filter (fun a => decide (a < p) && l[a]? == some 10) ((List.range (l.length - p)).map (p + ·)) = [] := by
    rw [List.filter_eq_nil_iff]
    intro a ha
    obtain ⟨b, _, rfl⟩ := List.mem_map.mp ha
    rw [decide_eq_false (by omega), Bool.false_and]
    exact Bool.false_ne_true
  rw [e2, List.append_nil]
  refine List.filter_congr fun i hi => ?_
  have hi' := List.mem_range.mp hi
  rw [decide_eq_true hi', Bool.true_and, List.getElem?_take_of_lt hi']
theorem rno_eq (l : List Nat) {p : Nat} (h : p ≤ l.length) : rno l p = ((occs l).filter (· < p)).length := by
  unfold rno
  rw [← occs_len, occs_take l h]
theorem rising_lt {p : Nat} : ∀ {xs : List Nat} {i x : Nat}, xs.Pairwise (· < ·) → xs[i]? = some x → (x < p ↔ i < (xs.filter (· < p)).length)
  | [], i, x, _, h => by simp at h
  | y :: xs, i, x, hp, h => by
    rw [List.pairwise_cons] at hp
    rw [List.filter_cons]
    by_cases hy : y < p
    · rw [if_pos (by simpa using hy), List.length_cons]
      cases i with
      | zero =>
        have : y = x := by simpa using h
        subst this
        exact ⟨fun _ => by omega, fun _ => hy⟩
      | succ i =>
        have ih := rising_lt (p := p) (i := i) (x := x) hp.2 (by simpa using h)
        rw [ih]
        omega
    · rw [if_neg (by simpa using hy)]
      have hno : xs.filter (· < p) = [] := by
        rw [List.filter_eq_nil_iff]
        intro z hz
        have := hp.1 z hz
        simp
        omega
      rw [hno]
      cases i with
      | zero =>
        have : y = x := by simpa using h
        subst this
        exact ⟨fun z => absurd z hy, fun z => absurd z (Nat.not_lt_zero _)⟩
      | succ i =>
        have hx : x ∈ xs := List.mem_of_getElem? (by simpa using h)
        have := hp.1 x hx
        exact ⟨fun z => by omega, fun z => absurd z (Nat.not_lt_zero _)⟩
theorem occ_lt {l : List Nat} {p i x : Nat} (h : p ≤ l.length) (hx : (occs l)[i]? = some x) : x < p ↔ i < rno l p := by
  rw [rno_eq l h]
  exact rising_lt (occs_sorted l) hx
theorem rno_le (l : List Nat) {p : Nat} (h : p ≤ l.length) : rno l p ≤ l.count 10 := by
  unfold rno
  exact List.Sublist.count_le _ (List.take_sublist _ _)
theorem stop_occ {l : List Nat} {i : Nat} (h : i < l.count 10) : ∃ x, (occs l)[i]? = some x ∧ endAt l i = x := by
  have hi : i < (occs l).length := by rw [occs_len]; exact h
  refine ⟨(occs l)[i], List.getElem?_eq_getElem hi, ?_⟩
  unfold endAt stops
  rw [List.getD_eq_getElem?_getD, List.getElem?_append_left hi, List.getElem?_eq_getElem hi]
  rfl
theorem stop_last (l : List Nat) : endAt l (l.count 10) = l.length := by
  unfold endAt stops
  rw [List.getD_eq_getElem?_getD, List.getElem?_append_right (by rw [occs_len]; omega), occs_len, Nat.sub_self]
  rfl
theorem row_is {l : List Nat} {p : Nat} (h : p ≤ l.length) : IsRow l p (rb l p) (re l p) := by
  have hr := rno_le l h
  have hb : rb l p ≤ p ∧ (rb l p = 0 ∨ (0 < rb l p ∧ l[rb l p - 1]? = some 10)) ∧ ∀ i x, (occs l)[i]? = some x → rb l p ≤ x → rno l p ≤ i := by
    unfold rb
    cases e : rno l p with
    | zero => exact ⟨Nat.zero_le _, .inl rfl, fun i x _ _ => Nat.zero_le _⟩
    | succ r =>
      obtain ⟨x, h1, h2⟩ := stop_occ (l := l) (i := r) (by omega)
      have hx := (occ_lt h h1).mpr (by omega)
      have eb : begAt l (r + 1) = x + 1 := by show endAt l r + 1 = x + 1; rw [h2]
      rw [eb]
      refine ⟨by omega, .inr ⟨by omega, ?_⟩, fun i y hi hy => ?_⟩
      · rw [show x + 1 - 1 = x by omega]
        exact occs_has.mp (List.mem_of_getElem? h1)
      · rcases Nat.lt_or_ge i (r + 1) with z | z
        · exfalso
          rcases Nat.lt_or_eq_of_le (Nat.le_of_lt_succ z) with z' | z'
          · have s := occs_sorted l
            obtain ⟨a1, a2⟩ := List.getElem?_eq_some_iff.mp hi
            obtain ⟨b1, b2⟩ := List.getElem?_eq_some_iff.mp h1
            have := (List.pairwise_iff_getElem.mp s) i r a1 b1 z'
            omega
          · subst z'
            rw [h1] at hi
            cases hi
            omega
        · exact z
  have he : p ≤ re l p ∧ re l p ≤ l.length ∧ (re l p = l.length ∨ l[re l p]? = some 10) ∧ ∀ i x, (occs l)[i]? = some x → x < re l p → i < rno l p := by
    unfold re
    rcases Nat.lt_or_eq_of_le hr with z | z
    · obtain ⟨x, h1, h2⟩ := stop_occ (l := l) (i := rno l p) z
      have hx := occ_lt h h1
      rw [h2]
      have m := occs_has.mp (List.mem_of_getElem? h1)
      have hlt := (List.getElem?_eq_some_iff.mp m).1
      refine ⟨?_, by omega, .inr m, fun i y hi hy => ?_⟩
      · rcases Nat.lt_or_ge x p with q | q
        · exact absurd (hx.mp q) (Nat.lt_irrefl _)
        · exact q
      · rcases Nat.lt_or_ge i (rno l p) with q | q
        · exact q
        · exfalso
          rcases Nat.lt_or_eq_of_le q with q' | q'
          · have s := occs_sorted l
            obtain ⟨a1, a2⟩ := List.getElem?_eq_some_iff.mp hi
            obtain ⟨b1, b2⟩ := List.getElem?_eq_some_iff.mp h1
            have := (List.pairwise_iff_getElem.mp s) _ i b1 a1 q'
            omega
          · subst q'
            rw [h1] at hi
            cases hi
            omega
    · rw [z, stop_last]
      refine ⟨h, Nat.le_refl _, .inl rfl, fun i y hi _ => ?_⟩
      have := (List.getElem?_eq_some_iff.mp hi).1
      rw [occs_len] at this
      exact this
  refine ⟨hb.1, he.1, he.2.1, fun j h1 h2 hj => ?_, hb.2.1, he.2.2.1⟩
  obtain ⟨i, hi⟩ := List.mem_iff_getElem?.mp (occs_has.mpr hj)
  have a := hb.2.2 i j hi h1
  have b := he.2.2.2 i j hi h2
  omega
end L2
namespace L2
theorem col_eq {l : List Nat} {p : Nat} (h : p ≤ l.length) : colF (l.take p) = ((p - rb l p : Nat) : Int) := by
  obtain ⟨h1, h2, h3, h4, h5, h6⟩ := row_is h
  unfold colF
  rw [List.length_take, Nat.min_eq_left h]
  have none_at : ∀ j, rb l p ≤ j → ¬ (l.take p)[j]? = some 10 := fun j hj z => by
    by_cases hp : j < p
    · rw [List.getElem?_take_of_lt hp] at z
      exact h4 j hj (by omega) z
    · rw [List.getElem?_eq_none (by rw [List.length_take]; omega)] at z
      cases z
  rcases rf_spec (l.take p) 10 with ⟨e, hn⟩ | ⟨i, e, hi, hn⟩
  · rw [e]
    rcases h5 with y | ⟨y0, y⟩
    · omega
    · exact absurd (by rw [List.getElem?_take_of_lt (by omega)]; exact y) (hn (rb l p - 1))
  · rw [e]
    have lt : i < rb l p := by
      rcases Nat.lt_or_ge i (rb l p) with z | z
      · exact z
      · exact absurd hi (none_at i z)
    rcases h5 with y | ⟨y0, y⟩
    · omega
    · rcases Nat.lt_or_ge i (rb l p - 1) with z | z
      · exact absurd (by rw [List.getElem?_take_of_lt (by omega)]; exact y) (hn (rb l p - 1) z)
      · omega
end L2

set_option Elab.async false
set_option linter.all false
set_option maxRecDepth 100000
set_option maxHeartbeats 4000000
namespace L2
open PySem
/-! ## the first one from a on, the last one ahead of a -/
/-! ## the moves -/
def nV (n : Nat) : V := .int (n : Int)
theorem step_gt {l : List Nat} {p r : Nat} (hp : p ≤ l.length) (hr : r ≤ rno l p) : endAt l r < p ↔ r < rno l p := by
  have h2 := rno_le l hp
  rcases Nat.lt_or_ge r (l.count 10) with z | z
  · obtain ⟨x, h1, e⟩ := stop_occ z
    rw [e]
    exact occ_lt hp h1
  · have e : r = l.count 10 := by omega
    subst e
    rw [stop_last]
    omega
end L2

set_option Elab.async false
set_option linter.all false
set_option maxRecDepth 100000
set_option maxHeartbeats 4000000
namespace L2
open PySem PySem.Spec PyProof.Rows
/-! ## comprehensions that take names from around -/
theorem clos_go {env : Env} : ∀ (ns : List (Str × NameKind)) (cs : List (Str × Addr)), (∀ y ∈ ns, y.2 = .free → ∃ c, env.cells.lookup y.1 = some c) → (∀ p ∈ cs, env.cells.lookup p.1 = some p.2) →
    ∃ cl, (forIn ns cs (fun (x : Str × NameKind) (r : List (Str × Addr)) => (if (x.2 == NameKind.free) = true then (do let c ← cellOf env x.1; pure (ForInStep.yield ((x.1, c) :: r))) else pure (ForInStep.yield r) : Sem _)) : Sem (List (Str × Addr))) = pure cl ∧ (∀ p ∈ cl, env.cells.lookup p.1 = some p.2) ∧ (∀ p ∈ cs, p ∈ cl) ∧ ∀ y ∈ ns, y.2 = .free → ∃ c, (y.1, c) ∈ cl
  | [], cs, _, hc => ⟨cs, rfl, hc, fun _ h => h, fun _ h => by cases h⟩
  | (n, k) :: ns, cs, hn, hc => by
    rw [List.forIn_cons]
    by_cases hk : k = .free
    · subst hk
      obtain ⟨c, ec⟩ := hn (n, .free) List.mem_cons_self rfl
      have e1 : cellOf env n = pure c := by
        unfold cellOf
        have ec' : env.cells.lookup n = some c := ec
        rw [ec']
      obtain ⟨cl, h1, h2, h3, h4⟩ := clos_go ns ((n, c) :: cs) (fun y hy => hn y (List.mem_cons_of_mem _ hy)) (fun p hp => by
        rcases List.mem_cons.mp hp with z | z
        · subst z; exact ec
        · exact hc p z)
      refine ⟨cl, ?_, h2, fun p hp => h3 p (List.mem_cons_of_mem _ hp), fun y hy hf => ?_⟩
      · rw [if_pos (by rfl)]
        show ((cellOf env n >>= fun c => pure (ForInStep.yield ((n, c) :: cs))) >>= _) = _
        rw [e1]
        exact h1
      · rcases List.mem_cons.mp hy with z | z
        · subst z; exact ⟨c, h3 _ List.mem_cons_self⟩
        · exact h4 y z hf
    · obtain ⟨cl, h1, h2, h3, h4⟩ := clos_go ns cs (fun y hy => hn y (List.mem_cons_of_mem _ hy)) hc
      refine ⟨cl, ?_, h2, h3, fun y hy hf => ?_⟩
      · rw [if_neg (by intro z; exact hk (by simpa using z))]
        exact h1
      · rcases List.mem_cons.mp hy with z | z
        · subst z; exact absurd hf hk
        · exact h4 y z hf
theorem clos_ex {scope : Scope} {env : Env} (h : ∀ y ∈ scope.names, y.2 = .free → ∃ c, env.cells.lookup y.1 = some c) : ∃ cl, closureFor scope env = pure cl ∧ (∀ p ∈ cl, env.cells.lookup p.1 = some p.2) ∧ ∀ y ∈ scope.names, y.2 = .free → ∃ c, (y.1, c) ∈ cl := by
  obtain ⟨cl, h1, h2, _, h4⟩ := clos_go scope.names [] h (fun p hp => by cases hp)
  refine ⟨cl, ?_, h2, h4⟩
  unfold closureFor
  show (forIn scope.names ([] : List (Str × Addr)) _ >>= _) = _
  have e : (forIn scope.names ([] : List (Str × Addr)) (fun (x : Str × NameKind) (r : List (Str × Addr)) => (match x with | (name, kind) => if (kind == NameKind.free) = true then (do let c ← cellOf env name; pure (ForInStep.yield ((name, c) :: r))) else pure (ForInStep.yield r) : Sem _)) : Sem (List (Str × Addr))) = pure cl := h1
  rw [e]
  rfl
theorem mem_lookup {α : Type} : ∀ {l : List (Str × α)} {x : Str} {k : α}, l.lookup x = some k → (x, k) ∈ l
  | (y, k') :: r, x, k, h => by
    rw [List.lookup_cons] at h
    split at h
    · rename_i e
      cases h
      rw [beq_iff_eq.mp e]
      exact List.mem_cons_self
    · exact List.mem_cons_of_mem _ (mem_lookup h)
theorem lookup_some {α : Type} : ∀ {l : List (Str × α)} {x : Str} {k : α}, (x, k) ∈ l → ∃ c, l.lookup x = some c
  | (y, k') :: r, x, k, h => by
    rw [List.lookup_cons]
    split
    · exact ⟨_, rfl⟩
    · rename_i e
      rcases List.mem_cons.mp h with z | z
      · cases z; simp at e
      · exact lookup_some z
def capOk (scope sc : Scope) (NB NN : List Str) (ix : List (Option Nat)) : Bool :=
  scope.names.all (fun y => y.2 != NameKind.cell) && (scope.kind == .function) && scope.names.all (fun y => y.2 != NameKind.local || scope.names.lookup y.1 == some NameKind.local) &&
  scope.names.all (fun y => y.2 != NameKind.free || sc.names.lookup y.1 == some NameKind.cell) && (ix.length == NB.length) &&
  (List.range NB.length).all (fun i => match ix[i]?, NB[i]? with
    | some (some j), some x => NN[j]? == some x && sc.names.lookup x == some NameKind.cell && scope.names.lookup x == some NameKind.free
    | _, _ => true)
theorem relabel_at {scope : Scope} {env : Env} {x : Str} (hc : ∀ y ∈ scope.names, y.2 ≠ .cell) (h : List.lookup x (scope.names.map fun (n, k) => if (k == NameKind.free && env.scope.kind == .function && env.kindOf n == some .cell) then (n, NameKind.cell) else (n, k)) = some .cell ∨ List.lookup x (scope.names.map fun (n, k) => if (k == NameKind.free && env.scope.kind == .function && env.kindOf n == some .cell) then (n, NameKind.cell) else (n, k)) = some .free) :
    (x, NameKind.free) ∈ scope.names := by
  have key : ∀ k, (x, k) ∈ (scope.names.map fun (n, k) => if (k == NameKind.free && env.scope.kind == .function && env.kindOf n == some .cell) then (n, NameKind.cell) else (n, k)) → k = .cell ∨ k = .free → (x, NameKind.free) ∈ scope.names := by
    intro k hk hkk
    obtain ⟨⟨n, k'⟩, hm, he⟩ := List.mem_map.mp hk
    dsimp only at he
    split at he
    · rename_i c
      have : k' = .free := by
        have := (Bool.and_eq_true_iff.mp (Bool.and_eq_true_iff.mp c).1).1
        simpa using this
      subst this
      cases he
      exact hm
    · cases he
      rcases hkk with z | z
      · subst z; exact absurd rfl (hc _ hm)
      · subst z; exact hm
  rcases h with h | h
  · exact key _ (mem_lookup h) (.inl rfl)
  · exact key _ (mem_lookup h) (.inr rfl)
theorem relabel_free {scope : Scope} {env : Env} {x : Str} (hk : env.scope.kind = .function) (h1 : scope.names.lookup x = some .free) (h2 : env.kindOf x = some .cell) :
    List.lookup x (scope.names.map fun (n, k) => if (k == NameKind.free && env.scope.kind == .function && env.kindOf n == some .cell) then (n, NameKind.cell) else (n, k)) = some .cell := by
  generalize scope.names = ns at h1
  induction ns with
  | nil => cases h1
  | cons y r ih =>
    obtain ⟨n, k⟩ := y
    rw [List.lookup_cons] at h1
    rw [List.map_cons]
    by_cases e : x = n
    · subst e
      simp only [beq_self_eq_true] at h1
      cases h1
      show List.lookup x ((if (NameKind.free == NameKind.free && env.scope.kind == .function && env.kindOf x == some .cell) = true then (x, NameKind.cell) else (x, NameKind.free)) :: _) = _
      rw [if_pos (by rw [hk, h2]; rfl), List.lookup_cons]
      simp
    · have e' : (x == n) = false := by simpa using e
      rw [e'] at h1
      have ih' := ih h1
      show List.lookup x ((if (k == NameKind.free && env.scope.kind == .function && env.kindOf n == some .cell) = true then (n, NameKind.cell) else (n, k)) :: _) = _
      split
      · rw [List.lookup_cons, e']; exact ih'
      · rw [List.lookup_cons, e']; exact ih'
section
variable {X : Cx} {scope sc : Scope} {NB NN : List Str} {ix : List (Option Nat)} {pins : List (Addr × Obj)} {σ : St} {H : Hp} {s : Shared}
theorem cap_cl (hk : capOk scope sc NB NN ix = true) (hsc : X.env.scope = sc) (hN : X.N = NN) (I : Inv X pins σ H s) : ∃ cl, ClOk X scope cl NB ix := by
  subst hsc hN
  unfold capOk at hk
  simp only [Bool.and_eq_true, List.all_eq_true] at hk
  obtain ⟨⟨⟨⟨⟨k1, k2⟩, k3⟩, k4⟩, k5⟩, k6⟩ := hk
  have hcell : ∀ y ∈ scope.names, y.2 ≠ .cell := fun y hy => by simpa using k1 y hy
  have hfree : ∀ y ∈ scope.names, y.2 = .free → X.env.kindOf y.1 = some .cell := fun y hy hf => by
    have := k4 y hy
    rw [hf] at this
    have this' : X.env.scope.names.lookup y.1 = some .cell := by simpa using this
    exact this'
  obtain ⟨cl, c1, c2, c3⟩ := clos_ex (scope := scope) (env := X.env) fun y hy hf => I.ok.has y.1 (.inl (hfree y hy hf))
  refine ⟨cl, c1, hcell, by simpa using k2, fun y hy hl => ?_, fun x c h => c2 _ (mem_lookup h), fun C x h => ?_, by simpa using k5, fun i x j h1 h2 => ?_⟩
  · have := k3 y hy
    rw [hl] at this
    simpa using this
  · obtain ⟨c, hc⟩ := c3 _ (relabel_at hcell h) rfl
    exact lookup_some hc
  · have hi : i < NB.length := (List.getElem?_eq_some_iff.mp h1).1
    have := k6 i (List.mem_range.mpr hi)
    rw [h1, h2] at this
    simp only [Bool.and_eq_true, beq_iff_eq] at this
    obtain ⟨⟨a1, a2⟩, a3⟩ := this
    exact ⟨a1, .inl a2, fun C => .inl (relabel_free I.ok.kind a3 a2)⟩
theorem ps_setCF {i : Nat} {y : Str} {py spos : Pos} {elt iter : Expr} {x : Str} {px : Pos} {ifs : List Expr} {pos : Pos} {wi : TI} {g : TG} {tc : TT} {te : TE} (NB : List Str) (ix : List (Option Nat)) (NN : List Str) (sc : Scope) (hNd : X.N.Nodup) (hi' : X.N[i]? = some y) (hx' : Loc X.env.scope y) (hc : X.calm = true) (hk : capOk scope sc NB NN ix = true) (hsc : X.env.scope = sc) (hN : X.N = NN) (hi : PI X (.Name x px) iter wi)
    (hg : ∀ cl C fp s3 H3, PG (blk X scope cl NB C fp s3 H3) (.Name x px) g) (ht : ∀ cl C fp s3 H3, PIf (blk X scope cl NB C fp s3 H3) ifs tc) (he : ∀ cl C fp s3 H3, PE (blk X scope cl NB C fp s3 H3) elt te)
    (hs : ∀ x, foldedSetIterable iter X.env x = pure x := by intro _; rfl) (hsw : swapsWith (.ListComp elt [⟨.Name x px, iter, ifs, 0⟩] scope pos) (some (.Name y py)) spos.line X.env = pure true := by rfl)
    (hf' : X.fn y = true ∨ X.env.scope.names.lookup y = some .local := by first | exact .inl rfl | exact .inr rfl | assumption) : PS X (.Assign [.Name y py] (.ListComp elt [⟨.Name x px, iter, ifs, 0⟩] scope pos) spos) (tAsg (tComp ix wi g tc te) (gName i)) := by
  intro pins s σ H D I h
  obtain ⟨cl, hb⟩ := cap_cl hk hsc hN I
  exact ps_setC NB ix cl hNd hi' hx' hc hb hi (hg cl) (ht cl) (he cl) hs hsw hf' pins s σ H D I h
end
end L2

set_option Elab.async false
set_option linter.all false
set_option maxRecDepth 100000
set_option maxHeartbeats 4000000
namespace L2
open PySem PySem.Spec PyProof.Rows
/-! ## sum, max, min of a list of whole numbers; for over a text -/
theorem int_items : ∀ {ns : List Int} {us : List Value}, Vals (ns.map V.int) us → ∃ xs : List (Int × Tok), us = xs.map (fun p => Value.int p.1 p.2) ∧ xs.map (·.1) = ns
  | [], _, .nil => ⟨[], rfl, rfl⟩
  | n :: ns, _, .cons r t => by
    obtain ⟨tk, rfl⟩ := r
    obtain ⟨xs, rfl, e⟩ := int_items t
    exact ⟨(n, tk) :: xs, rfl, by rw [List.map_cons, e]⟩
theorem num_at {xs : List (Int × Tok)} {ns : List Int} (h : xs.map (·.1) = ns) (i : Nat) : numAt xs.toArray i = ns.getD i 0 := by
  unfold numAt
  subst h
  rw [List.getD_eq_getElem?_getD, List.getElem?_map]
  simp
theorem pre_sum {xs : List (Int × Tok)} {ns : List Int} (h : xs.map (·.1) = ns) : ∀ k, k ≤ ns.length → preSum (numAt xs.toArray) k = (ns.take k).sum
  | 0, _ => by simp [preSum]
  | k + 1, hk => by
    show preSum (numAt xs.toArray) k + numAt xs.toArray k = _
    rw [pre_sum h k (by omega), num_at h, List.getD_eq_getElem?_getD, List.getElem?_eq_getElem (by omega)]
    rw [show ns.take (k + 1) = ns.take k ++ [ns[k]] from by rw [List.take_add_one, List.getElem?_eq_getElem (by omega)]; rfl, List.sum_append]
    simp
section
variable {X : Cx} {tg : Expr}
theorem items_eq (xs : List (Int × Tok)) : intItems xs.toArray = (xs.map fun p => Value.int p.1 p.2).toArray := by unfold intItems; simp
theorem kept_ep {pins : List (Addr × Obj)} {σ : St} {H : Hp} {s : Shared} {Q : VK} {v : V} {u : Value} {h' : Heap} {tk : Nat} (I : Inv X pins σ H s) (hk : ∀ b o, s.heap.get? b = some o → h'.get? b = some o) (r : RelV v u) (q : Q v H) : EP X pins σ Q u { s with heap := h', toks := tk } :=
  ⟨v, H, I.kept (t' := tk) hk, r, q⟩
theorem call_maxL (hc : X.calm = true) : CallR X (.builtin "max") (fun vs H Q => ∃ (p : Addr) (ns : List Int), vs = [.ref p] ∧ SqL X.K H p (ns.map V.int) ∧ 0 < ns.length ∧ ∀ m, m ∈ ns → (∀ n ∈ ns, n ≤ m) → Q (.int m) H) := by
  intro pins s σ H vs us Q I r h
  obtain ⟨p, ns, rfl, hq, hl, q⟩ := h
  obtain ⟨u, rfl, rfl⟩ := r.one
  obtain ⟨its, rv, pl, hz⟩ := I.list hq
  obtain ⟨xs, rfl, e⟩ := int_items rv
  have len : xs.length = ns.length := by rw [← e, List.length_map]
  refine max_intList (xs := xs.toArray) (I.ok.hd hc) (by rw [items_eq]; exact pl.isList) (by simp; omega) fun v h' tk hv hk => ?_
  obtain ⟨a1, a2⟩ := argBest_gt (numAt xs.toArray) (xs.toArray.size - 1)
  obtain ⟨t, rfl⟩ := intItems_at hv
  generalize argBest (fun i j => decide (numAt xs.toArray i > numAt xs.toArray j)) (xs.toArray.size - 1) = b at a1 a2 hv
  have hs : xs.toArray.size = ns.length := by simp [len]
  rw [hs] at a1 a2
  rw [num_at e]
  refine kept_ep (v := .int (ns.getD b 0)) I hk ⟨t, rfl⟩ (q _ ?_ fun n hn => ?_)
  · rw [List.getD_eq_getElem?_getD, List.getElem?_eq_getElem (by omega)]
    exact List.getElem_mem _
  · obtain ⟨j, hj, rfl⟩ := List.getElem_of_mem hn
    have := a2 j (by omega)
    rw [num_at e, num_at e, List.getD_eq_getElem?_getD, List.getElem?_eq_getElem hj] at this
    exact this
/-! the signs of a text, one by one -/
end
end L2

set_option Elab.async false
set_option linter.all false
set_option maxRecDepth 100000
set_option maxHeartbeats 4000000
namespace L2
open PySem PySem.Spec PyProof.Rows PySem.StrLaws
/-! ## any of a list of truths -/
theorem bool_items : ∀ {bs : List Bool} {its : List Value}, Vals (bs.map V.bl) its → its = bs.map Value.bool
  | [], _, h => by cases h; rfl
  | b :: bs, _, h => by
    cases h with
    | cons r rr =>
      cases r
      rw [bool_items rr]
      rfl
theorem any_range (bs : List Bool) : (List.range bs.length).any (fun i => bs.getD i false) = bs.any id := by
  induction bs with
  | nil => rfl
  | cons b bs ih =>
    rw [List.length_cons, List.range_succ_eq_map, List.any_cons, List.any_map, List.any_cons]
    show (b || (List.range bs.length).any (fun i => (b :: bs).getD (i + 1) false)) = (b || bs.any id)
    rw [← ih]
    rfl
section
variable {X : Cx} {tg : Expr}
theorem call_anyL (hc : X.calm = true) : CallR X (.builtin "any") (fun vs H Q => ∃ (p : Addr) (bs : List Bool), vs = [.ref p] ∧ SqL X.K H p (bs.map V.bl) ∧ Q (.bl (bs.any id)) H) := by
  intro pins s σ H vs us Q I r h
  obtain ⟨p, bs, rfl, hq, q⟩ := h
  obtain ⟨u, rfl, rfl⟩ := r.one
  obtain ⟨its, rv, pl, hz⟩ := I.list hq
  have e := bool_items rv
  subst e
  have hl : s.heap.IsList p (bs.map Value.bool).toArray := pl.isList
  have hlt : p < s.heap.objs.size := by obtain ⟨_, e, _⟩ := hl; exact Heap.lt_size e
  refine call_any_walk (wpAny_pyIter_list hl ?_)
  refine ⟨_, _, _, _, _, _, fun i => bs.getD i false, rfl, Walks.list (A := X.A.in1) (I.ok.hd hc) s.heap.objs.size p (Nat.ne_of_lt hlt) (bs.map Value.bool).toArray, ⟨⟨_, Heap.get?_push_size _ rfl, rfl, rfl⟩, hl.push _⟩, fun i v s' Q' E' hv hQ => ?_, fun h' tk hk => ?_⟩
  · have hv' : (bs.map Value.bool)[i]? = some v := by simpa using hv
    rw [List.getElem?_map] at hv'
    cases eb : bs[i]? with
    | none => rw [eb] at hv'; cases hv'
    | some b =>
      rw [eb] at hv'
      cases hv'
      have hb : bs.getD i false = b := by rw [List.getD_eq_getElem?_getD, eb]; rfl
      have hQ' : Q' (bs.getD i false) s' := hQ
      rw [hb] at hQ'
      exact wpAny_of_eq rfl hQ'
  · have hk' := old_kept hk
    have ea : (List.range (bs.map Value.bool).toArray.size).any (fun i => bs.getD i false) = bs.any id := by
      rw [show (bs.map Value.bool).toArray.size = bs.length by simp]
      exact any_range bs
    refine (show EP X pins σ Q (.bool ((List.range (bs.map Value.bool).toArray.size).any (fun i => bs.getD i false))) { s with heap := h', toks := tk } from kept_ep (v := .bl (bs.any id)) I hk' ?_ q)
    show _ = Value.bool _
    rw [ea]
end
end L2

set_option Elab.async false
set_option linter.all false
set_option maxRecDepth 100000
set_option maxHeartbeats 4000000
namespace L2
open PySem PySem.Spec PyProof.Rows
/-! comprehensions that keep what a test lets by -/
/-! the first and the last of a list of places -/
theorem upd_tup {H : Hp} {d t : Addr} {xs u : List V} {o : HO} (hd : H d = some (.lst xs)) (ht : H t = some (.tup u)) : upd H d o t = some (.tup u) := (upd_ne (ne_of ht hd (by intro z; cases z))).trans ht
theorem iteNF {c A B : Prop} [Decidable c] (hc : ¬ c) (h : A) : if (!decide c) = true then A else B := by
  rw [decide_eq_false hc]
  exact iteT h
end L2

set_option Elab.async false
set_option linter.all false
set_option maxRecDepth 100000
set_option maxHeartbeats 4000000
namespace L2
open PySem
abbrev cBlock : List Nat := [98, 108, 111, 99, 107]
end L2

set_option Elab.async false
set_option linter.all false
set_option maxRecDepth 100000
set_option maxHeartbeats 4000000
namespace L2
open PySem
theorem beg_mono {l : List Nat} : ∀ {i j : Nat}, i ≤ j → j ≤ l.count 10 + 1 → begAt l i ≤ begAt l j
  | i, 0, h, _ => by rw [Nat.le_zero.mp h]; exact Nat.le_refl _
  | i, j + 1, h, hj => by
    rcases Nat.lt_or_eq_of_le h with z | z
    · have h1 := beg_mono (l := l) (i := i) (j := j) (by omega) (by omega)
      have h2 := beg_le (l := l) (i := j) (by omega)
      show begAt l i ≤ endAt l j + 1
      omega
    · rw [z]; exact Nat.le_refl _
theorem head_le {l : List Nat} {p j : Nat} (hp : p ≤ l.length) (hj : j ≤ l.count 10 + 1) : begAt l j ≤ p ↔ j ≤ rno l p := by
  have hr := rno_le l hp
  obtain ⟨r1, _⟩ := row_is hp
  constructor
  · intro h
    rcases Nat.lt_or_ge (rno l p) j with z | z
    · have h1 := beg_mono (l := l) (i := rno l p + 1) (j := j) z hj
      have h2 := step_gt (r := rno l p) hp (Nat.le_refl _)
      have h3 : ¬ endAt l (rno l p) < p := fun y => Nat.lt_irrefl _ (h2.mp y)
      have h4 : begAt l (rno l p + 1) = endAt l (rno l p) + 1 := rfl
      omega
    · exact z
  · intro h
    have h1 := beg_mono (l := l) (i := j) (j := rno l p) h (by omega)
    exact Nat.le_trans h1 r1
end L2

set_option Elab.async false
set_option linter.all false
set_option maxRecDepth 100000
set_option maxHeartbeats 4000000
namespace L2
open PySem PySem.Spec PyProof.Rows
/-! dict(d), == and != of dicts with the same pairs -/
section
variable {X : Cx}
theorem eqV_self {x : V} (h : flatV x = true) : eqV x x = true := by
  cases x with
  | non => rfl
  | bl b => show (b == b) = true; simp
  | int i => show (i == i) = true; simp
  | str y => show (y == y) = true; simp
  | byt _ => cases h
  | flt _ => cases h
  | ref _ => cases h
  | ty _ => cases h
end
end L2

set_option Elab.async false
set_option linter.all false
set_option maxRecDepth 100000
set_option maxHeartbeats 4000000
namespace L2
open PySem PySem.Spec PyProof.Rows PySem.StrLaws
/-! ## lists of tuples: == of two whose tuples hold the same -/
section
variable {X : Cx}
theorem op_eqP (hu : X.A.units + 1 < cLine) : OpR X (compareOp .Eq) (fun x y H Q => ∃ (p q : Addr) (as bs : List Addr), x = .ref p ∧ y = .ref q ∧ SqL X.K H p (as.map V.ref) ∧ SqL X.K H q (bs.map V.ref) ∧ as.length = bs.length ∧ (∀ (j : Nat) (a b : Addr), as[j]? = some a → bs[j]? = some b → ∃ xs : List V, SqT X.K H a xs ∧ SqT X.K H b xs ∧ xs.all flatV = true ∧ eqs xs xs = true) ∧ Q (.bl true) H) := by
  intro pins s σ H x y v u Q I rx ry h
  obtain ⟨p, q, as, bs, rfl, rfl, h1, h2, hlen, hat, w⟩ := h
  cases rx
  cases ry
  obtain ⟨its, r, pl, hz⟩ := I.list h1
  obtain ⟨jts, r2, pl2, hz2⟩ := I.list h2
  cases refs_same r
  cases refs_same r2
  refine SeqAt.eq_listAt (e := fun _ => true) pl.isList pl2.isList (by simp [hlen]) (by omega) (fun j ha hb => ?_) ?_
  · have ja : j < as.length := by simpa using ha
    have jb : j < bs.length := by simpa using hb
    have ea : as[j]? = some as[j] := List.getElem?_eq_getElem ja
    have eb : bs[j]? = some bs[j] := List.getElem?_eq_getElem jb
    obtain ⟨xs, t1, t2, fx, ex⟩ := hat j _ _ ea eb
    have va : ((as.map Value.ref).toArray)[j] = Value.ref as[j] := by simp
    have vb : ((bs.map Value.ref).toArray)[j] = Value.ref bs[j] := by simp
    rw [va, vb]
    by_cases e : as[j] = bs[j]
    · rw [e]; exact SeqAt.EqAt.same _
    · refine SeqAt.EqAt.of_refs e ?_
      obtain ⟨us, ru, tu, _⟩ := I.tuple t1
      obtain ⟨ws, rw', tw, _⟩ := I.tuple t2
      have e1 : us.toArray.size = xs.length := by rw [List.size_toArray, ru.length]
      have e2 : ws.toArray.size = xs.length := by rw [List.size_toArray, rw'.length]
      have R := SeqAt.RcAt.tuples (A := X.A.in1) (e := eqAtJ xs xs) (show s.heap.IsTuple as[j] us.toArray from tu) (show s.heap.IsTuple bs[j] ws.toArray from tw) hu (fun i ia ib => by
        obtain ⟨a, e3, ra⟩ := ru.at ia
        obtain ⟨b, e4, rb⟩ := rw'.at ib
        rw [e3] at e4
        cases e4
        have e : eqAtJ xs xs i = eqV a a := by unfold eqAtJ; rw [e3]
        rw [e]
        exact eqAt_V ra rb (flat_at fx e3) (flat_at fx e3))
      rw [e1, e2, Nat.min_self, eqs_all rfl, ex, beq_self_eq_true] at R
      exact R
  · rw [all_true]
    exact ⟨.bl true, H, I, rfl, w⟩
end
/-! ## a list of pairs of numbers -/
end L2

set_option Elab.async false
set_option linter.all false
set_option maxRecDepth 100000
set_option maxHeartbeats 4000000
namespace L2
open PySem PySem.Spec PyProof.Rows PySem.StrLaws
end L2

set_option Elab.async false
set_option linter.all false
set_option maxRecDepth 100000
set_option maxHeartbeats 4000000
namespace L2
open PySem PySem.Spec PyProof.Rows PySem.StrLaws
/-! comprehensions with any target: a tuple of names -/
section
variable {X : Cx} {scope : Scope} {cl : List (Str × Addr)} {NB : List Str} {ix : List (Option Nat)} {fp : List Addr} {pins : List (Addr × Obj)} {σ : St} {H : Hp} {s : Shared}
end
section
variable {X : Cx} {scope : Scope} {cl : List (Str × Addr)} {NB : List Str} {ix : List (Option Nat)} {fp : List Addr} {pins : List (Addr × Obj)} {σ : St} {H : Hp} {s : Shared}
end
section
variable {X : Cx} {scope sc : Scope} {NB NN : List Str} {ix : List (Option Nat)} {pins : List (Addr × Obj)} {σ : St} {H : Hp} {s : Shared}
end
end L2

set_option Elab.async false
set_option linter.all false
set_option maxRecDepth 100000
set_option maxHeartbeats 4000000
namespace L2
open PySem PySem.Spec PyProof.Rows PySem.StrLaws
/-! ## a list of tuples -/
def TupsV (H : Hp) (D : Addr) (ts : List (List V)) : Prop := ∃ as : List Addr, H D = some (.lst (as.map V.ref)) ∧ as.length = ts.length ∧ ∀ (i : Nat) (a : Addr) (t : List V), as[i]? = some a → ts[i]? = some t → H a = some (.tup t)
theorem TupsV.same {H H' : Hp} {D : Addr} {ts : List (List V)} (h : TupsV H D ts) (s : Same H H') : TupsV H' D ts := by
  obtain ⟨as, h1, h2, h3⟩ := h
  exact ⟨as, s _ _ h1, h2, fun i a q e1 e2 => s _ _ (h3 i a q e1 e2)⟩
theorem TupsV.nil {H : Hp} {D : Addr} (h : H D = some (.lst [])) : TupsV H D [] := ⟨[], h, rfl, fun i a t z => by cases z⟩
theorem TupsV.snoc {H : Hp} {D a : Addr} {ts : List (List V)} {xs : List V} {t : List V} (h : TupsV H D ts) (hD : H D = some (.lst xs)) (ht : H a = some (.tup t)) : TupsV (upd H D (.lst (xs ++ [.ref a]))) D (ts ++ [t]) := by
  obtain ⟨as, h1, h2, h3⟩ := h
  rw [h1] at hD
  cases hD
  refine ⟨as ++ [a], ?_, ?_, fun i b r e1 e2 => ?_⟩
  · rw [upd_same, List.map_append] <;> rfl
  · rw [List.length_append, List.length_append, h2] <;> rfl
  · by_cases hi : i < as.length
    · rw [List.getElem?_append_left hi] at e1
      rw [List.getElem?_append_left (by omega)] at e2
      exact upd_tup h1 (h3 i b r e1 e2)
    · rw [List.getElem?_append_right (by omega)] at e1
      rw [List.getElem?_append_right (by omega), ← h2] at e2
      by_cases z : i - as.length = 0
      · rw [z] at e1 e2
        cases e1
        cases e2
        exact upd_tup h1 ht
      · rw [List.getElem?_eq_none (by simp; omega)] at e1
        cases e1
theorem TupsV.mem {H : Hp} {D : Addr} {ts : List (List V)} (h : TupsV H D ts) : ∃ xs, H D = some (.lst xs) ∧ xs.length = ts.length ∧ ∀ (i : Nat) (v : V), xs[i]? = some v → ∃ a t, v = .ref a ∧ ts[i]? = some t ∧ H a = some (.tup t) := by
  obtain ⟨as, h1, h2, h3⟩ := h
  refine ⟨_, h1, by rw [List.length_map, h2], fun i v e => ?_⟩
  rw [List.getElem?_map] at e
  cases ea : as[i]? with
  | none => rw [ea] at e; cases e
  | some a =>
    rw [ea] at e
    cases e
    have hi : i < ts.length := by rw [← h2]; exact (List.getElem?_eq_some_iff.mp ea).1
    exact ⟨a, ts[i], rfl, List.getElem?_eq_getElem hi, h3 i a _ ea (List.getElem?_eq_getElem hi)⟩
/-! ## == of tuples that hold lists or tuples of flat values -/
def Eq1 (K : PySem.W.Frag) (H : Hp) (a b : V) : Prop := (flatV a = true ∧ flatV b = true ∧ eqV a b = true) ∨ ∃ p q zs, a = .ref p ∧ b = .ref q ∧ ((SqL K H p zs ∧ SqL K H q zs) ∨ (SqT K H p zs ∧ SqT K H q zs)) ∧ zs.all flatV = true ∧ eqs zs zs = true
section
variable {X : Cx}
theorem eq1_at {pins : List (Addr × Obj)} {s : Shared} {σ : St} {H : Hp} {A : Around} {a b : V} {u v : Value} (I : Inv X pins σ H s) (hu : A.units < cLine) (ra : RelV a u) (rb : RelV b v) (h : Eq1 X.K H a b) : SeqAt.EqAt A s u v true := by
  rcases h with ⟨fa, fb, e⟩ | ⟨p, q, zs, rfl, rfl, hq, fz, ez⟩
  · have := eqAt_V (A := A) (s := s) ra rb fa fb
    rw [e] at this
    exact this
  · cases ra
    cases rb
    by_cases e : p = q
    · subst e; exact SeqAt.EqAt.same _
    refine SeqAt.EqAt.of_refs e ?_
    have el : ∀ {us ws : List Value}, Vals zs us → Vals zs ws → ∀ (j : Nat) (h1 : j < us.toArray.size) (h2 : j < ws.toArray.size), SeqAt.EqAt A.in1 s us.toArray[j] ws.toArray[j] (eqAtJ zs zs j) := fun ru rw' j ja jb => by
      obtain ⟨x, e3, rx⟩ := ru.at ja
      obtain ⟨y, e4, ry⟩ := rw'.at jb
      rw [e3] at e4
      cases e4
      have e : eqAtJ zs zs j = eqV x x := by unfold eqAtJ; rw [e3]
      rw [e]
      exact eqAt_V rx ry (flat_at fz e3) (flat_at fz e3)
    rcases hq with ⟨h1, h2⟩ | ⟨h1, h2⟩
    · obtain ⟨us, ru, tu, _⟩ := I.list h1
      obtain ⟨ws, rw', tw, _⟩ := I.list h2
      have e1 : us.toArray.size = zs.length := by rw [List.size_toArray, ru.length]
      have e2 : ws.toArray.size = zs.length := by rw [List.size_toArray, rw'.length]
      have R := SeqAt.RcAt.lists (A := A) (e := eqAtJ zs zs) tu.isList tw.isList (by rw [e1, e2]) hu (el ru rw')
      rw [e1, eqs_all rfl, ez] at R
      exact R
    · obtain ⟨us, ru, tu, _⟩ := I.tuple h1
      obtain ⟨ws, rw', tw, _⟩ := I.tuple h2
      have e1 : us.toArray.size = zs.length := by rw [List.size_toArray, ru.length]
      have e2 : ws.toArray.size = zs.length := by rw [List.size_toArray, rw'.length]
      have R := SeqAt.RcAt.tuples (A := A) (e := eqAtJ zs zs) (show s.heap.IsTuple p us.toArray from tu) (show s.heap.IsTuple q ws.toArray from tw) hu (el ru rw')
      rw [e1, e2, Nat.min_self, eqs_all rfl, ez, beq_self_eq_true] at R
      exact R
theorem op_neS (hu : X.A.units + 1 < cLine) : OpR X (compareOp .NotEq) (fun x y H Q => ∃ (p q : Addr) (xs ys : List V), x = .ref p ∧ y = .ref q ∧ ((SqL X.K H p xs ∧ SqL X.K H q ys) ∨ (SqT X.K H p xs ∧ SqT X.K H q ys)) ∧ xs.length = ys.length ∧ (∀ (j : Nat) (a b : V), xs[j]? = some a → ys[j]? = some b → Eq1 X.K H a b) ∧ Q (.bl false) H) := by
  intro pins s σ H x y v u Q I rx ry h
  obtain ⟨p, q, xs, ys, rfl, rfl, hq, hlen, hat, w⟩ := h
  cases rx
  cases ry
  have el : ∀ {us ws : List Value}, Vals xs us → Vals ys ws → ∀ (j : Nat) (h1 : j < us.toArray.size) (h2 : j < ws.toArray.size), SeqAt.EqAt X.A.in1 s us.toArray[j] ws.toArray[j] ((fun _ => true) j) := fun ru rw' j ja jb => by
    obtain ⟨x, e3, rx⟩ := ru.at ja
    obtain ⟨y, e4, ry⟩ := rw'.at jb
    exact eq1_at I hu rx ry (hat j x y e3 e4)
  rcases hq with ⟨h1, h2⟩ | ⟨h1, h2⟩
  · obtain ⟨us, ru, tu, _⟩ := I.list h1
    obtain ⟨ws, rw', tw, _⟩ := I.list h2
    refine SeqAt.RcNeAt.lists (e := fun _ => true) tu.isList tw.isList (by rw [List.size_toArray, List.size_toArray, ← ru.length, ← rw'.length, hlen]) (by omega) (el ru rw') _ _ _ _ ?_
    rw [all_true]
    exact ⟨.bl false, H, I, rfl, w⟩
  · obtain ⟨us, ru, tu, _⟩ := I.tuple h1
    obtain ⟨ws, rw', tw, _⟩ := I.tuple h2
    refine SeqAt.RcNeAt.tuples (e := fun _ => true) (show s.heap.IsTuple p us.toArray from tu) (show s.heap.IsTuple q ws.toArray from tw) (by omega) (el ru rw') _ _ _ _ ?_
    have e : us.toArray.size = ws.toArray.size := by rw [List.size_toArray, List.size_toArray, ← ru.length, ← rw'.length, hlen]
    rw [all_true, e, beq_self_eq_true]
    exact ⟨.bl false, H, I, rfl, w⟩
end
/-! ## sum of a list of whole numbers, some below 0 -/
theorem sum_boundZ : ∀ {ns : List Int}, (∀ n ∈ ns, -1000000 ≤ n ∧ n ≤ 1000000) → -1000000 * ns.length ≤ ns.sum ∧ ns.sum ≤ 1000000 * ns.length
  | [], _ => by simp
  | n :: ns, h => by
    have a := h n List.mem_cons_self
    have b := sum_boundZ fun m hm => h m (List.mem_cons_of_mem _ hm)
    rw [List.sum_cons, List.length_cons]
    omega
section
variable {X : Cx} {tg : Expr}
theorem call_sumZ (hc : X.calm = true) : CallR X (.builtin "sum") (fun vs H Q => ∃ (p : Addr) (ns : List Int), vs = [.ref p] ∧ SqL X.K H p (ns.map V.int) ∧ (∀ n ∈ ns, -1000000 ≤ n ∧ n ≤ 1000000) ∧ ns.length ≤ 100000 ∧ Q (.int ns.sum) H) := by
  intro pins s σ H vs us Q I r h
  obtain ⟨p, ns, rfl, hq, hb, hl, q⟩ := h
  obtain ⟨u, rfl, rfl⟩ := r.one
  obtain ⟨its, rv, pl, hz⟩ := I.list hq
  obtain ⟨xs, rfl, e⟩ := int_items rv
  have len : xs.length = ns.length := by rw [← e, List.length_map]
  refine sum_intList (xs := xs.toArray) (I.ok.hd hc) (by rw [items_eq]; exact pl.isList) (fun j hj => ?_) fun h' tk t' hk => ?_
  · have hj' : j < ns.length := by rw [← len]; simpa using hj
    rw [num_at e, pre_sum e (j + 1) hj']
    have m : ns.getD j 0 ∈ ns := by
      rw [List.getD_eq_getElem?_getD, List.getElem?_eq_getElem hj']
      exact List.getElem_mem _
    have b1 := hb _ m
    have b2 := sum_boundZ (ns := ns.take (j + 1)) fun n hn => hb n (List.mem_of_mem_take hn)
    rw [List.length_take] at b2
    have b3 : ((min (j + 1) ns.length : Nat) : Int) ≤ 100000 := by omega
    have e1 : preSum (numAt xs.toArray) (j + 1) = (ns.take (j + 1)).sum := pre_sum e (j + 1) hj'
    unfold InLong
    generalize (ns.take (j + 1)).sum = z at b2
    generalize ((min (j + 1) ns.length : Nat) : Int) = y at b2 b3
    omega
  · refine kept_ep (v := .int ns.sum) I hk ⟨t', ?_⟩ q
    rw [pre_sum e _ (by simp [len])]
    simp [len]
end
/-! ## for over a list from its end -/
end L2

set_option Elab.async false
set_option linter.all false
set_option maxRecDepth 100000
set_option maxHeartbeats 4000000
namespace L2
open PySem PySem.Spec PyProof.Rows PySem.StrLaws
/-! ## '\n'.join, and rows put together again -/
def glue : List (List Nat) → List Nat
  | [] => []
  | r :: rs => r ++ (rs.map fun p => 10 :: p).flatten
theorem glue_cons (r s : List Nat) (rs : List (List Nat)) : glue (r :: s :: rs) = r ++ 10 :: glue (s :: rs) := by
  unfold glue
  simp
theorem foldl_nl (ls : List (List Nat)) : ∀ acc : List Nat, List.foldl (fun (acc : Array Nat) (p : Str) => acc ++ (S [10]).cps ++ p.cps) (⟨acc⟩ : Array Nat) (ls.map S) = ⟨acc ++ (ls.map fun p => 10 :: p).flatten⟩ := by
  induction ls with
  | nil => intro acc; simp
  | cons r rs ih =>
    intro acc
    rw [List.map_cons, List.foldl_cons]
    have e : (⟨acc⟩ : Array Nat) ++ (S [10]).cps ++ (S r).cps = ⟨acc ++ 10 :: r⟩ := by
      show (⟨acc⟩ : Array Nat) ++ (⟨[10]⟩ : Array Nat) ++ (⟨r⟩ : Array Nat) = _
      simp
    rw [e, ih]
    simp
theorem glue_N (ls : List (List Nat)) : Builtin.Str.glued (S [10]) (ls.map S) = S (glue ls) := by
  cases ls with
  | nil => rfl
  | cons r rs =>
    show ({ cps := List.foldl (fun acc (p : Str) => acc ++ (S [10]).cps ++ p.cps) (S r).cps (rs.map S) } : Str) = _
    rw [show (S r).cps = (⟨r⟩ : Array Nat) from rfl, foldl_nl]
    rfl
section
variable {X : Cx}
theorem mt_joinN : MtR X "str.join" (fun x vs H Q => ∃ (p : Addr) (ls : List (List Nat)), x = .str (S [10]) ∧ vs = [.ref p] ∧ SqL X.K H p (ls.map fun r => V.str (S r)) ∧ ls.flatten.length + ls.length ≤ 1000000 ∧ Q (.str (S (glue ls))) H) := by
  intro pins s σ H x vs v us Q I rx rv h
  obtain ⟨p, ls, rfl, rfl, hq, hl, q⟩ := h
  obtain ⟨t, rfl⟩ := rx
  obtain ⟨u, rfl, ru⟩ := rv.one
  cases ru
  obtain ⟨its, r, pl, hz⟩ := I.list hq
  refine join_list (items := its.toArray) (ys := ls.map S) pl.isList (by simpa using strs_are r) ?_ fun t' k => ?_
  · rw [flat_len]
    show _ + _ * 1 ≤ _
    rw [List.length_map]
    omega
  · exact ⟨.str (S (glue ls)), H, I.tok _, ⟨t', by show Value.str (Builtin.Str.glued (S [10]) (ls.map S)) t' = _; rw [glue_N]⟩, q⟩
end
theorem splitL_get {l : List Nat} {r : Nat} (h : r ≤ l.count 10) : (splitL l)[r]? = some ((l.drop (begAt l r)).take (endAt l r - begAt l r)) := by
  unfold splitL
  have z : ((starts l).zip (stops l))[r]? = some (begAt l r, endAt l r) := by
    rw [List.getElem?_zip_eq_some]
    exact ⟨starts_at (by omega), stops_at (by omega)⟩
  rw [List.getElem?_map, z]
  rfl
end L2

set_option Elab.async false
set_option linter.all false
set_option maxRecDepth 100000
set_option maxHeartbeats 4000000
namespace My
open PySem L2

def top (i : Nat) : Stmt := PySem.Challenge.pw_modehand_k39_laid_blocks.main.body.getD i (.Pass ⟨0, 0, 0, 0⟩)
abbrev s_is_whole : Stmt := top 6
abbrev s_is_place : Stmt := top 7
abbrev s_is_row : Stmt := top 8
abbrev s_check_place : Stmt := top 9
abbrev s_check_row : Stmt := top 10
abbrev s_row_count : Stmt := top 11
abbrev s_row_of : Stmt := top 12
abbrev s_column_of : Stmt := top 13
abbrev s_begin_of : Stmt := top 14
abbrev s_end_of : Stmt := top 15
abbrev s_place_of : Stmt := top 16
abbrev s_changing : Stmt := top 18
abbrev s_too_long : Stmt := top 19
abbrev s_bounded : Stmt := top 21
abbrev s_typed_in : Stmt := top 22
abbrev s_laid_rows : Stmt := top 23
abbrev s_laid_in_row : Stmt := top 24
abbrev s_laid_block : Stmt := top 25
abbrev s_laid : Stmt := top 26
abbrev s__law_cell_at : Stmt := top 28
abbrev s__law_whole : Stmt := top 29
abbrev s__law_sign : Stmt := top 30
abbrev s__law_text : Stmt := top 31
abbrev s__law_splices : Stmt := top 32
abbrev s__law_told : Stmt := top 33
abbrev s__law_at : Stmt := top 34
abbrev s__law_block : Stmt := top 35
abbrev s__law_due : Stmt := top 36
abbrev s__law_walked : Stmt := top 37
abbrev s__law_good : Stmt := top 38
abbrev s_law : Stmt := top 39

def cell (ns : List Int) (k : Nat) : Int := ns.getD k 0
def sp_cell (K : PySem.W.Frag) : Sp := fun vs H Q _ => ∃ (a : Addr) (ns : List Int) (k : Nat), vs = [.ref a, .int (k : Int)] ∧ SqL K H a (ns.map V.int) ∧ Q (.int (cell ns k)) H
def sp_law (K : PySem.W.Frag) : Sp := fun vs H Q _ => ∃ (a : Addr) (ns : List Int), vs = [.ref a] ∧ SqL K H a (ns.map V.int) ∧ ns.length ≤ 63 ∧ ∀ H', Q (.bl true) H'
theorem cell_at {ns : List Int} {k : Nat} (h : (k : Int) < ((ns.map V.int).length : Int)) : atI (ns.map V.int) (k : Int) = some (.int (cell ns k)) := by
  rw [List.length_map] at h
  have hk : k < ns.length := by omega
  refine atI_nat ?_
  rw [List.getElem?_map, List.getElem?_eq_getElem hk]
  show some (V.int ns[k]) = some (V.int (cell ns k))
  unfold cell
  rw [List.getD_eq_getElem?_getD, List.getElem?_eq_getElem hk] <;> rfl
theorem cell_out {ns : List Int} {k : Nat} (h : ¬ (k : Int) < ((ns.map V.int).length : Int)) : cell ns k = 0 := by
  rw [List.length_map] at h
  unfold cell
  rw [List.getD_eq_getElem?_getD, List.getElem?_eq_none (by omega)] <;> rfl
section
variable {P : Program} {w : World} {K : PySem.W.Frag} {mg : Str → Option Value} {base : Heap} {f : Addr} {fd : FuncData}
theorem sc__law_cell_at : FnScope ["_law_script", "_law_k"] ["_law_script", "_law_k"] (defScope s__law_cell_at) := ⟨rfl, rfl, rfl, by decide +kernel, rfl, by decide +kernel, by decide +kernel⟩
theorem ok_cell (F : Fun K "_law_cell_at" "_law_cell_at" s__law_cell_at f fd) (m_len : mg "len" = none) : FnOk P w K mg base CX0 1 f fd ["_law_script", "_law_k"] (sp_cell K) := by
  refine F.ok sc__law_cell_at (fun vs H Q E h => ?_) (fun cdv A outer s H vs Q E hr h => ?_)
  · obtain ⟨a, ns, k, rfl, _⟩ := h
    rfl
  obtain ⟨a, ns, k, rfl, hS, q⟩ := h
  refine ⟨_, (pss_cons (ps_if (pt_cmpR op_lt (pv 1) (pe_callB call_len_seq (by rfl) m_len PySem.boot_len (pa_cons (pv 0) pa_nil)) (nomark _)) (pss_one (ps_ret (pe_ix ix_list (pv 0) (pv 1) (fun _ _ => rfl)))) pss_nil)
      (pss_one (ps_ret pe_int))), ?_⟩
  refine ⟨_, rfl, _, rfl, a, _, rfl, .inl hS, _, _, rfl, rfl, _, rfl, ?_⟩
  refine ite2 (fun c => ?_) (fun c => ?_)
  · have c' := of_decide_eq_true c
    exact ⟨_, rfl, _, rfl, a, _, _, _, rfl, rfl, hS, cell_at c', q⟩
  · have c' := of_decide_eq_false (Bool.eq_false_iff.mpr c)
    have q' := q
    rw [cell_out c'] at q'
    exact q'
end
/-! the text of the laws k11 to k16 -/

abbrev litA : List Nat := [32, 33, 34, 35, 36, 38, 39, 40, 41, 42, 43, 44, 45, 46, 47, 48, 49, 50, 51, 52, 53, 54, 55, 56, 57, 58, 59, 60, 61, 62, 63, 64, 65, 66, 67, 68, 69, 70, 71, 72, 73, 74, 75, 76, 77, 78, 79, 80, 81, 82, 83, 84, 85, 86, 87, 88, 89, 90, 91, 92, 93, 94, 95, 96, 97, 98, 99, 100, 101, 102, 103, 104, 105, 106, 107, 108, 109, 110, 111, 112, 113, 114, 115, 116, 117, 118, 119, 120, 121, 122, 123, 124, 125]
abbrev litB : List Nat := [40, 41, 91, 93, 123, 125]
abbrev litC : List Nat := [97, 66, 48, 32, 122, 57, 89, 40, 120, 99, 41, 100, 49, 69, 32, 102]
theorem litA_lt : ∀ c ∈ litA, c < 128 := by decide
theorem litB_lt : ∀ c ∈ litB, c < 128 := by decide
theorem litC_lt : ∀ c ∈ litC, c < 128 := by decide
def sp_sign : Sp := fun vs H Q _ => ∃ n : Int, vs = [.int n] ∧ ∀ c : Nat, c < 128 → Q (.str (S [c])) H
section
variable {P : Program} {w : World} {K : PySem.W.Frag} {mg : Str → Option Value} {base : Heap} {f : Addr} {fd : FuncData}
theorem sc__law_sign : FnScope ["_law_number", "_law_some", "_law_kind"] ["_law_number"] (defScope s__law_sign) := ⟨rfl, rfl, rfl, by decide +kernel, rfl, by decide +kernel, by decide +kernel⟩
theorem ok_sign (F : Fun K "_law_sign" "_law_sign" s__law_sign f fd) : FnOk P w K mg base CX0 1 f fd ["_law_number"] sp_sign := by
  refine F.ok sc__law_sign (fun vs H Q E h => ?_) (fun cdv A outer s H vs Q E hr h => ?_)
  · obtain ⟨n, rfl, _⟩ := h
    rfl
  obtain ⟨n, rfl, q⟩ := h
  refine ⟨_, (pss_cons (ps_set (i := 1) sc__law_sign.nd rfl (Or.inl rfl) pe_str)
      (pss_cons (ps_set (i := 2) sc__law_sign.nd rfl (Or.inl rfl) (pe_op op_mod (pv 0) pe_int))
      (pss_cons (ps_if (pt_cmpR op_eq (pv 2) pe_int (nomark _)) (pss_one (ps_ret pe_str)) pss_nil)
      (pss_cons (ps_if (pt_cmpR op_eq (pv 2) pe_int (nomark _)) (pss_one (ps_ret pe_str)) pss_nil)
      (pss_cons (ps_if (pt_cmpR op_eq (pv 2) pe_int (nomark _)) (pss_one (ps_ret (pe_ix ix_S pe_str (pe_op op_mod (pe_op op_fdiv (pv 0) pe_int) pe_int) (fun _ _ => rfl)))) pss_nil)
      (pss_cons (ps_if (pt_cmpR op_lt (pv 2) pe_int (nomark _)) (pss_one (ps_ret (pe_ix ix_S pe_str (pe_op op_mod (pe_op op_fdiv (pv 0) pe_int) pe_int) (fun _ _ => rfl)))) pss_nil)
      (pss_one (ps_ret (pe_ix ix_S (pv 1) (pe_op op_mod (pe_op op_fdiv (pv 0) pe_int) pe_int) (fun _ _ => rfl)))))))))), ?_⟩
  refine ⟨_, rfl, _, _, rfl, rfl, (by show (0 : Int) < 8; decide), ?_⟩
  refine ⟨_, rfl, rfl, _, rfl, ?_⟩
  refine ite2 (fun c => q 10 (by decide)) (fun c => ?_)
  refine ⟨_, rfl, rfl, _, rfl, ?_⟩
  refine ite2 (fun c => q 32 (by decide)) (fun c => ?_)
  refine ⟨_, rfl, rfl, _, rfl, ?_⟩
  refine ite2 (fun c => ?_) (fun c => ?_)
  · have h0 : 0 ≤ n / 8 % 6 := Int.emod_nonneg _ (by decide)
    have h1 : n / 8 % 6 < 6 := Int.emod_lt_of_pos _ (by decide)
    have hz : (n / 8 % 6).toNat < litB.length := by show _ < 6; omega
    exact ⟨_, rfl, _, _, rfl, rfl, ⟨by decide, by decide⟩, _, _, rfl, rfl, (by show (0 : Int) < 6; decide), litB, _, _, rfl, rfl, small (by decide), atI_in litB h0 hz, q _ (litB_lt _ (List.getElem_mem _))⟩
  refine ⟨_, rfl, _, _, rfl, rfl, _, rfl, ?_⟩
  refine ite2 (fun c => ?_) (fun c => ?_)
  · have h0 : 0 ≤ n / 8 % 16 := Int.emod_nonneg _ (by decide)
    have h1 : n / 8 % 16 < 16 := Int.emod_lt_of_pos _ (by decide)
    have hz : (n / 8 % 16).toNat < litC.length := by show _ < 16; omega
    exact ⟨_, rfl, _, _, rfl, rfl, ⟨by decide, by decide⟩, _, _, rfl, rfl, (by show (0 : Int) < 16; decide), litC, _, _, rfl, rfl, small (by decide), atI_in litC h0 hz, q _ (litC_lt _ (List.getElem_mem _))⟩
  · have h0 : 0 ≤ n / 8 % 93 := Int.emod_nonneg _ (by decide)
    have h1 : n / 8 % 93 < 93 := Int.emod_lt_of_pos _ (by decide)
    have hz : (n / 8 % 93).toNat < litA.length := by show _ < 93; omega
    exact ⟨_, rfl, _, rfl, _, _, rfl, rfl, ⟨by decide, by decide⟩, _, _, rfl, rfl, (by show (0 : Int) < 93; decide), litA, _, _, rfl, rfl, small (by decide), atI_in litA h0 hz, q _ (litA_lt _ (List.getElem_mem _))⟩
def ones (l : List Nat) : List V := l.map fun c => V.str (S [c])
theorem ones_eq (l : List Nat) : ones l = (l.map fun c => [c]).map fun r => V.str (S r) := by unfold ones; rw [List.map_map]; rfl
theorem ones_flat (l : List Nat) : (l.map fun c => [c]).flatten = l := by
  induction l with
  | nil => rfl
  | cons c l ih => rw [List.map_cons, List.flatten_cons, ih]; rfl
end

/-! the text of the laws k31 to k39 -/

abbrev litF : List Nat := [97, 98, 32, 32, 99, 68, 40, 101]
theorem litF_lt : ∀ c ∈ litF, c < 128 := by decide
def sp_text2 (K : PySem.W.Frag) : Sp := fun vs H Q _ => ∃ (a : Addr) (ns : List Int), vs = [.ref a] ∧ SqL K H a (ns.map V.int) ∧ ns.length ≤ 63 ∧ ∀ (l : List Nat) (H' : Hp), Same H H' → l.length ≤ 600 → (∀ c ∈ l, c < 128) → Q (.str (S l)) H'
section
variable {P : Program} {w : World} {K : PySem.W.Frag} {mg : Str → Option Value} {base : Heap} {f : Addr} {fd : FuncData}
theorem sc__law_text : FnScope ["_law_script", "_law_text_here", "_law_far"] ["_law_script"] (defScope s__law_text) := ⟨rfl, rfl, rfl, by decide +kernel, rfl, by decide +kernel, by decide +kernel⟩
theorem ok_text2 (F : Fun K "_law_text" "_law_text" s__law_text f fd) (O__law_cell_at : Own P w K mg base CX0 1 "_law_cell_at" ["_law_script", "_law_k"] (sp_cell K)) (O__law_sign : Own P w K mg base CX0 1 "_law_sign" ["_law_number"] sp_sign) (m_len : mg "len" = none) :
    FnOk P w K mg base CX0 2 f fd ["_law_script"] (sp_text2 K) := by
  refine F.ok sc__law_text (fun vs H Q E h => ?_) (fun cdv A outer s H vs Q E hr h => ?_)
  · obtain ⟨a, ns, rfl, _⟩ := h
    rfl
  obtain ⟨a, ns, rfl, hS, h63, q⟩ := h
  refine ⟨_, (pss_cons (ps_set (i := 1) sc__law_text.nd rfl (Or.inl rfl) (pe_bm PySem.F.plainAttrs_str PySem.F.slot_str_join PySem.F.type_str_join mt_join pe_str (pa_cons (pe_comp ["_law_cell"] _ [] rfl (cl_none ["_law_cell"] (by decide +kernel) rfl (by decide +kernel)) (pi_list (pe_slice sl_list (pv 0) (po_some pe_int) (po_some pe_int))) (fun _ _ _ _ => pg_name (i := 0) (nd1 _) rfl (Or.inl rfl)) (fun _ _ _ _ => pif_nil) (fun _ _ _ _ => (pe_own O__law_sign hr (by rfl) pass0 (pa_cons (pv 0) pa_nil)))) pa_nil)))
      (pss_cons (ps_if (pt_cmpR op_eq (pe_op op_mod (pe_own O__law_cell_at hr (by rfl) pass0 (pa_cons (pv 0) (pa_cons pe_int pa_nil))) pe_int) pe_int (nomark _)) (pss_cons (ps_set (i := 2) sc__law_text.nd rfl (Or.inl rfl) (pe_op op_sub (pe_op op_sub pe_int (pe_op op_mod (pe_op op_fdiv (pe_own O__law_cell_at hr (by rfl) pass0 (pa_cons (pv 0) (pa_cons pe_int pa_nil))) pe_int) pe_int)) (pe_callB call_lenS (by rfl) m_len PySem.boot_len (pa_cons (pv 1) pa_nil))))
      (pss_one (ps_set (i := 1) sc__law_text.nd rfl (Or.inl rfl) (pe_op op_adS (pe_op op_adS (pe_slice sl_str (pv 1) po_none (po_some pe_int)) (pe_slice sl_str (pe_op op_mulS pe_str pe_int) po_none (po_some (pv 2)))) (pe_slice sl_str (pv 1) (po_some pe_int) po_none))))) pss_nil)
      (pss_one (ps_ret (pv 1))))), ?_⟩
  refine ⟨rfl, _, rfl, _, rfl, _, rfl, a, _, rfl, hS, fun d hd => ?_⟩
  have S1 := same_new hd (.lst (cutV (ns.map V.int) (some 2) (some 62)))
  have hcut : (cutL ns (some 2) (some 62)).length ≤ 60 := by
    have e : cutL ns (some 2) (some 62) = (ns.drop 2).take 60 := cutL_nn ns 2 62
    rw [e, List.length_take]
    omega
  have sqd : SqL K (upd H d (.lst (cutV (ns.map V.int) (some 2) (some 62)))) d ((cutL ns (some 2) (some 62)).map V.int) := sq_cut
  generalize upd H d (.lst (cutV (ns.map V.int) (some 2) (some 62))) = H1 at S1 sqd
  generalize cutL ns (some 2) (some 62) = cs at hcut sqd
  refine ⟨d, rfl, ⟨_, sqd⟩, fun D hD => ?_⟩
  refine comp_list (xs := cs.map V.int) (fun i σ H' => ∃ (x : Option V) (l : List Nat), σ = [x] ∧ Same H1 H' ∧ H' D = some (.lst (ones l)) ∧ l.length = i ∧ ∀ c ∈ l, c < 128) ⟨none, [], rfl, same_new hD _, upd_same, rfl, fun c h => by cases h⟩ (fun i σ H' _ h => ?_) ?_ ?_
  · obtain ⟨x, l, _, S2, _⟩ := h
    exact S2.seq sqd
  · intro i v σ H' hv hP
    obtain ⟨x, l, rfl, S2, hD2, hl, hc⟩ := hP
    have hi : i < cs.length := by
      have := (List.getElem?_eq_some_iff.mp hv).1
      rwa [List.length_map] at this
    obtain ⟨n, hn, rfl⟩ := List.mem_map.mp (List.mem_of_getElem? hv)
    refine yes ⟨_, rfl, n, rfl, fun c hc' => ⟨_, hD2, ?_, ?_⟩⟩
    · unfold ones
      rw [List.length_map, hl]
      exact Nat.lt_of_lt_of_le hi (small (by omega))
    · refine ⟨_, l ++ [c], rfl, same_upd S2 hD, ?_, by rw [List.length_append, hl]; rfl, fun c2 h2 => ?_⟩
      · rw [upd_same]
        unfold ones
        rw [List.map_append]
        rfl
      · rcases List.mem_append.mp h2 with z | z
        · exact hc _ z
        · rw [List.mem_singleton] at z; subst z; exact hc'
  · intro σ' H' hP
    obtain ⟨x, l, rfl, S2, hD2, hl, hc⟩ := hP
    rw [List.length_map] at hl
    have hl60 : l.length ≤ 60 := by omega
    have SD : SqL K H' D ((l.map fun c => [c]).map fun r => V.str (S r)) := by rw [← ones_eq]; exact SqL.of hD2
    have SS := S1.trans S2
    refine ⟨D, l.map fun c => [c], rfl, rfl, SD, by rw [ones_flat]; omega, ?_⟩
    rw [ones_flat]
    refine ⟨_, rfl, a, ns, 0, rfl, SS.seq hS, _, _, rfl, rfl, (by show (0 : Int) < 5; decide), rfl, _, rfl, ?_⟩
    refine ite2 (fun c => ?_) (fun c => ?_)
    · have m0 : 0 ≤ cell ns 0 / 5 % 9 := Int.emod_nonneg _ (by decide)
      have m1 : cell ns 0 / 5 % 9 < 9 := Int.emod_lt_of_pos _ (by decide)
      refine ⟨_, rfl, a, ns, 0, rfl, SS.seq hS, _, _, rfl, rfl, ⟨by decide, by decide⟩, _, _, rfl, rfl, (by show (0 : Int) < 9; decide), _, _, rfl, rfl, _, rfl, l, rfl, small (by omega), _, _, rfl, rfl, ?_⟩
      show gName _ (V.int (600 - cell ns 0 / 5 % 9 - (l.length : Int))) _ _ _
      generalize cell ns 0 / 5 % 9 = z at m0 m1
      have hf : (rep litF 75).length = 600 := rep_len litF 75
      have e1 : cutL l none (some 20) = l.take 20 := cutL_m l 20
      have e2 : cutL l (some 20) none = l.drop 20 := cutL_n l 20
      have e3 : cutL (rep litF 75) none (some (600 - z - (l.length : Int))) = (rep litF 75).take (600 - z - (l.length : Int)).toNat := cutL_j _ (by omega)
      have hlen : (cutL l none (some 20) ++ cutL (rep litF 75) none (some (600 - z - (l.length : Int)))).length + (cutL l (some 20) none).length ≤ 600 := by
        rw [e1, e2, e3, List.length_append, List.length_take, List.length_take, List.length_drop, hf]
        omega
      refine ⟨_, rfl, _, rfl, l, rfl, small (by omega), litF, 75, rfl, rfl, by decide, by decide, by decide, _, rfl, _, rfl, _, rfl, small (by rw [show (75 : Int).toNat = 75 from rfl, hf]; decide), _, _, rfl, rfl, ?_, _, rfl, _, rfl, l, rfl, small (by omega), _, _, rfl, rfl, ?_, _, rfl, ?_⟩
      · refine Nat.le_trans ?_ (small (Nat.le_refl _))
        show (cutL l none (some 20)).length + (cutL (rep litF 75) none (some (600 - z - (l.length : Int)))).length ≤ 1000000
        rw [List.length_append] at hlen
        omega
      · exact Nat.le_trans hlen (small (by decide))
      · refine q _ H' SS ?_ ?_
        · rw [List.length_append]
          exact hlen
        · intro c hc'
          rcases List.mem_append.mp hc' with h | h
          · rcases List.mem_append.mp h with h | h
            · rw [e1] at h
              exact hc c (List.mem_of_mem_take h)
            · have h' : c ∈ cutL (rep litF 75) none (some (600 - z - (l.length : Int))) := h
              rw [e3] at h'
              exact rep_all litF_lt c (List.mem_of_mem_take h')
          · rw [e2] at h
            exact hc c (List.mem_of_mem_drop h)
    · exact ⟨_, rfl, q l H' SS (by omega) hc⟩
end

/-! the law's own comparison of what a verb tells -/

abbrev Spl := Nat × List Nat × List Nat
def splV (sps : List Spl) : List (List V) := sps.map fun s => [nV s.1, .str (S s.2.1), .str (S s.2.2)]
def sp_lwhole : Sp := fun vs H Q _ => ∃ i : Int, vs = [.int i] ∧ Q (.bl true) H
def sp_lsplices : Sp := fun vs H Q _ => ∃ (D E : Addr) (sps : List Spl), vs = [.ref D, .ref E] ∧ TupsV H D (splV sps) ∧ TupsV H E (splV sps) ∧ Q (.bl true) H
theorem spl_flat (s : Spl) : ([nV s.1, .str (S s.2.1), .str (S s.2.2)] : List V).all flatV = true ∧ eqs [nV s.1, .str (S s.2.1), .str (S s.2.2)] [nV s.1, .str (S s.2.1), .str (S s.2.2)] = true := by
  refine ⟨rfl, ?_⟩
  show (eqV (nV s.1) (nV s.1) && (eqV (.str (S s.2.1)) (.str (S s.2.1)) && (eqV (.str (S s.2.2)) (.str (S s.2.2)) && true))) = true
  rw [eqV_self (x := nV s.1) rfl, eqV_self (x := .str (S s.2.1)) rfl, eqV_self (x := .str (S s.2.2)) rfl]
  rfl
theorem splV_at {sps : List Spl} {i : Nat} {t : List V} (h : (splV sps)[i]? = some t) : ∃ s, sps[i]? = some s ∧ t = [nV s.1, .str (S s.2.1), .str (S s.2.2)] := by
  unfold splV at h
  rw [List.getElem?_map] at h
  cases e : sps[i]? with
  | none => rw [e] at h; cases h
  | some s => rw [e] at h; exact ⟨s, rfl, (Option.some.inj h).symm⟩
section
variable {P : Program} {w : World} {K : PySem.W.Frag} {mg : Str → Option Value} {base : Heap} {f : Addr} {fd : FuncData}
theorem sc__law_whole : FnScope ["_law_found"] ["_law_found"] (defScope s__law_whole) := ⟨rfl, rfl, rfl, by decide +kernel, rfl, by decide +kernel, by decide +kernel⟩
theorem ok_lwhole (F : Fun K "_law_whole" "_law_whole" s__law_whole f fd) (m_isinstance : mg "isinstance" = none) (m_int : mg "int" = none) (m_bool : mg "bool" = none) : FnOk P w K mg base CX0 1 f fd ["_law_found"] sp_lwhole := by
  refine F.ok sc__law_whole (fun vs H Q E h => ?_) (fun cdv A outer s H vs Q E hr h => ?_)
  · obtain ⟨x, rfl, _⟩ := h
    rfl
  obtain ⟨x, rfl, q⟩ := h
  refine ⟨_, (pss_one (ps_ret (pe_and (pe_callB call_isi (by rfl) m_isinstance boot_isi (pa_cons (pv 0) (pa_cons (pe_bltn (v := .ty "int") (by rfl) m_int boot_int rfl) pa_nil))) (pe_one (pe_not (pe_callB call_isi (by rfl) m_isinstance boot_isi (pa_cons (pv 0) (pa_cons (pe_bltn (v := .ty "bool") (by rfl) m_bool boot_bool rfl) pa_nil)))))))), ?_⟩
  refine ⟨_, rfl, _, _, _, _, rfl, ⟨_, .inl rfl⟩, .int x, kit_ii, _, rfl, iteT ?_⟩
  exact ⟨_, rfl, _, _, _, _, rfl, ⟨_, .inl rfl⟩, .int x, kit_ib, _, rfl, q⟩
theorem sc__law_splices : FnScope ["_law_found", "_law_due_here", "_law_splice"] ["_law_found", "_law_due_here"] (defScope s__law_splices) := ⟨rfl, rfl, rfl, by decide +kernel, rfl, by decide +kernel, by decide +kernel⟩
theorem ok_lsplices (F : Fun K "_law_splices" "_law_splices" s__law_splices f fd) (O__law_whole : Own P w K mg base CX0 1 "_law_whole" ["_law_found"] sp_lwhole) (m_len : mg "len" = none) (m_isinstance : mg "isinstance" = none) (m_str : mg "str" = none) (m_tuple : mg "tuple" = none) (m_list : mg "list" = none) : FnOk P w K mg base CX0 2 f fd ["_law_found", "_law_due_here"] sp_lsplices := by
  refine F.ok sc__law_splices (fun vs H Q E h => ?_) (fun cdv A outer s H vs Q E hr h => ?_)
  · obtain ⟨D, E, sps, rfl, _⟩ := h
    rfl
  obtain ⟨D, E, sps, rfl, hD, hE, q⟩ := h
  obtain ⟨xs, hx, hxl, hxa⟩ := hD.mem
  obtain ⟨ys, hy, hyl, _⟩ := hE.mem
  refine ⟨_, (pss_cons (ps_if (PW.pt (pw_or (pt_not (pt_val (pe_callB call_isi (by rfl) m_isinstance boot_isi (pa_cons (pv 0) (pa_cons (pe_bltn (v := .ty "list") (by rfl) m_list boot_list rfl) pa_nil))))) (pw_or1 (pt_cmpR op_ne (pe_callB call_len_seq (by rfl) m_len PySem.boot_len (pa_cons (pv 0) pa_nil)) (pe_callB call_len_seq (by rfl) m_len PySem.boot_len (pa_cons (pv 1) pa_nil)) (nomark _))))) (pss_one (ps_ret pe_bl)) pss_nil)
      (pss_cons (ps_for PassesOwn.never rfl (pi_list (pv 0)) (pg_name (i := 2) sc__law_splices.nd rfl (Or.inl rfl)) (pss_cons (ps_if (PW.pt (pw_or (pt_not (pt_val (pe_callB call_isi (by rfl) m_isinstance boot_isi (pa_cons (pv 2) (pa_cons (pe_bltn (v := .ty "tuple") (by rfl) m_tuple boot_tuple rfl) pa_nil))))) (pw_or (pt_cmpR op_ne (pe_callB call_len_seq (by rfl) m_len PySem.boot_len (pa_cons (pv 2) pa_nil)) pe_int (nomark _)) (pw_or1 (pt_not (pt_val (pe_own O__law_whole hr (by rfl) pass0 (pa_cons (pe_ix ix_tup (pv 2) pe_int (fun _ _ => rfl)) pa_nil)))))))) (pss_one (ps_ret pe_bl)) pss_nil)
      (pss_one (ps_if (PW.pt (pw_or (pt_not (pt_val (pe_callB call_isi (by rfl) m_isinstance boot_isi (pa_cons (pe_ix ix_tup (pv 2) pe_int (fun _ _ => rfl)) (pa_cons (pe_bltn (v := .ty "str") (by rfl) m_str boot_str rfl) pa_nil))))) (pw_or1 (pt_not (pt_val (pe_callB call_isi (by rfl) m_isinstance boot_isi (pa_cons (pe_ix ix_tup (pv 2) pe_int (fun _ _ => rfl)) (pa_cons (pe_bltn (v := .ty "str") (by rfl) m_str boot_str rfl) pa_nil)))))))) (pss_one (ps_ret pe_bl)) pss_nil))))
      (pss_one (ps_ret (pe_cmpR (op_eqP hr.u1) (pv 0) (pv 1) (nomark _)))))), ?_⟩
  refine ⟨_, rfl, _, _, _, _, rfl, ⟨_, .inl rfl⟩, .lst hx, kit_ll, _, rfl, iteF ?_⟩
  refine ⟨_, rfl, D, _, rfl, .inl (SqL.of hx), _, rfl, E, _, rfl, .inl (SqL.of hy), rfl, _, rfl, iteNS ?_ ?_⟩
  · show V.int ((xs.length : Nat) : Int) = V.int ((ys.length : Nat) : Int)
    rw [hxl, hyl]
  refine ⟨_, rfl, D, rfl, ⟨_, SqL.of hx⟩, ?_⟩
  refine for_list (xs := xs) (fun i σ H' => H = H' ∧ ∃ x : Option V, σ = [some (.ref D), some (.ref E), x]) ⟨rfl, none, rfl⟩ (fun i σ H' _ h => by rw [← h.1]; exact SqL.of hx) ?_ ?_
  · rintro i v σ H' hv ⟨rfl, x, rfl⟩
    obtain ⟨t, tt, rfl, h1, ht⟩ := hxa i v hv
    obtain ⟨s, _, rfl⟩ := splV_at h1
    refine ⟨_, rfl, _, _, _, _, rfl, ⟨_, .inl rfl⟩, .tup ht, kit_tt, _, rfl, iteF ?_⟩
    refine ⟨_, rfl, t, _, rfl, .inr (SqT.of ht), rfl, _, rfl, iteF ?_⟩
    refine ⟨_, rfl, t, _, _, _, rfl, rfl, SqT.of ht, rfl, _, rfl, _, rfl, iteF ?_⟩
    refine ⟨_, rfl, t, _, _, _, rfl, rfl, SqT.of ht, rfl, _, _, _, _, rfl, ⟨_, .inl rfl⟩, .str _, kit_ss, _, rfl, iteF ?_⟩
    exact ⟨_, rfl, t, _, _, _, rfl, rfl, SqT.of ht, rfl, _, _, _, _, rfl, ⟨_, .inl rfl⟩, .str _, kit_ss, _, rfl, iteF ⟨rfl, _, rfl⟩⟩
  · rintro σ H' ⟨rfl, x, rfl⟩
    obtain ⟨as, a1, a2, a3⟩ := hD
    obtain ⟨bs, b1, b2, b3⟩ := hE
    refine ⟨_, rfl, _, rfl, D, E, as, bs, rfl, rfl, SqL.of a1, SqL.of b1, by rw [a2, b2], fun j a b ea eb => ?_, q⟩
    have hj : j < (splV sps).length := by rw [← a2]; exact (List.getElem?_eq_some_iff.mp ea).1
    have e := List.getElem?_eq_getElem hj
    obtain ⟨s, _, es⟩ := splV_at e
    obtain ⟨f1, f2⟩ := spl_flat s
    rw [es] at e
    exact ⟨_, SqT.of (a3 j a _ ea e), SqT.of (b3 j b _ eb e), f1, f2⟩
end


def sp_told3 : Sp := fun vs H Q _ => ∃ (u D E : Addr) (sps : List Spl) (p : Nat), vs = [.ref u, .ref E, .int (p : Int)] ∧ H u = some (.tup [.ref D, nV p]) ∧ TupsV H D (splV sps) ∧ TupsV H E (splV sps) ∧ Q (.bl true) H
section
variable {P : Program} {w : World} {K : PySem.W.Frag} {mg : Str → Option Value} {base : Heap} {f : Addr} {fd : FuncData}
theorem sc__law_told : FnScope ["_law_found", "_law_splices_here", "_law_place"] ["_law_found", "_law_splices_here", "_law_place"] (defScope s__law_told) := ⟨rfl, rfl, rfl, by decide +kernel, rfl, by decide +kernel, by decide +kernel⟩
theorem ok_told3 (F : Fun K "_law_told" "_law_told" s__law_told f fd) (O__law_whole : Own P w K mg base CX0 1 "_law_whole" ["_law_found"] sp_lwhole) (O__law_splices : Own P w K mg base CX0 2 "_law_splices" ["_law_found", "_law_due_here"] sp_lsplices) (m_len : mg "len" = none) (m_isinstance : mg "isinstance" = none) (m_tuple : mg "tuple" = none) : FnOk P w K mg base CX0 3 f fd ["_law_found", "_law_splices_here", "_law_place"] sp_told3 := by
  refine F.ok sc__law_told (fun vs H Q E h => ?_) (fun cdv A outer s H vs Q E hr h => ?_)
  · obtain ⟨u, D, E, sps, p, rfl, _⟩ := h
    rfl
  obtain ⟨u, D, E, sps, p, rfl, hu, hD, hE, q⟩ := h
  refine ⟨_, (pss_cons (ps_if (PW.pt (pw_or (pt_not (pt_val (pe_callB call_isi (by rfl) m_isinstance boot_isi (pa_cons (pv 0) (pa_cons (pe_bltn (v := .ty "tuple") (by rfl) m_tuple boot_tuple rfl) pa_nil))))) (pw_or (pt_cmpR op_ne (pe_callB call_len_seq (by rfl) m_len PySem.boot_len (pa_cons (pv 0) pa_nil)) pe_int (nomark _)) (pw_or1 (pt_not (pt_val (pe_own O__law_splices hr (by rfl) pass0 (pa_cons (pe_ix ix_tup (pv 0) pe_int (fun _ _ => rfl)) (pa_cons (pv 1) pa_nil))))))))) (pss_one (ps_ret pe_bl)) pss_nil)
      (pss_one (ps_ret (pe_and (pe_own O__law_whole hr (by rfl) pass0 (pa_cons (pe_ix ix_tup (pv 0) pe_int (fun _ _ => rfl)) pa_nil)) (pe_one (pe_cmpR op_eq (pe_ix ix_tup (pv 0) pe_int (fun _ _ => rfl)) (pv 2) (nomark _))))))), ?_⟩
  refine ⟨_, rfl, _, _, _, _, rfl, ⟨_, .inl rfl⟩, .tup hu, kit_tt, _, rfl, iteF ?_⟩
  refine ⟨_, rfl, u, _, rfl, .inr (SqT.of hu), rfl, _, rfl, iteF ?_⟩
  refine ⟨_, rfl, u, _, _, _, rfl, rfl, SqT.of hu, rfl, _, rfl, D, E, sps, rfl, hD, hE, _, rfl, iteF ?_⟩
  refine ⟨_, rfl, u, _, _, _, rfl, rfl, SqT.of hu, rfl, (p : Int), rfl, _, rfl, iteT ?_⟩
  refine ⟨_, rfl, u, _, _, _, rfl, rfl, SqT.of hu, rfl, _, rfl, rfl, ?_⟩
  rw [decide_eq_true (show nV p = V.int (p : Int) from rfl)]
  exact q
end

end My

set_option Elab.async false
set_option linter.all false
set_option maxRecDepth 100000
set_option maxHeartbeats 4000000
namespace My
open PySem L2



def cutT (l : List Nat) (a b : Nat) : List Nat := (l.drop a).take (b - a)
/-! what the program's lays are to tell -/

abbrev LayR := Option (List Spl × Nat)
def LayV (H H' : Hp) (v : V) : LayR → Prop
  | none => v = .non
  | some (sps, p) => ∃ u D, v = .ref u ∧ H' u = some (.tup [.ref D, nV p]) ∧ TupsV H' D (splV sps) ∧ H D = none
theorem comp_signsR {n : Nat} {D : Addr} {ix : List (Option Nat)} {te : TE} {σ : St} {H : Hp} {Q : VK} (cap : St) (hσ : around ix σ = none :: cap) (hD : H D = none) (hn : n ≤ 1000)
    (he : ∀ (i : Nat) (H' : Hp) (k : VK), i < n → Same H H' → (∀ (c : Nat) (H2 : Hp), c < 128 → Same H' H2 → k (.str (S [c])) H2) → te (some (.int (i : Int)) :: cap) H' k)
    (hd : ∀ (l : List Nat) (H' : Hp), Same H H' → l.length = n → (∀ c ∈ l, c < 128) → H' D = some (.lst (ones l)) → Q (.ref D) H') : CompW (Itr 0 n) D (around ix σ) (upd H D (.lst [])) (gName 0) tYes te Q := by
  refine comp_range (fun i σ H' => (∃ x : Option V, σ = x :: cap) ∧ Same H H' ∧ ∃ l : List Nat, l.length = i ∧ (∀ c ∈ l, c < 128) ∧ H' D = some (.lst (ones l))) ⟨⟨none, hσ⟩, same_new hD _, [], rfl, (fun c h => by cases h), upd_same⟩ ?_ ?_
  · rintro i σ H' hi ⟨⟨x, rfl⟩, SS, l, hl, hc, hD'⟩
    rw [Int.zero_add]
    refine yes (he i H' _ hi SS fun c H2 hc' S2 => ⟨_, S2 _ _ hD', ?_, ⟨_, rfl⟩, same_upd (SS.trans S2) hD, l ++ [c], by rw [List.length_append, hl]; rfl, fun c2 h2 => ?_, ?_⟩)
    · unfold ones
      rw [List.length_map, hl]
      exact Nat.lt_of_lt_of_le (show _ < 1000000 by omega) (small (Nat.le_refl _))
    · rcases List.mem_append.mp h2 with z | z
      · exact hc _ z
      · rw [List.mem_singleton] at z; subst z; exact hc'
    · rw [upd_same]
      unfold ones
      rw [List.map_append]
      rfl
  · rintro σ H' ⟨_, SS, l, hl, hc, hD'⟩
    exact hd l H' SS hl hc hD'

/-! the numbers that the laws k33 to k39 draw -/
theorem comp_nums {K : PySem.W.Frag} {a D : Addr} {ns : List Int} {ix : List (Option Nat)} {σ : St} {H : Hp} {Q : VK} {te : TE} (g : Int → Int) (hσ : around ix σ = [none]) (ha : SqL K H a (ns.map V.int)) (hD : H D = none) (hn : ns.length ≤ 100)
    (he : ∀ (x : Int) (H' : Hp) (k : VK), k (.int (g x)) H' → te [some (.int x)] H' k)
    (hd : ∀ H', Same H H' → H' D = some (.lst ((ns.map g).map V.int)) → Q (.ref D) H') : CompW (Itl K a) D (around ix σ) (upd H D (.lst [])) (gName 0) tYes te Q := by
  refine comp_list (xs := ns.map V.int) (fun i σ H' => (∃ x : Option V, σ = [x]) ∧ Same H H' ∧ H' D = some (.lst (((ns.take i).map g).map V.int))) ⟨⟨none, hσ⟩, same_new hD _, upd_same⟩ (fun i σ H' _ h => h.2.1.seq ha) ?_ ?_
  · rintro i v σ H' hv ⟨⟨x, rfl⟩, SS, hD'⟩
    have hi : i < ns.length := by
      have := (List.getElem?_eq_some_iff.mp hv).1
      rwa [List.length_map] at this
    rw [List.getElem?_map, List.getElem?_eq_getElem hi] at hv
    cases hv
    refine yes (he _ H' _ ⟨_, hD', ?_, ⟨_, rfl⟩, same_upd SS hD, ?_⟩)
    · rw [List.length_map, List.length_map, List.length_take]
      exact Nat.lt_of_lt_of_le (show _ < 1000000 by omega) (small (Nat.le_refl _))
    · rw [upd_same, List.take_succ, List.getElem?_eq_getElem hi, List.map_append, List.map_append]
      rfl
  · rintro σ H' ⟨_, SS, hD'⟩
    rw [List.length_map, List.take_length] at hD'
    exact hd H' SS hD'

/-! the law's own rows: where a place stands, where each begins -/

def rowsV (l : List Nat) : List V := (splitL l).map fun r => V.str (S r)
theorem rows_at {l : List Nat} {r : Nat} (h : r ≤ l.count 10) : ∃ rr : List Nat, atI (rowsV l) (r : Int) = some (.str (S rr)) ∧ rr.length = endAt l r - begAt l r := by
  obtain ⟨rr, e1, e2⟩ := splitL_at (l := l) (i := r) (by omega)
  refine ⟨rr, atI_nat ?_, e2⟩
  unfold rowsV
  rw [List.getElem?_map, e1]
  rfl
def sp_at : Sp := fun vs H Q _ => ∃ (R : Addr) (l : List Nat) (p : Nat), vs = [.ref R, .int (p : Int)] ∧ H R = some (.lst (rowsV l)) ∧ l.length ≤ 1000 ∧ p ≤ l.length ∧ ∀ (t : Addr) (H' : Hp), Same H H' → H' t = some (.tup [.int (rno l p : Nat), .int (p - rb l p : Nat)]) → Q (.ref t) H'
def atP (R : Addr) (l : List Nat) (p : Nat) (H : Hp) (σ : St) (H' : Hp) : Prop := H = H' ∧ ∃ r : Nat, σ = [some (.ref R), some (.int ((p : Int) - begAt l r)), some (.int (r : Int))] ∧ begAt l r ≤ p ∧ r ≤ rno l p
def atM (l : List Nat) (σ : St) (_ : Hp) : Nat := match σ with | [_, _, some (.int k)] => ((l.length : Int) + 1 - k).toNat | _ => 0
section
variable {P : Program} {w : World} {K : PySem.W.Frag} {mg : Str → Option Value} {base : Heap} {f : Addr} {fd : FuncData}
theorem sc__law_at : FnScope ["_law_rows", "_law_place", "_law_row"] ["_law_rows", "_law_place"] (defScope s__law_at) := ⟨rfl, rfl, rfl, by decide +kernel, rfl, by decide +kernel, by decide +kernel⟩
theorem ok_at (F : Fun K "_law_at" "_law_at" s__law_at f fd) (m_len : mg "len" = none) : FnOk P w K mg base CX0 1 f fd ["_law_rows", "_law_place"] sp_at := by
  refine F.ok sc__law_at (fun vs H Q E h => ?_) (fun cdv A outer s H vs Q E hr h => ?_)
  · obtain ⟨R, l, p, rfl, _⟩ := h
    rfl
  obtain ⟨R, l, p, rfl, hR, hl, hp, q⟩ := h
  have hcl := count_le l
  have hrl := rno_le l hp
  refine ⟨_, (pss_cons (ps_set (i := 2) sc__law_at.nd rfl (Or.inl rfl) pe_int)
      (pss_cons (ps_while PassesOwn.never (pt_cmpR op_gt (pv 1) (pe_callB call_lenS (by rfl) m_len PySem.boot_len (pa_cons (pe_ix ix_list (pv 0) (pv 2) (fun _ _ => rfl)) pa_nil)) (nomark _)) (pss_cons (ps_set (i := 1) sc__law_at.nd rfl (Or.inl rfl) (pe_op op_sub (pe_op op_sub (pv 1) (pe_callB call_lenS (by rfl) m_len PySem.boot_len (pa_cons (pe_ix ix_list (pv 0) (pv 2) (fun _ _ => rfl)) pa_nil))) pe_int))
      (pss_one (ps_set (i := 2) sc__law_at.nd rfl (Or.inl rfl) (pe_op op_add (pv 2) pe_int)))))
      (pss_one (ps_ret (pe_tup (pa_cons (pv 2) (pa_cons (pv 1) pa_nil))))))), ?_⟩
  refine while_in (atP R l p H) (atM l) ⟨rfl, 0, (by show _ = [_, some (V.int ((p : Int) - ((0 : Nat) : Int))), _]; rw [show (p : Int) - ((0 : Nat) : Int) = (p : Int) by omega]; rfl), Nat.zero_le _, Nat.zero_le _⟩ ?_
  rintro σ H' ⟨rfl, r, rfl, hb, hr'⟩
  obtain ⟨rr, e1, e2⟩ := rows_at (l := l) (r := r) (by omega)
  have hbe := beg_le (l := l) (i := r) (by omega)
  have hel := end_le (l := l) (i := r) (by omega)
  have hst := step_gt hp hr'
  refine ⟨_, rfl, _, rfl, _, rfl, R, _, _, _, rfl, rfl, SqL.of hR, e1, rr, rfl, small (by omega), _, _, rfl, rfl, _, rfl, ?_⟩
  refine ite2 (fun c => ?_) (fun c => ?_)
  · have c' : (rr.length : Int) < (p : Int) - begAt l r := of_decide_eq_true c
    have lt : r < rno l p := hst.mp (by omega)
    refine ⟨_, turn_N (Pv := atP R l p H) (μ := atM l), ?_⟩
    refine ⟨_, rfl, _, rfl, _, rfl, R, _, _, _, rfl, rfl, SqL.of hR, e1, rr, rfl, small (by omega), _, _, rfl, rfl, _, _, rfl, rfl, ?_⟩
    refine ⟨_, rfl, _, _, rfl, rfl, ⟨rfl, r + 1, ?_, ?_, lt⟩, ?_⟩
    · have z : (p : Int) - ((begAt l (r + 1) : Nat) : Int) = (p : Int) - begAt l r - rr.length - 1 := by
        show (p : Int) - ((endAt l r + 1 : Nat) : Int) = _
        omega
      rw [z]
      rfl
    · show endAt l r + 1 ≤ p
      exact hst.mpr lt
    · show ((l.length : Int) + 1 - ((r : Int) + 1)).toNat < ((l.length : Int) + 1 - (r : Int)).toNat
      omega
  · have c' : ¬ (rr.length : Int) < (p : Int) - begAt l r := of_decide_eq_false (Bool.eq_false_iff.mpr c)
    have e : r = rno l p := by
      rcases Nat.lt_or_ge r (rno l p) with z | z
      · have := hst.mpr z; omega
      · omega
    subst e
    refine ⟨_, rfl, _, rfl, (by show 2 ≤ sizeLine; decide), fun t ht => q t _ (same_new ht _) ?_⟩
    rw [upd_same, show ((p - rb l p : Nat) : Int) = (p : Int) - begAt l (rno l p) from by show ((p - begAt l (rno l p) : Nat) : Int) = _; omega]
end

end My

set_option Elab.async false
set_option linter.all false
set_option maxRecDepth 100000
set_option maxHeartbeats 4000000
namespace My
open PySem L2




def txtsV (ts : List (List Nat)) : List V := ts.map fun r => V.str (S r)
def Tx (r : List Nat) : Prop := r.length ≤ 10 ∧ ∀ c ∈ r, c < 128 ∧ c ≠ 10
def sp_lblock : Sp := fun vs H Q _ => ∃ n : Int, vs = [.int n] ∧ ∀ (D : Addr) (ts : List (List Nat)) (H' : Hp), Same H H' → H D = none → 1 ≤ ts.length → ts.length ≤ 5 → (∀ r ∈ ts, Tx r) → H' D = some (.lst (txtsV ts)) → Q (.ref D) H'
theorem comp_noN {K : PySem.W.Frag} {a D : Addr} {l : List Nat} {ix : List (Option Nat)} {tc : TT} {σ : St} {H : Hp} {Q : VK} (hσ : around ix σ = [none]) (ha : SqL K H a (ones l)) (hD : H D = none) (hn : l.length ≤ 1000)
    (ht : ∀ (c : Nat) (H' : Hp) (k : Bool → Hp → Prop), k (decide (¬ c = 10)) H' → tc [some (.str (S [c]))] H' k)
    (hd : ∀ H', Same H H' → H' D = some (.lst (ones (l.filter fun c => decide (¬ c = 10)))) → Q (.ref D) H') : CompW (Itl K a) D (around ix σ) (upd H D (.lst [])) (gName 0) tc (tVar 0) Q := by
  refine comp_list (xs := ones l) (fun i σ H' => (∃ x : Option V, σ = [x]) ∧ Same H H' ∧ H' D = some (.lst (ones ((l.take i).filter fun c => decide (¬ c = 10))))) ⟨⟨none, hσ⟩, same_new hD _, upd_same⟩ (fun i σ H' _ h => h.2.1.seq ha) ?_ ?_
  · rintro i v σ H' hv ⟨⟨x, rfl⟩, SS, hD'⟩
    obtain ⟨c, hc, rfl⟩ : ∃ c, l[i]? = some c ∧ v = V.str (S [c]) := by
      unfold ones at hv
      rw [List.getElem?_map] at hv
      cases e : l[i]? with
      | none => rw [e] at hv; cases hv
      | some c => rw [e] at hv; exact ⟨c, rfl, (Option.some.inj hv).symm⟩
    refine ht c H' _ ?_
    have hb : (ones ((l.take i).filter fun c => decide (¬ c = 10))).length < sizeLine := by
      unfold ones
      rw [List.length_map]
      have h1 := List.length_filter_le (fun c => decide (¬ c = 10)) (l.take i)
      have h2 : (l.take i).length ≤ l.length := by rw [List.length_take]; omega
      exact Nat.lt_of_lt_of_le (show _ < 1000000 by omega) (small (Nat.le_refl _))
    by_cases e : c = 10
    · rw [decide_eq_false (fun z => z e)]
      refine iteF ⟨⟨_, rfl⟩, SS, ?_⟩
      rw [hD', List.take_succ, hc, List.filter_append]
      show _ = some (HO.lst (ones (_ ++ List.filter _ [c])))
      rw [List.filter_cons, if_neg (by rw [decide_eq_false (fun z => z e)]; decide)]
      rw [List.filter_nil, List.append_nil]
    · rw [decide_eq_true e]
      refine iteT ⟨_, rfl, _, hD', hb, ⟨_, rfl⟩, same_upd SS hD, ?_⟩
      rw [upd_same, List.take_succ, hc, List.filter_append]
      show _ = some (HO.lst (ones (_ ++ List.filter _ [c])))
      rw [List.filter_cons, if_pos (by exact decide_eq_true e)]
      unfold ones
      rw [List.map_append]
      rfl
  · rintro σ H' ⟨_, SS, hD'⟩
    have : (ones l).length = l.length := by unfold ones; rw [List.length_map]
    rw [this, List.take_length] at hD'
    exact hd H' SS hD'
section
variable {P : Program} {w : World} {K : PySem.W.Frag} {mg : Str → Option Value} {base : Heap} {f : Addr} {fd : FuncData}
theorem sc__law_block : FnScope ["_law_number", "_law_texts", "_law_k", "_law_size", "_law_signs"] ["_law_number"] (defScope s__law_block) := ⟨rfl, rfl, rfl, by decide +kernel, rfl, by decide +kernel, by decide +kernel⟩
theorem ok_lblock (F : Fun K "_law_block" "_law_block" s__law_block f fd) (O__law_sign : Own P w K mg base CX0 1 "_law_sign" ["_law_number"] sp_sign) (m_len : mg "len" = none) (m_range : mg "range" = none) : FnOk P w K mg base CX0 2 f fd ["_law_number"] sp_lblock := by
  refine F.ok sc__law_block (fun vs H Q E h => ?_) (fun cdv A outer s H vs Q E hr h => ?_)
  · obtain ⟨n, rfl, _⟩ := h
    rfl
  obtain ⟨n, rfl, q⟩ := h
  refine ⟨_, (pss_cons (ps_set (i := 1) sc__law_block.nd rfl (Or.inl rfl) (pe_lst pa_nil))
      (pss_cons (ps_for PassesOwn.never rfl (pi_range1 (by rfl) m_range (pa_cons (pe_op op_add pe_int (pe_op op_mod (pv 0) pe_int)) pa_nil)) (pg_name (i := 2) sc__law_block.nd rfl (Or.inr rfl)) (pss_cons (ps_set (i := 3) sc__law_block.nd rfl (Or.inl rfl) (pe_op op_mod (pe_op op_mod (pe_op op_mul (pe_op op_fdiv (pv 0) pe_int) (pe_op op_add (pe_op op_mul pe_int (pv 2)) pe_int)) pe_int) pe_int))
      (pss_cons (ps_setCF (i := 4) ["_law_j", "_law_number", "_law_k"] [none, some 0, some 2] ["_law_number", "_law_texts", "_law_k", "_law_size", "_law_signs"] (defScope s__law_block) sc__law_block.nd rfl (Or.inl rfl) rfl (by decide +kernel) rfl rfl (pi_range1 (by rfl) m_range (pa_cons (pv 3) pa_nil)) (fun _ _ _ _ _ => pg_name (i := 0) (show (["_law_j", "_law_number", "_law_k"] : List Str).Nodup by decide +kernel) rfl (Or.inl rfl)) (fun _ _ _ _ _ => pif_nil) (fun _ _ _ _ _ => (pe_own O__law_sign hr (by rfl) pass0 (pa_cons (pe_op op_mod (pe_op op_mul (pe_op op_fdiv (pv 1) pe_int) (pe_op op_add (pe_op op_add (pe_op op_mul pe_int (pv 2)) (pv 0)) pe_int)) pe_int) pa_nil))))
      (pss_one (ps_expr (pe_bm PySem.F.plainAttrs_list PySem.F.slot_list_append PySem.F.type_list_append mt_append (pv 1) (pa_cons (pe_bm PySem.F.plainAttrs_str PySem.F.slot_str_join PySem.F.type_str_join mt_join pe_str (pa_cons (pe_comp ["_law_sign_here"] _ [] rfl (cl_none ["_law_sign_here"] (by decide +kernel) rfl (by decide +kernel)) (pi_list (pv 4)) (fun _ _ _ _ => pg_name (i := 0) (nd1 _) rfl (Or.inl rfl)) (fun _ _ _ _ => (pif_one (pt_cmpR op_ne (pv 0) pe_str (nomark _)))) (fun _ _ _ _ => (pv 0))) pa_nil)) pa_nil)))))))
      (pss_cons (ps_if (pt_cmpR op_eq (pe_op op_mod (pe_op op_fdiv (pv 0) pe_int) pe_int) pe_int (nomark _)) (pss_one (ps_asg (pe_op op_adS pe_str (pe_ix ix_list (pv 1) (pe_un un_neg pe_int) (fun _ _ => rfl))) (pg_sub (pv 1) (pe_op op_mod (pe_op op_fdiv (pv 0) pe_int) (pe_callB call_len_seq (by rfl) m_len PySem.boot_len (pa_cons (pv 1) pa_nil))) set_list))) pss_nil)
      (pss_one (ps_ret (pv 1)))))), ?_⟩
  refine ⟨Nat.zero_le _, fun D hD => ?_⟩
  have y0 : 0 ≤ n % 5 := Int.emod_nonneg _ (by decide)
  have y1 : n % 5 < 5 := Int.emod_lt_of_pos _ (by decide)
  refine gname_go (seq_at (seq_to (fun σ H' => Same H H' ∧ ∃ (ts : List (List Nat)) (x y z : Option V), 1 ≤ ts.length ∧ ts.length ≤ 5 ∧ (∀ r ∈ ts, r.length ≤ 8 ∧ ∀ c ∈ r, c < 128 ∧ c ≠ 10) ∧ H' D = some (.lst (txtsV ts)) ∧ σ = [some (.int n), some (.ref D), x, y, z]) (fun nx fin => ?_) ?_))
  · refine ⟨_, rfl, _, _, rfl, rfl, (by show (0 : Int) < 5; decide), _, _, rfl, rfl, 1 + n % 5, rfl, by omega, by omega, ?_⟩
    refine for_range (fun i σ H' => Same H H' ∧ ∃ (ts : List (List Nat)) (x y z : Option V), ts.length = i ∧ (∀ r ∈ ts, r.length ≤ 8 ∧ ∀ c ∈ r, c < 128 ∧ c ≠ 10) ∧ H' D = some (.lst (txtsV ts)) ∧ σ = [some (.int n), some (.ref D), x, y, z]) ⟨same_new hD _, [], none, none, none, rfl, (fun r h => by cases h), upd_same, rfl⟩ ?_ ?_
    · rintro i σ H1 hi ⟨S1, ts, x, y, z, hts, hok, hD1, rfl⟩
      have hi' : i < 6 := by
        have : i < (1 + n % 5).toNat := hi
        omega
      rw [Int.zero_add]
      refine ⟨_, rfl, _, _, rfl, rfl, ⟨by decide, by decide⟩, _, rfl, _, _, rfl, rfl, .inl ⟨by decide, by decide⟩, _, _, rfl, rfl, _, _, rfl, rfl, .inr ⟨by omega, by omega⟩, _, _, rfl, rfl, (by show (0 : Int) < 1000003; decide), _, _, rfl, rfl, (by show (0 : Int) < 7; decide), ?_⟩
      refine ((fun sz h1 h2 => ?_ : ∀ sz : Int, 0 ≤ sz → sz < 7 → gName 3 (V.int sz) _ _ _) _ (Int.emod_nonneg _ (by decide)) (Int.emod_lt_of_pos _ (by decide)))
      refine ⟨_, rfl, sz, rfl, by omega, by omega, fun B hB => ?_⟩
      refine comp_signsR [some (.int n), some (.int (i : Int))] rfl hB (by omega) (fun j H' k hj SS h => ?_) (fun l H2 S2 hl hasc hB2 => ?_)
      · exact ⟨_, rfl, _, _, rfl, rfl, ⟨by decide, by decide⟩, _, rfl, _, _, rfl, rfl, .inl ⟨by decide, by decide⟩, _, rfl, _, _, rfl, rfl, _, _, rfl, rfl, _, _, rfl, rfl, .inr ⟨by omega, by omega⟩, _, _, rfl, rfl, (by show (0 : Int) < 1000033; decide), _, rfl, fun c hc => h c H' hc (Same.refl _)⟩
      have hl6 : l.length ≤ 6 := by
        have : l.length = sz.toNat := hl
        omega
      have hD2 := S2 _ _ hD1
      refine ⟨_, rfl, .inl ⟨rfl, _, SqL.of hD2⟩, ?_⟩
      refine ⟨rfl, _, rfl, B, rfl, ⟨_, SqL.of hB2⟩, fun C hC => ?_⟩
      refine comp_noN rfl (SqL.of hB2) hC (by omega) (fun c H' k hk => ?_) (fun H3 S3 hC3 => ?_)
      · refine ⟨_, rfl, rfl, _, rfl, ?_⟩
        have e : (!decide (V.str (S [c]) = V.str (S [10]))) = decide (¬ c = 10) := by
          by_cases z : c = 10
          · subst z
            simp
          · rw [decide_eq_false (fun y => z (List.cons.inj (S_inj (V.str.inj y))).1), decide_eq_true z]
            rfl
        show k (!decide (V.str (S [c]) = V.str (S [10]))) H'
        rw [e]
        exact hk
      have SD : SqL K H3 C (((l.filter fun c => decide (¬ c = 10)).map fun c => [c]).map fun r => V.str (S r)) := by rw [← ones_eq]; exact SqL.of hC3
      have hfl := List.length_filter_le (fun c => decide (¬ c = 10)) l
      refine ⟨C, (l.filter fun c => decide (¬ c = 10)).map fun c => [c], rfl, rfl, SD, by rw [ones_flat]; omega, ?_⟩
      rw [ones_flat]
      have S13 := S1.trans (S2.trans S3)
      refine ⟨D, _, _, rfl, rfl, S3 _ _ hD2, ?_, same_upd S13 hD, ts ++ [l.filter fun c => decide (¬ c = 10)], some (.int (i : Int)), some (.int sz), some (.ref B), by rw [List.length_append, hts]; rfl, fun r hr' => ?_, ?_, rfl⟩
      · unfold txtsV
        rw [List.length_map, hts]
        exact Nat.lt_of_lt_of_le (show _ < 1000000 by omega) (small (Nat.le_refl _))
      · rcases List.mem_append.mp hr' with y | y
        · exact hok r y
        · rw [List.mem_singleton] at y
          subst y
          exact ⟨by omega, fun c hc => ⟨hasc c (List.mem_filter.mp hc).1, of_decide_eq_true (List.mem_filter.mp hc).2⟩⟩
      · rw [upd_same]
        unfold txtsV
        rw [List.map_append]
        rfl
    · rintro σ H1 ⟨S1, ts, x, y, z, hts, hok, hD1, rfl⟩
      have : ts.length = (1 + n % 5).toNat := hts
      exact fin _ _ ⟨S1, ts, _, _, _, by omega, by omega, hok, hD1, rfl⟩
  rintro σ H1 ⟨S1, ts, x, y, z, h1, h5, hok, hD1, rfl⟩
  refine seq_to (fun σ H' => Same H H' ∧ ∃ (ts : List (List Nat)) (x y z : Option V), 1 ≤ ts.length ∧ ts.length ≤ 5 ∧ (∀ r ∈ ts, Tx r) ∧ H' D = some (.lst (txtsV ts)) ∧ σ = [some (.int n), some (.ref D), x, y, z]) (fun nx fin => ?_) ?_
  · refine ⟨_, rfl, _, _, rfl, rfl, ⟨by decide, by decide⟩, _, _, rfl, rfl, (by show (0 : Int) < 9; decide), rfl, _, rfl, ite2 (fun _ => ?_) (fun _ => fin _ _ ⟨S1, ts, _, _, _, h1, h5, fun r hr' => ⟨Nat.le_trans (hok r hr').1 (by decide), (hok r hr').2⟩, hD1, rfl⟩)⟩
    obtain ⟨ini, r0, e0⟩ : ∃ ini r0, ts = ini ++ [r0] := by
      rcases List.eq_nil_or_concat ts with e | ⟨a, b, e⟩
      · rw [e] at h1
        exact absurd h1 (by decide)
      · exact ⟨a, b, by rw [e, List.concat_eq_append]⟩
    have hlast : atI (txtsV ts) (-1) = some (.str (S r0)) := by
      rw [e0]
      unfold txtsV
      rw [List.map_append]
      exact atI_last _ _
    have hr0 := hok r0 (by rw [e0]; simp)
    have lts : (txtsV ts).length = ts.length := by unfold txtsV; rw [List.length_map]
    have jz : 0 ≤ n / 315 % (((txtsV ts).length : Nat) : Int) := Int.emod_nonneg _ (by rw [lts]; omega)
    have jl : n / 315 % (((txtsV ts).length : Nat) : Int) < (((txtsV ts).length : Nat) : Int) := Int.emod_lt_of_pos _ (by rw [lts]; omega)
    refine ⟨_, rfl, _, rfl, D, _, _, _, rfl, rfl, SqL.of hD1, hlast, [97, 126], r0, rfl, rfl, Nat.le_trans (show _ ≤ 1000000 by show 2 + r0.length ≤ _; omega) (small (Nat.le_refl _)), ?_⟩
    refine ⟨_, rfl, _, rfl, _, _, rfl, rfl, ⟨by decide, by decide⟩, _, rfl, D, _, rfl, .inl (SqL.of hD1), _, _, rfl, rfl, (by show (0 : Int) < (((txtsV ts).length : Nat) : Int); rw [lts]; omega), D, _, _, (n / 315 % (((txtsV ts).length : Nat) : Int)).toNat, rfl, rfl, hD1, ?_, fin _ _ ⟨same_upd S1 hD, ts.set (n / 315 % (((txtsV ts).length : Nat) : Int)).toNat ([97, 126] ++ r0), _, _, _, ?_, ?_, fun r hr' => ?_, ?_, rfl⟩⟩
    · unfold ixN
      rw [if_pos jz, if_pos jl]
    · rw [List.length_set]
      exact h1
    · rw [List.length_set]
      exact h5
    · rcases List.mem_or_eq_of_mem_set hr' with y | y
      · exact ⟨Nat.le_trans (hok r y).1 (by decide), (hok r y).2⟩
      · subst y
        refine ⟨by rw [List.length_append]; show 2 + r0.length ≤ 10; omega, fun c hc => ?_⟩
        have : c = 97 ∨ c = 126 ∨ c ∈ r0 := by simpa using hc
        rcases this with rfl | rfl | y
        · decide
        · decide
        · exact hr0.2 c y
    · rw [upd_same]
      unfold txtsV
      rw [List.map_set]
  rintro σ H2 ⟨S2, ts2, x2, y2, z2, g1, g5, gok, hD2, rfl⟩
  exact ⟨_, rfl, q D ts2 _ S2 hD g1 g5 gok hD2⟩
end
end My

set_option Elab.async false
set_option linter.all false
set_option maxRecDepth 100000
set_option maxHeartbeats 4000000
namespace My
open PySem L2



/-! modehand.rows, where the place or the row is one of the text: nothing is refused -/

def inP (l : List Nat) (p : Int) : Bool := decide (0 ≤ p) && decide (p ≤ l.length)
theorem inP_iff {l : List Nat} {p : Int} : inP l p = true ↔ 0 ≤ p ∧ p ≤ l.length := by unfold inP; simp
def inR (l : List Nat) (r : Int) : Bool := decide (0 ≤ r) && decide (r < (l.count 10 : Int) + 1)
theorem inR_iff {l : List Nat} {r : Int} : inR l r = true ↔ 0 ≤ r ∧ r < (l.count 10 : Int) + 1 := by unfold inR; simp
def sp_whole : Sp := fun vs H Q _ => (∃ i : Int, vs = [.int i] ∧ Q (.bl true) H) ∨ (vs = [.non] ∧ Q (.bl false) H)
theorem kit_ni {K : PySem.W.Frag} : PySem.W.kitOne K (.type "NoneType") (.type "int") = some false := by first | rfl | decide +kernel
def sp_is_place : Sp := fun vs H Q _ => (∃ (l : List Nat) (p : Int), vs = [.str (S l), .int p] ∧ l.length ≤ 1000000 ∧ Q (.bl (inP l p)) H) ∨ (∃ l : List Nat, vs = [.str (S l), .non] ∧ Q (.bl false) H)
def sp_row_count : Sp := fun vs H Q _ => ∃ l : List Nat, vs = [.str (S l)] ∧ Q (.int (l.count 10 + 1)) H
def sp_is_row : Sp := fun vs H Q _ => ∃ (l : List Nat) (r : Int), vs = [.str (S l), .int r] ∧ Q (.bl (inR l r)) H
def sp_chk_p : Sp := fun vs H Q _ => ∃ (l : List Nat) (p : Nat), vs = [.str (S l), .int (p : Int)] ∧ l.length ≤ 100000 ∧ p ≤ l.length ∧ Q .non H
def sp_chk_r : Sp := fun vs H Q _ => ∃ (l : List Nat) (r : Nat), vs = [.str (S l), .int (r : Int)] ∧ r ≤ l.count 10 ∧ Q .non H
def sp_row_in : Sp := fun vs H Q _ => ∃ (l : List Nat) (p : Nat), vs = [.str (S l), .int (p : Int)] ∧ l.length ≤ 100000 ∧ p ≤ l.length ∧ Q (.int (rno l p : Nat)) H
def sp_col_in : Sp := fun vs H Q _ => ∃ (l : List Nat) (p : Nat), vs = [.str (S l), .int (p : Int)] ∧ l.length ≤ 100000 ∧ p ≤ l.length ∧ Q (.int (p - rb l p : Nat)) H
def sp_beg_in : Sp := fun vs H Q _ => ∃ (l : List Nat) (r : Nat), vs = [.str (S l), .int (r : Int)] ∧ l.length ≤ 100000 ∧ r ≤ l.count 10 ∧ ∀ H', Same H H' → Q (.int (begAt l r : Nat)) H'
def sp_end_in : Sp := fun vs H Q _ => ∃ (l : List Nat) (r : Nat), vs = [.str (S l), .int (r : Int)] ∧ l.length ≤ 100000 ∧ r ≤ l.count 10 ∧ ∀ H', Same H H' → Q (.int (endAt l r : Nat)) H'
def sp_plc_in : Sp := fun vs H Q _ => ∃ (l : List Nat) (r c : Nat), vs = [.str (S l), .int (r : Int), .int (c : Int)] ∧ l.length ≤ 100000 ∧ r ≤ l.count 10 ∧ ∀ H', Same H H' → Q (.int (min (begAt l r + c) (endAt l r) : Nat)) H'
section
variable {P : Program} {w : World} {K : PySem.W.Frag} {mg : Str → Option Value} {base : Heap} {f : Addr} {fd : FuncData}
theorem sc_is_whole : FnScope ["value"] ["value"] (defScope s_is_whole) := ⟨rfl, rfl, rfl, by decide +kernel, rfl, by decide +kernel, by decide +kernel⟩
theorem ok_is_whole (F : Fun K "is_whole" "is_whole" s_is_whole f fd) (m_isinstance : mg "isinstance" = none) (m_int : mg "int" = none) (m_bool : mg "bool" = none) : FnOk P w K mg base CX0 1 f fd ["value"] sp_whole := by
  refine F.ok sc_is_whole (fun vs H Q E h => ?_) (fun cdv A outer s H vs Q E hr h => ?_)
  · rcases h with ⟨x, rfl, _⟩ | ⟨rfl, _⟩ <;> rfl
  refine ⟨_, (pss_one (ps_ret (pe_and (pe_callB call_isi (by rfl) m_isinstance boot_isi (pa_cons (pv 0) (pa_cons (pe_bltn (v := .ty "int") (by rfl) m_int boot_int rfl) pa_nil))) (pe_one (pe_not (pe_callB call_isi (by rfl) m_isinstance boot_isi (pa_cons (pv 0) (pa_cons (pe_bltn (v := .ty "bool") (by rfl) m_bool boot_bool rfl) pa_nil)))))))), ?_⟩
  rcases h with ⟨x, rfl, q⟩ | ⟨rfl, q⟩
  · refine ⟨_, rfl, _, _, _, _, rfl, ⟨_, .inl rfl⟩, .int x, kit_ii, _, rfl, iteT ?_⟩
    exact ⟨_, rfl, _, _, _, _, rfl, ⟨_, .inl rfl⟩, .int x, kit_ib, _, rfl, q⟩
  · exact ⟨_, rfl, _, _, _, _, rfl, ⟨_, .inl rfl⟩, .non, kit_ni, _, rfl, iteF q⟩
theorem sc_is_place : FnScope ["text", "place"] ["text", "place"] (defScope s_is_place) := ⟨rfl, rfl, rfl, by decide +kernel, rfl, by decide +kernel, by decide +kernel⟩
theorem ok_is_place (F : Fun K "is_place" "is_place" s_is_place f fd) (O_is_whole : Own P w K mg base CX0 1 "is_whole" ["value"] sp_whole) (m_len : mg "len" = none) : FnOk P w K mg base CX0 2 f fd ["text", "place"] sp_is_place := by
  refine F.ok sc_is_place (fun vs H Q E h => ?_) (fun cdv A outer s H vs Q E hr h => ?_)
  · rcases h with ⟨l, p, rfl, _⟩ | ⟨l, rfl, _⟩ <;> rfl
  refine ⟨_, (pss_one (ps_ret (pe_and (pe_own O_is_whole hr (by rfl) pass0 (pa_cons (pv 1) pa_nil)) (pe_one (pe_chain op_le op_le pe_int (pv 1) (pe_callB call_lenS (by rfl) m_len PySem.boot_len (pa_cons (pv 0) pa_nil))))))), ?_⟩
  rcases h with ⟨l, p, rfl, hl, q⟩ | ⟨l, rfl, q⟩
  case inr => exact ⟨_, rfl, .inr ⟨rfl, _, rfl, iteF q⟩⟩
  refine ⟨_, rfl, .inl ⟨_, rfl, _, rfl, iteT ?_⟩⟩
  refine ⟨_, rfl, _, _, rfl, rfl, _, rfl, ?_⟩
  unfold inP at q
  cases e : decide (0 ≤ p) with
  | true => rw [e] at q; exact iteT ⟨_, rfl, l, rfl, small hl, _, _, rfl, rfl, q⟩
  | false => rw [e] at q; exact iteF q
theorem sc_row_count : FnScope ["text"] ["text"] (defScope s_row_count) := ⟨rfl, rfl, rfl, by decide +kernel, rfl, by decide +kernel, by decide +kernel⟩
theorem ok_row_count (F : Fun K "row_count" "row_count" s_row_count f fd) : FnOk P w K mg base CX0 1 f fd ["text"] sp_row_count := by
  refine F.ok sc_row_count (fun vs H Q E h => ?_) (fun cdv A outer s H vs Q E hr h => ?_)
  · obtain ⟨l, rfl, _⟩ := h
    rfl
  obtain ⟨l, rfl, q⟩ := h
  refine ⟨_, (pss_one (ps_ret (pe_op op_add (pe_bm PySem.F.plainAttrs_str PySem.F.slot_str_count PySem.F.type_str_count mt_count (pv 0) (pa_cons pe_str pa_nil)) pe_int))), ?_⟩
  exact ⟨_, rfl, rfl, l, 10, rfl, rfl, _, _, rfl, rfl, q⟩
theorem sc_is_row : FnScope ["text", "row"] ["text", "row"] (defScope s_is_row) := ⟨rfl, rfl, rfl, by decide +kernel, rfl, by decide +kernel, by decide +kernel⟩
theorem ok_is_row (F : Fun K "is_row" "is_row" s_is_row f fd) (O_is_whole : Own P w K mg base CX0 1 "is_whole" ["value"] sp_whole) (O_row_count : Own P w K mg base CX0 1 "row_count" ["text"] sp_row_count) : FnOk P w K mg base CX0 2 f fd ["text", "row"] sp_is_row := by
  refine F.ok sc_is_row (fun vs H Q E h => ?_) (fun cdv A outer s H vs Q E hr h => ?_)
  · obtain ⟨l, p, rfl, _⟩ := h
    rfl
  obtain ⟨l, p, rfl, q⟩ := h
  refine ⟨_, (pss_one (ps_ret (pe_and (pe_own O_is_whole hr (by rfl) pass0 (pa_cons (pv 1) pa_nil)) (pe_one (pe_chain op_le op_lt pe_int (pv 1) (pe_own O_row_count hr (by rfl) pass0 (pa_cons (pv 0) pa_nil))))))), ?_⟩
  refine ⟨_, rfl, .inl ⟨_, rfl, _, rfl, iteT ?_⟩⟩
  refine ⟨_, rfl, _, _, rfl, rfl, _, rfl, ?_⟩
  unfold inR at q
  cases e : decide (0 ≤ p) with
  | true => rw [e] at q; exact iteT ⟨_, rfl, l, rfl, _, _, rfl, rfl, q⟩
  | false => rw [e] at q; exact iteF q
theorem sc_check_place : FnScope ["text", "place"] ["text", "place"] (defScope s_check_place) := ⟨rfl, rfl, rfl, by decide +kernel, rfl, by decide +kernel, by decide +kernel⟩
theorem ok_chk_p (F : Fun K "check_place" "check_place" s_check_place f fd) (O_is_place : Own P w K mg base CX0 2 "is_place" ["text", "place"] sp_is_place) : FnOk P w K mg base CX0 3 f fd ["text", "place"] sp_chk_p := by
  refine F.ok sc_check_place (fun vs H Q E h => ?_) (fun cdv A outer s H vs Q E hr h => ?_)
  · obtain ⟨l, p, rfl, _⟩ := h
    rfl
  obtain ⟨l, p, rfl, hl, hp, q⟩ := h
  refine ⟨_, (pss_one (ps_if (pt_not (pt_val (pe_own O_is_place hr (by rfl) pass0 (pa_cons (pv 0) (pa_cons (pv 1) pa_nil))))) pss_never pss_nil)), ?_⟩
  refine ⟨_, rfl, _, rfl, .inl ⟨l, _, rfl, by omega, _, rfl, ?_⟩⟩
  rw [inP_iff.mpr ⟨by omega, by omega⟩]
  exact iteF q
theorem sc_check_row : FnScope ["text", "row"] ["text", "row"] (defScope s_check_row) := ⟨rfl, rfl, rfl, by decide +kernel, rfl, by decide +kernel, by decide +kernel⟩
theorem ok_chk_r (F : Fun K "check_row" "check_row" s_check_row f fd) (O_is_row : Own P w K mg base CX0 2 "is_row" ["text", "row"] sp_is_row) : FnOk P w K mg base CX0 3 f fd ["text", "row"] sp_chk_r := by
  refine F.ok sc_check_row (fun vs H Q E h => ?_) (fun cdv A outer s H vs Q E hr h => ?_)
  · obtain ⟨l, p, rfl, _⟩ := h
    rfl
  obtain ⟨l, r, rfl, hr', q⟩ := h
  refine ⟨_, (pss_one (ps_if (pt_not (pt_val (pe_own O_is_row hr (by rfl) pass0 (pa_cons (pv 0) (pa_cons (pv 1) pa_nil))))) pss_never pss_nil)), ?_⟩
  refine ⟨_, rfl, _, rfl, l, _, rfl, _, rfl, ?_⟩
  rw [inR_iff.mpr ⟨by omega, by omega⟩]
  exact iteF q
theorem sc_row_of : FnScope ["text", "place"] ["text", "place"] (defScope s_row_of) := ⟨rfl, rfl, rfl, by decide +kernel, rfl, by decide +kernel, by decide +kernel⟩
theorem ok_row_of (F : Fun K "row_of" "row_of" s_row_of f fd) (O_check_place : Own P w K mg base CX0 3 "check_place" ["text", "place"] sp_chk_p) : FnOk P w K mg base CX0 4 f fd ["text", "place"] sp_row_in := by
  refine F.ok sc_row_of (fun vs H Q E h => ?_) (fun cdv A outer s H vs Q E hr h => ?_)
  · obtain ⟨l, p, rfl, _⟩ := h
    rfl
  obtain ⟨l, p, rfl, hl, hp, q⟩ := h
  refine ⟨_, (pss_cons (ps_expr (pe_own O_check_place hr (by rfl) pass0 (pa_cons (pv 0) (pa_cons (pv 1) pa_nil))))
      (pss_one (ps_ret (pe_bm PySem.F.plainAttrs_str PySem.F.slot_str_count PySem.F.type_str_count mt_count (pe_slice sl_str (pv 0) po_none (po_some (pv 1))) (pa_cons pe_str pa_nil))))), ?_⟩
  unfold rno at q
  rw [← cutL_m] at q
  exact ⟨_, rfl, _, rfl, l, p, rfl, hl, hp, _, rfl, _, rfl, _, rfl, l, rfl, small (by omega), rfl, _, 10, rfl, rfl, q⟩
theorem sc_begin_of : FnScope ["text", "row"] ["text", "row"] (defScope s_begin_of) := ⟨rfl, rfl, rfl, by decide +kernel, rfl, by decide +kernel, by decide +kernel⟩
theorem ok_begin_of (F : Fun K "begin_of" "begin_of" s_begin_of f fd) (O_check_row : Own P w K mg base CX0 3 "check_row" ["text", "row"] sp_chk_r) (m_len : mg "len" = none) : FnOk P w K mg base CX0 4 f fd ["text", "row"] sp_beg_in := by
  refine F.ok sc_begin_of (fun vs H Q E h => ?_) (fun cdv A outer s H vs Q E hr h => ?_)
  · obtain ⟨l, p, rfl, _⟩ := h
    rfl
  obtain ⟨l, r, rfl, hl, hr', q⟩ := h
  refine ⟨_, (pss_cons (ps_expr (pe_own O_check_row hr (by rfl) pass0 (pa_cons (pv 0) (pa_cons (pv 1) pa_nil))))
      (pss_one (ps_ret (pe_op op_sub (pe_callB call_lenS (by rfl) m_len PySem.boot_len (pa_cons (pv 0) pa_nil)) (pe_callB call_lenS (by rfl) m_len PySem.boot_len (pa_cons (pe_ix ix_list (pe_bm PySem.F.plainAttrs_str PySem.F.slot_str_split PySem.F.type_str_split mt_splitM (pv 0) (pa_cons pe_str (pa_cons (pv 1) pa_nil))) (pv 1) (fun _ _ => rfl)) pa_nil)))))), ?_⟩
  have hb := beg_le (l := l) (i := r) (by omega)
  have he := end_le (l := l) (i := r) (by omega)
  have hat : atI ((splitM l r).map fun r => V.str (S r)) (r : Int) = some (.str (S (l.drop (begAt l r)))) := atI_nat (by rw [List.getElem?_map, splitM_at hr']; rfl)
  refine ⟨_, rfl, _, rfl, l, r, rfl, hr', _, rfl, l, rfl, small (by omega), _, rfl, rfl, _, rfl, l, r, rfl, rfl, hr', hl, fun p hp => ?_⟩
  refine ⟨_, rfl, p, _, _, _, rfl, rfl, SqL.of upd_same, hat, _, rfl, small (by rw [List.length_drop]; omega), _, _, rfl, rfl, ?_⟩
  have z : ((l.length : Nat) : Int) - ((l.drop (begAt l r)).length : Int) = ((begAt l r : Nat) : Int) := by rw [List.length_drop]; omega
  show Q (V.int (((l.length : Nat) : Int) - ((l.drop (begAt l r)).length : Int))) _
  rw [z]
  exact q _ (same_new hp _)
theorem sc_end_of : FnScope ["text", "row", "end"] ["text", "row"] (defScope s_end_of) := ⟨rfl, rfl, rfl, by decide +kernel, rfl, by decide +kernel, by decide +kernel⟩
theorem ok_end_of (F : Fun K "end_of" "end_of" s_end_of f fd) (O_begin_of : Own P w K mg base CX0 4 "begin_of" ["text", "row"] sp_beg_in) (m_len : mg "len" = none) : FnOk P w K mg base CX0 5 f fd ["text", "row"] sp_end_in := by
  refine F.ok sc_end_of (fun vs H Q E h => ?_) (fun cdv A outer s H vs Q E hr h => ?_)
  · obtain ⟨l, p, rfl, _⟩ := h
    rfl
  obtain ⟨l, r, rfl, hl, hr', q⟩ := h
  refine ⟨_, (pss_cons (ps_set (i := 2) sc_end_of.nd rfl (Or.inl rfl) (pe_bm PySem.F.plainAttrs_str PySem.F.slot_str_find PySem.F.type_str_find mt_findN (pv 0) (pa_cons pe_str (pa_cons (pe_own O_begin_of hr (by rfl) pass0 (pa_cons (pv 0) (pa_cons (pv 1) pa_nil))) pa_nil))))
      (pss_one (ps_ret (pe_ifExp (pt_cmpR op_lt (pv 2) pe_int (nomark _)) (pe_callB call_lenS (by rfl) m_len PySem.boot_len (pa_cons (pv 0) pa_nil)) (pv 2))))), ?_⟩
  refine ⟨_, rfl, rfl, _, rfl, _, rfl, l, r, rfl, hl, hr', fun H1 S1 => ⟨l, _, rfl, rfl, ?_⟩⟩
  have he := end_le (l := l) (i := r) (by omega)
  rcases ffN_row hr' with ⟨e, e2⟩ | e
  · show gName _ (V.int (ffN l (begAt l r))) _ _ _
    rw [e]
    refine ⟨_, rfl, _, _, rfl, rfl, _, rfl, iteT ⟨_, rfl, l, rfl, small (by omega), ?_⟩⟩
    rw [← e2]
    exact q _ S1
  · show gName _ (V.int (ffN l (begAt l r))) _ _ _
    rw [e]
    have ed : decide (((endAt l r : Nat) : Int) < 0) = false := decide_eq_false (by omega)
    refine ⟨_, rfl, _, _, rfl, rfl, _, rfl, ?_⟩
    rw [ed]
    exact iteF ⟨_, rfl, q _ S1⟩

theorem sc_place_of : FnScope ["text", "row", "column"] ["text", "row", "column"] (defScope s_place_of) := ⟨rfl, rfl, rfl, by decide +kernel, rfl, by decide +kernel, by decide +kernel⟩
theorem ok_place_of (F : Fun K "place_of" "place_of" s_place_of f fd) (O_begin_of : Own P w K mg base CX0 4 "begin_of" ["text", "row"] sp_beg_in) (O_end_of : Own P w K mg base CX0 5 "end_of" ["text", "row"] sp_end_in) (m_min : mg "min" = none) : FnOk P w K mg base CX0 6 f fd ["text", "row", "column"] sp_plc_in := by
  refine F.ok sc_place_of (fun vs H Q E h => ?_) (fun cdv A outer s H vs Q E hr h => ?_)
  · obtain ⟨l, p, c, rfl, _⟩ := h
    rfl
  obtain ⟨l, r, c, rfl, hl, hr', q⟩ := h
  refine ⟨_, (pss_one (ps_ret (pe_callB (call_min2 (by rfl)) (by rfl) m_min boot_min (pa_cons (pe_op op_add (pe_own O_begin_of hr (by rfl) pass0 (pa_cons (pv 0) (pa_cons (pv 1) pa_nil))) (pv 2)) (pa_cons (pe_own O_end_of hr (by rfl) pass0 (pa_cons (pv 0) (pa_cons (pv 1) pa_nil))) pa_nil))))), ?_⟩
  refine ⟨_, rfl, _, rfl, l, r, rfl, hl, hr', fun H1 S1 => ⟨_, rfl, _, _, rfl, rfl, _, rfl, _, rfl, l, r, rfl, hl, hr', fun H2 S2 => ⟨_, _, rfl, ?_⟩⟩⟩
  have q' := q H2 (S1.trans S2)
  have z : (if ((endAt l r : Nat) : Int) < ((begAt l r : Nat) : Int) + (c : Int) then ((endAt l r : Nat) : Int) else ((begAt l r : Nat) : Int) + (c : Int)) = ((min (begAt l r + c) (endAt l r) : Nat) : Int) := by split <;> omega
  show Q (V.int (if ((endAt l r : Nat) : Int) < ((begAt l r : Nat) : Int) + (c : Int) then ((endAt l r : Nat) : Int) else ((begAt l r : Nat) : Int) + (c : Int))) H2
  rw [z]
  exact q'

theorem sc_column_of : FnScope ["text", "place"] ["text", "place"] (defScope s_column_of) := ⟨rfl, rfl, rfl, by decide +kernel, rfl, by decide +kernel, by decide +kernel⟩
theorem ok_column_of (F : Fun K "column_of" "column_of" s_column_of f fd) (O_check_place : Own P w K mg base CX0 3 "check_place" ["text", "place"] sp_chk_p) : FnOk P w K mg base CX0 4 f fd ["text", "place"] sp_col_in := by
  refine F.ok sc_column_of (fun vs H Q E h => ?_) (fun cdv A outer s H vs Q E hr h => ?_)
  · obtain ⟨l, p, rfl, _⟩ := h
    rfl
  obtain ⟨l, p, rfl, hl, hp, q⟩ := h
  refine ⟨_, (pss_cons (ps_expr (pe_own O_check_place hr (by rfl) pass0 (pa_cons (pv 0) (pa_cons (pv 1) pa_nil))))
      (pss_one (ps_ret (pe_op op_sub (pv 1) (pe_op op_add (pe_bm PySem.F.plainAttrs_str PySem.F.slot_str_rfind PySem.F.type_str_rfind mt_rfind (pe_slice sl_str (pv 0) po_none (po_some (pv 1))) (pa_cons pe_str pa_nil)) pe_int))))), ?_⟩
  have ec : ((p - rb l p : Nat) : Int) = (p : Int) - (rf (cutL l none (some (p : Int))) 10 + 1) := by
    rw [← col_eq hp, cutL_m]
    unfold colF
    rw [List.length_take, Nat.min_eq_left hp]
  rw [ec] at q
  exact ⟨_, rfl, _, rfl, l, p, rfl, hl, hp, _, rfl, _, rfl, _, rfl, _, rfl, l, rfl, small (by omega), rfl, _, 10, rfl, rfl, _, _, rfl, rfl, _, _, rfl, rfl, q⟩

end
/-! the program's changing, too_long -/

abbrev num_MOST_SIGNS : Int := 600
def chg (s : Spl) : Bool := decide (¬ s.2.1 = s.2.2)
def dif (sps : List Spl) : List Int := sps.map fun s => (s.2.2.length : Int) - (s.2.1.length : Int)
def sp_changing : Sp := fun vs H Q _ => ∃ (D : Addr) (sps : List Spl), vs = [.ref D] ∧ TupsV H D (splV sps) ∧ sps.length ≤ 10000 ∧ ∀ E H', Same H H' → H E = none → TupsV H' E (splV (sps.filter chg)) → Q (.ref E) H'
def sp_toolong : Sp := fun vs H Q _ => ∃ (D : Addr) (l : List Nat) (sps : List Spl), vs = [.str (S l), .ref D] ∧ TupsV H D (splV sps) ∧ l.length ≤ 10000 ∧ sps.length ≤ 10000 ∧ (∀ s ∈ sps, s.2.1.length ≤ 1000000 ∧ s.2.2.length ≤ 1000000) ∧ ∀ H', Same H H' → Q (.bl (decide ((l.length : Int) + (dif sps).sum > 600))) H'
theorem splV_snoc' (X : List Spl) (y : Spl) : splV (X ++ [y]) = splV X ++ [[nV y.1, .str (S y.2.1), .str (S y.2.2)]] := by unfold splV; rw [List.map_append]; rfl
section
variable {P : Program} {w : World} {K : PySem.W.Frag} {mg : Str → Option Value} {base : Heap} {f : Addr} {fd : FuncData}
theorem sc_changing : FnScope ["splices"] ["splices"] (defScope s_changing) := ⟨rfl, rfl, rfl, by decide +kernel, rfl, by decide +kernel, by decide +kernel⟩
theorem ok_changing (F : Fun K "changing" "changing" s_changing f fd) : FnOk P w K mg base CX0 1 f fd ["splices"] sp_changing := by
  refine F.ok sc_changing (fun vs H Q E h => ?_) (fun cdv A outer s H vs Q E hr h => ?_)
  · obtain ⟨D, sps, rfl, _⟩ := h
    rfl
  obtain ⟨D, sps, rfl, hD, hl, q⟩ := h
  refine ⟨_, (pss_one (ps_ret (pe_comp ["splice"] _ [] rfl (cl_none ["splice"] (by decide +kernel) rfl (by decide +kernel)) (pi_list (pv 0)) (fun _ _ _ _ => pg_name (i := 0) (nd1 _) rfl (Or.inl rfl)) (fun _ _ _ _ => (pif_one (pt_cmpR op_ne (pe_ix (show IxR _ (rIxT K) from ix_tup) (pv 0) pe_int (fun _ _ => rfl)) (pe_ix (show IxR _ (rIxT K) from ix_tup) (pv 0) pe_int (fun _ _ => rfl)) (nomark _)))) (fun _ _ _ _ => (pv 0))))), ?_⟩
  obtain ⟨xs, hx, hxl, hxa⟩ := hD.mem
  have hxl' : xs.length = sps.length := by rw [hxl]; unfold splV; rw [List.length_map]
  refine ⟨_, rfl, D, rfl, ⟨_, SqL.of hx⟩, fun B hB => ?_⟩
  refine comp_list (xs := xs) (fun i σ H' => (∃ x : Option V, σ = [x]) ∧ Same H H' ∧ TupsV H' B (splV ((sps.take i).filter chg))) ⟨⟨none, rfl⟩, same_new hB _, TupsV.nil upd_same⟩ (fun i σ H' _ h => h.2.1.seq (SqL.of hx)) ?_ ?_
  · rintro i v σ H' hv ⟨⟨x, rfl⟩, SS, hB'⟩
    obtain ⟨t, tt, rfl, h1, ht⟩ := hxa i v hv
    obtain ⟨s, es, rfl⟩ := splV_at h1
    have ht' := SS _ _ ht
    obtain ⟨ys, hy, hyl, _⟩ := hB'.mem
    refine ⟨_, rfl, t, _, _, _, rfl, rfl, SqT.of ht', rfl, _, rfl, t, _, _, _, rfl, rfl, SqT.of ht', rfl, rfl, _, rfl, ?_⟩
    by_cases e : s.2.1 = s.2.2
    · have et : ((sps.take (i + 1)).filter chg) = (sps.take i).filter chg := by
        rw [List.take_succ, es, List.filter_append]
        show _ ++ List.filter chg [s] = _
        rw [List.filter_cons, if_neg (by unfold chg; rw [decide_eq_false (fun z => z e)]; decide)]
        exact List.append_nil _
      rw [et]
      exact iteNS (by rw [e]) ⟨⟨_, rfl⟩, SS, hB'⟩
    · have et : ((sps.take (i + 1)).filter chg) = (sps.take i).filter chg ++ [s] := by
        rw [List.take_succ, es, List.filter_append]
        show _ ++ List.filter chg [s] = _
        rw [List.filter_cons, if_pos (by unfold chg; exact decide_eq_true e)]
        rfl
      rw [et]
      refine iteNF (fun z => e (S_inj (V.str.inj z))) ⟨_, rfl, _, hy, ?_, ⟨_, rfl⟩, same_upd SS hB, ?_⟩
      · rw [hyl]
        unfold splV
        rw [List.length_map]
        have h1 := List.length_filter_le chg (sps.take i)
        have h2 : (sps.take i).length ≤ sps.length := by rw [List.length_take]; omega
        exact Nat.lt_of_lt_of_le (show _ < 1000000 by omega) (small (Nat.le_refl _))
      · rw [splV_snoc']
        exact TupsV.snoc hB' hy ht'
  · rintro σ H' ⟨_, SS, hB'⟩
    rw [hxl', List.take_length] at hB'
    exact q B H' SS hB hB'
theorem sc_too_long : FnScope ["text", "splices"] ["text", "splices"] (defScope s_too_long) := ⟨rfl, rfl, rfl, by decide +kernel, rfl, by decide +kernel, by decide +kernel⟩
theorem ok_toolong {tk : Tok} (F : Fun K "too_long" "too_long" s_too_long f fd) (m_MOST_SIGNS : mg "MOST_SIGNS" = some (.int num_MOST_SIGNS tk)) (m_len : mg "len" = none) (m_sum : mg "sum" = none) : FnOk P w K mg base CX0 1 f fd ["text", "splices"] sp_toolong := by
  refine F.ok sc_too_long (fun vs H Q E h => ?_) (fun cdv A outer s H vs Q E hr h => ?_)
  · obtain ⟨D, l, sps, rfl, _⟩ := h
    rfl
  obtain ⟨D, l, sps, rfl, hD, hl, hn, hz, q⟩ := h
  refine ⟨_, (pss_one (ps_ret (pe_cmpR op_gt (pe_op op_add (pe_callB call_lenS (by rfl) m_len PySem.boot_len (pa_cons (pv 0) pa_nil)) (pe_callB (call_sumZ (by rfl)) (by rfl) m_sum PyProof.Rows.boot_sum (pa_cons (pe_comp ["splice"] _ [] rfl (cl_none ["splice"] (by decide +kernel) rfl (by decide +kernel)) (pi_list (pv 1)) (fun _ _ _ _ => pg_name (i := 0) (nd1 _) rfl (Or.inl rfl)) (fun _ _ _ _ => pif_nil) (fun _ _ _ _ => (pe_op op_sub (pe_callB call_lenS (by rfl) m_len PySem.boot_len (pa_cons (pe_ix (show IxR _ (rIxT K) from ix_tup) (pv 0) pe_int (fun _ _ => rfl)) pa_nil)) (pe_callB call_lenS (by rfl) m_len PySem.boot_len (pa_cons (pe_ix (show IxR _ (rIxT K) from ix_tup) (pv 0) pe_int (fun _ _ => rfl)) pa_nil))))) pa_nil))) (pe_glob (v := .int num_MOST_SIGNS) (by rfl) m_MOST_SIGNS ⟨_, rfl⟩) (nomark _)))), ?_⟩
  obtain ⟨xs, hx, hxl, hxa⟩ := hD.mem
  have hxl' : xs.length = sps.length := by rw [hxl]; unfold splV; rw [List.length_map]
  refine ⟨_, rfl, l, rfl, small (by omega), _, rfl, D, rfl, ⟨_, SqL.of hx⟩, fun B hB => ?_⟩
  refine comp_list (xs := xs) (fun i σ H' => (∃ x : Option V, σ = [x]) ∧ Same H H' ∧ H' B = some (.lst ((dif (sps.take i)).map V.int))) ⟨⟨none, rfl⟩, same_new hB _, upd_same⟩ (fun i σ H' _ h => h.2.1.seq (SqL.of hx)) ?_ ?_
  · rintro i v σ H' hv ⟨⟨x, rfl⟩, SS, hB'⟩
    obtain ⟨t, tt, rfl, h1, ht⟩ := hxa i v hv
    obtain ⟨s, es, rfl⟩ := splV_at h1
    have ht' := SS _ _ ht
    obtain ⟨z1, z2⟩ := hz s (List.mem_of_getElem? es)
    refine yes ⟨_, rfl, t, _, _, _, rfl, rfl, SqT.of ht', rfl, _, rfl, small (by omega), _, rfl, t, _, _, _, rfl, rfl, SqT.of ht', rfl, _, rfl, small (by omega), _, _, rfl, rfl, _, hB', ?_, ⟨_, rfl⟩, same_upd SS hB, ?_⟩
    · unfold dif
      rw [List.length_map, List.length_map, List.length_take]
      exact Nat.lt_of_lt_of_le (show _ < 1000000 by omega) (small (Nat.le_refl _))
    · rw [upd_same]
      have et : dif (sps.take (i + 1)) = dif (sps.take i) ++ [(s.2.2.length : Int) - (s.2.1.length : Int)] := by
        unfold dif
        rw [List.take_succ, es, List.map_append]
        rfl
      rw [et, List.map_append]
      rfl
  · rintro σ H' ⟨_, SS, hB'⟩
    rw [hxl', List.take_length] at hB'
    refine ⟨B, dif sps, rfl, SqL.of hB', fun n hn' => ?_, by unfold dif; rw [List.length_map]; omega, _, _, rfl, rfl, _, _, rfl, rfl, q H' SS⟩
    unfold dif at hn'
    obtain ⟨s, hs, rfl⟩ := List.mem_map.mp hn'
    have := hz s hs
    omega
end

/-! the program's bounded, typed_in, put_over -/

def bndL (l : List Nat) (sps : List Spl) (p : Nat) : LayR := if (l.length : Int) + (dif (sps.filter chg)).sum > 600 then none else some (sps.filter chg, p)
def sp_bounded : Sp := fun vs H Q _ => ∃ (D : Addr) (l : List Nat) (sps : List Spl) (p : Nat), vs = [.str (S l), .ref D, nV p] ∧ TupsV H D (splV sps) ∧ l.length ≤ 10000 ∧ sps.length ≤ 10000 ∧ (∀ s ∈ sps, s.2.1.length ≤ 1000000 ∧ s.2.2.length ≤ 1000000) ∧ ∀ v H', Same H H' → LayV H H' v (bndL l sps p) → Q v H'
theorem LayV.up {H0 H H' : Hp} {v : V} {r : LayR} (h : LayV H H' v r) (s : Same H0 H) : LayV H0 H' v r := by
  cases r with
  | none => exact h
  | some r =>
    obtain ⟨u2, D2, h1, h2, h3, h4⟩ := h
    exact ⟨u2, D2, h1, h2, h3, s.free h4⟩
theorem rep_len (ty : List Nat) (c : Nat) : (rep ty c).length = ty.length * c := by
  unfold rep
  induction c with
  | zero => rfl
  | succ c ih => rw [List.replicate_succ, List.flatten_cons, List.length_append, ih, Nat.mul_succ]; omega
theorem chg_one (s : Spl) : [s].filter chg = if s.2.1 = s.2.2 then [] else [s] := by
  rw [List.filter_cons]
  by_cases e : s.2.1 = s.2.2
  · rw [if_pos e, if_neg (by unfold chg; rw [decide_eq_false (fun z => z e)]; decide)]
    rfl
  · rw [if_neg e, if_pos (by unfold chg; exact decide_eq_true e)]
    rfl
theorem one_tup {H : Hp} {D u : Addr} {s : Spl} (hu : H u = some (.tup [nV s.1, .str (S s.2.1), .str (S s.2.2)])) (hD : H D = some (.lst [.ref u])) : TupsV H D (splV [s]) := by
  refine ⟨[u], hD, rfl, fun i a t e1 e2 => ?_⟩
  cases i with
  | zero =>
    cases e1
    cases e2
    exact hu
  | succ i => cases e1
section
variable {P : Program} {w : World} {K : PySem.W.Frag} {mg : Str → Option Value} {base : Heap} {f : Addr} {fd : FuncData}
theorem sc_bounded : FnScope ["text", "splices", "place", "kept"] ["text", "splices", "place"] (defScope s_bounded) := ⟨rfl, rfl, rfl, by decide +kernel, rfl, by decide +kernel, by decide +kernel⟩
theorem ok_bounded (F : Fun K "bounded" "bounded" s_bounded f fd) (O_changing : Own P w K mg base CX0 1 "changing" ["splices"] sp_changing) (O_too_long : Own P w K mg base CX0 1 "too_long" ["text", "splices"] sp_toolong) : FnOk P w K mg base CX0 2 f fd ["text", "splices", "place"] sp_bounded := by
  refine F.ok sc_bounded (fun vs H Q E h => ?_) (fun cdv A outer s H vs Q E hr h => ?_)
  · obtain ⟨D, l, sps, p, rfl, _⟩ := h
    rfl
  obtain ⟨D, l, sps, p, rfl, hD, hl, hn, hz, q⟩ := h
  refine ⟨_, (pss_cons (ps_set (i := 3) sc_bounded.nd rfl (Or.inl rfl) (pe_own O_changing hr (by rfl) pass0 (pa_cons (pv 1) pa_nil)))
      (pss_one (ps_ret (pe_ifExp (pt_val (pe_own O_too_long hr (by rfl) pass0 (pa_cons (pv 0) (pa_cons (pv 3) pa_nil)))) pe_non (pe_tup (pa_cons (pv 3) (pa_cons (pv 2) pa_nil))))))), ?_⟩
  refine ⟨_, rfl, D, sps, rfl, hD, hn, fun E H1 S1 hE hT => ?_⟩
  have hfl := List.length_filter_le chg sps
  refine ⟨_, rfl, _, rfl, E, l, sps.filter chg, rfl, hT, hl, by omega, fun s hs => hz s (List.mem_filter.mp hs).1, fun H2 S2 => ⟨_, rfl, ?_⟩⟩
  unfold bndL at q
  by_cases c : (l.length : Int) + (dif (sps.filter chg)).sum > 600
  · rw [if_pos c] at q
    exact iteDT c (q .non _ (S1.trans S2) rfl)
  · rw [if_neg c] at q
    refine iteDF c ⟨_, rfl, _, rfl, (by show 2 ≤ sizeLine; decide), fun u hu => q _ _ ((S1.trans S2).trans (same_new hu _)) ⟨u, E, rfl, upd_same, (hT.same S2).same (same_new hu _), hE⟩⟩
end

/-! rows joined -/
def rowT (l : List Nat) (r : Nat) : List Nat := cutT l (begAt l r) (endAt l r)
def walkS (l : List Nat) : List Spl → Option (List Nat)
  | [] => some l
  | s :: rest => if s.1 ≤ l.length ∧ cutT l s.1 (s.1 + s.2.1.length) = s.2.1 then walkS (l.take s.1 ++ s.2.2 ++ l.drop (s.1 + s.2.1.length)) rest else none
def preR (ls : List (List Nat)) : List Nat := (ls.map fun r => r ++ [10]).flatten
def postR (ls : List (List Nat)) : List Nat := (ls.map fun r => 10 :: r).flatten
theorem glue_mid (A : List (List Nat)) (x : List Nat) (C : List (List Nat)) : glue (A ++ x :: C) = preR A ++ (x ++ postR C) := by
  induction A with
  | nil => rfl
  | cons a A ih =>
    have e : glue (a :: (A ++ x :: C)) = a ++ 10 :: glue (A ++ x :: C) := by
      cases A with
      | nil => exact glue_cons _ _ _
      | cons b B => exact glue_cons _ _ _
    show glue (a :: (A ++ x :: C)) = _
    rw [e, ih]
    unfold preR
    simp
theorem take_rowJ {l : List Nat} {r : Nat} (h : r ≤ l.count 10) : l.take (endAt l r) = l.take (begAt l r) ++ rowT l r := by
  have hbe := beg_le (l := l) (i := r) (by omega)
  unfold rowT cutT
  rw [show endAt l r = begAt l r + (endAt l r - begAt l r) by omega, List.take_add, show begAt l r + (endAt l r - begAt l r) - begAt l r = endAt l r - begAt l r by omega]
theorem row_at {l : List Nat} {r : Nat} (h : r ≤ l.count 10) : (splitL l)[r]? = some (rowT l r) := splitL_get h
theorem preR_take {l : List Nat} : ∀ {r : Nat}, r ≤ l.count 10 → preR ((splitL l).take r) = l.take (begAt l r)
  | 0, _ => by simp [preR, begAt]
  | r + 1, h => by
    rw [List.take_add_one, row_at (by omega)]
    have e : preR ((splitL l).take r ++ [rowT l r]) = preR ((splitL l).take r) ++ (rowT l r ++ [10]) := by unfold preR; simp
    show preR ((splitL l).take r ++ [rowT l r]) = l.take (endAt l r + 1)
    obtain ⟨x, hx, hxe⟩ := stop_occ (show r < l.count 10 by omega)
    have h10 : l[endAt l r]? = some 10 := by rw [hxe]; exact occs_has.mp (List.mem_of_getElem? hx)
    rw [e, preR_take (by omega), List.take_succ, h10, take_rowJ (by omega)]
    simp
theorem preR_all (l : List Nat) : preR ((splitL l).take (l.count 10)) ++ rowT l (l.count 10) = l := by
  rw [preR_take (Nat.le_refl _), ← take_rowJ (Nat.le_refl _), stop_last, List.take_length]
theorem split_dec {l : List Nat} {r : Nat} (h : r ≤ l.count 10) : splitL l = (splitL l).take r ++ rowT l r :: (splitL l).drop (r + 1) := by
  have hr : r < (splitL l).length := by rw [splitL_len]; omega
  have e := row_at h
  rw [List.getElem?_eq_getElem hr] at e
  rw [← Option.some.inj e, ← List.drop_eq_getElem_cons hr, List.take_append_drop]
theorem glue_splitL (l : List Nat) : glue (splitL l) = l := by
  have e := split_dec (l := l) (Nat.le_refl _)
  rw [e, glue_mid, List.drop_eq_nil_of_le (by rw [splitL_len]; exact Nat.le_refl _)]
  show _ ++ (_ ++ []) = _
  rw [List.append_nil]
  exact preR_all l
/-! blocks laid: which splices, which text -/
theorem occs_app (l : List Nat) : occs (l ++ [10]) = occs l ++ [l.length] := by
  unfold occs
  rw [List.length_append, show [10].length = 1 from rfl, List.range_succ, List.filter_append]
  congr 1
  · refine List.filter_congr fun i hi => ?_
    rw [List.getElem?_append_left (List.mem_range.mp hi)]
  · simp
theorem splitL_nl (l : List Nat) : splitL (l ++ [10]) = splitL l ++ [[]] := by
  have hs : starts (l ++ [10]) = starts l ++ [l.length + 1] := by unfold starts; rw [occs_app, List.map_append]; rfl
  have he : stops (l ++ [10]) = stops l ++ [l.length + 1] := by unfold stops; rw [occs_app, List.length_append]; rfl
  unfold splitL
  rw [hs, he, List.zip_append (by rw [starts_len, stops_len]), List.map_append]
  congr 1
  · refine List.map_congr_left fun p hp => ?_
    obtain ⟨a, b⟩ := p
    have hb : b ≤ l.length := by
      have := (List.of_mem_zip hp).2
      unfold stops at this
      rcases List.mem_append.mp this with z | z
      · exact Nat.le_of_lt (occs_mem z)
      · rw [List.mem_singleton] at z; omega
    show ((l ++ [10]).drop a).take (b - a) = (l.drop a).take (b - a)
    by_cases h : a ≤ l.length
    · rw [List.drop_append_of_le_length h, List.take_append_of_le_length (by rw [List.length_drop]; omega)]
    · rw [show b - a = 0 by omega, List.take_zero, List.take_zero]
  · show [((l ++ [10]).drop (l.length + 1)).take (l.length + 1 - (l.length + 1))] = [[]]
    rw [Nat.sub_self, List.take_zero]
theorem splitL_nls (l : List Nat) (d : Nat) : splitL (l ++ List.replicate d 10) = splitL l ++ List.replicate d [] := by
  induction d with
  | zero => simp
  | succ d ih => rw [List.replicate_succ', ← List.append_assoc, splitL_nl, ih, List.replicate_succ', List.append_assoc]
theorem count_nls (l : List Nat) (d : Nat) : (l ++ List.replicate d 10).count 10 = l.count 10 + d := by rw [List.count_append, List.count_replicate_self]
def newR (col W c : Nat) (r t : List Nat) : List Nat := List.replicate (col - min col r.length) 32 ++ rep (ljL t W) c
def putR (col : Nat) (r x : List Nat) : List Nat := r.take (min col r.length) ++ x ++ r.drop (min col r.length)
structure Blk where
  m : List Nat
  tp : Nat
  col : Nat
  W : Nat
  c : Nat
  ts : List (List Nat)
def Blk.newK (B : Blk) (k : Nat) : List Nat := newR B.col B.W B.c (rowT B.m (B.tp + k)) (B.ts.getD k [])
def Blk.shf (B : Blk) : Nat → Nat
  | 0 => 0
  | k + 1 => B.shf k + (B.newK k).length
def Blk.splK (B : Blk) (k : Nat) : Spl := (begAt B.m (B.tp + k) + min B.col (rowT B.m (B.tp + k)).length + B.shf k, [], B.newK k)
def Blk.allS (B : Blk) (n : Nat) : List Spl := (List.range n).map B.splK
def Blk.rowsK (B : Blk) : Nat → List (List Nat)
  | 0 => splitL B.m
  | k + 1 => (B.rowsK k).set (B.tp + k) (putR B.col (rowT B.m (B.tp + k)) (B.newK k))
theorem rowT_len {l : List Nat} {r : Nat} (h : r ≤ l.count 10) : (rowT l r).length = endAt l r - begAt l r := by
  have := end_le (l := l) (i := r) (by omega)
  unfold rowT cutT
  rw [List.length_take, List.length_drop]
  omega
theorem putR_len (col : Nat) (r x : List Nat) : (putR col r x).length = r.length + x.length := by
  unfold putR
  rw [List.length_append, List.length_append, List.length_take, List.length_drop]
  omega
theorem Blk.allS_succ (B : Blk) (n : Nat) : B.allS (n + 1) = B.allS n ++ [B.splK n] := by unfold Blk.allS; rw [List.range_succ, List.map_append]; rfl
theorem Blk.rowsK_len (B : Blk) : ∀ k, (B.rowsK k).length = B.m.count 10 + 1
  | 0 => splitL_len _
  | k + 1 => by unfold Blk.rowsK; rw [List.length_set, B.rowsK_len k]
theorem Blk.rowsK_hi (B : Blk) : ∀ k j, B.tp + k ≤ j → (B.rowsK k)[j]? = (splitL B.m)[j]?
  | 0, j, _ => rfl
  | k + 1, j, h => by
    unfold Blk.rowsK
    rw [List.getElem?_set_ne (by omega), B.rowsK_hi k j (by omega)]
theorem Blk.rowsK_at (B : Blk) {k : Nat} (h : B.tp + k ≤ B.m.count 10) : (B.rowsK k)[B.tp + k]? = some (rowT B.m (B.tp + k)) := by rw [B.rowsK_hi k _ (Nat.le_refl _), row_at h]
theorem Blk.dec (B : Blk) {k : Nat} (h : B.tp + k ≤ B.m.count 10) : B.rowsK k = (B.rowsK k).take (B.tp + k) ++ rowT B.m (B.tp + k) :: (B.rowsK k).drop (B.tp + k + 1) ∧ B.rowsK (k + 1) = (B.rowsK k).take (B.tp + k) ++ putR B.col (rowT B.m (B.tp + k)) (B.newK k) :: (B.rowsK k).drop (B.tp + k + 1) := by
  have hl : B.tp + k < (B.rowsK k).length := by rw [B.rowsK_len]; omega
  have e := B.rowsK_at h
  rw [List.getElem?_eq_getElem hl] at e
  constructor
  · rw [← Option.some.inj e, ← List.drop_eq_getElem_cons hl, List.take_append_drop]
  · show (B.rowsK k).set (B.tp + k) _ = _
    rw [List.set_eq_take_append_cons_drop, if_pos hl]
theorem preR_snoc (A : List (List Nat)) (x : List Nat) : (preR (A ++ [x])).length = (preR A).length + x.length + 1 := by
  unfold preR
  simp
  omega
theorem Blk.pre_len (B : Blk) : ∀ k, B.tp + k ≤ B.m.count 10 → (preR ((B.rowsK k).take (B.tp + k))).length = begAt B.m (B.tp + k) + B.shf k
  | 0, h => by
    show (preR ((splitL B.m).take (B.tp + 0))).length = _ + 0
    have h1 := beg_le (l := B.m) (i := B.tp + 0) (by omega)
    have h2 := end_le (l := B.m) (i := B.tp + 0) (by omega)
    rw [preR_take h, List.length_take]
    omega
  | k + 1, h => by
    have d := B.dec (k := k) (by omega)
    have ih := B.pre_len k (by omega)
    have hl : ((B.rowsK k).take (B.tp + k)).length = B.tp + k := by rw [List.length_take, B.rowsK_len]; omega
    have e : (B.rowsK (k + 1)).take (B.tp + (k + 1)) = (B.rowsK k).take (B.tp + k) ++ [putR B.col (rowT B.m (B.tp + k)) (B.newK k)] := by
      rw [d.2, List.take_append, hl, show B.tp + (k + 1) - (B.tp + k) = 1 by omega, List.take_of_length_le (by rw [hl]; omega)]
      rfl
    rw [e, preR_snoc, ih, putR_len, rowT_len (by omega)]
    have h1 := beg_le (l := B.m) (i := B.tp + k) (by omega)
    show _ = endAt B.m (B.tp + k) + 1 + (B.shf k + (B.newK k).length)
    omega
theorem take_in (P Y : List Nat) (a : Nat) : (P ++ Y).take (P.length + a) = P ++ Y.take a := by
  induction P with
  | nil => simp
  | cons c P ih => rw [List.length_cons, show P.length + 1 + a = P.length + a + 1 by omega, List.cons_append, List.take_succ_cons, ih]; rfl
theorem drop_in (P Y : List Nat) (a : Nat) : (P ++ Y).drop (P.length + a) = Y.drop a := by
  induction P with
  | nil => simp
  | cons c P ih => rw [List.length_cons, show P.length + 1 + a = P.length + a + 1 by omega, List.cons_append, List.drop_succ_cons, ih]
theorem Blk.step (B : Blk) {k : Nat} (h : B.tp + k ≤ B.m.count 10) : (B.splK k).1 ≤ (glue (B.rowsK k)).length ∧ glue (B.rowsK (k + 1)) = (glue (B.rowsK k)).take (B.splK k).1 ++ B.newK k ++ (glue (B.rowsK k)).drop (B.splK k).1 := by
  have d := B.dec h
  have hp := B.pre_len k h
  generalize (B.rowsK k).take (B.tp + k) = A at d hp
  generalize (B.rowsK k).drop (B.tp + k + 1) = C at d
  rw [d.1, d.2, glue_mid, glue_mid]
  have e : (B.splK k).1 = (preR A).length + min B.col (rowT B.m (B.tp + k)).length := by
    rw [hp]
    show begAt B.m (B.tp + k) + min B.col (rowT B.m (B.tp + k)).length + B.shf k = _
    omega
  rw [e]
  generalize rowT B.m (B.tp + k) = r
  generalize B.newK k = x
  have hm : min B.col r.length ≤ r.length := Nat.min_le_right _ _
  constructor
  · rw [List.length_append, List.length_append]
    omega
  · unfold putR
    generalize min B.col r.length = a at hm
    rw [take_in, drop_in, List.take_append_of_le_length hm, List.drop_append_of_le_length hm]
    simp
theorem Blk.glue_len (B : Blk) : ∀ n, B.tp + n ≤ B.m.count 10 + 1 → (glue (B.rowsK n)).length = B.m.length + B.shf n
  | 0, _ => by show (glue (splitL B.m)).length = _ + 0; rw [glue_splitL]; rfl
  | n + 1, h => by
    have s := B.step (k := n) (by omega)
    have ih := B.glue_len n (by omega)
    rw [s.2, List.length_append, List.length_append, List.length_take, List.length_drop]
    show _ = B.m.length + (B.shf n + (B.newK n).length)
    omega
theorem walkS_app (A B : List Spl) : ∀ {x y : List Nat}, walkS x A = some y → walkS x (A ++ B) = walkS y B := by
  induction A with
  | nil => intro x y h; cases h; rfl
  | cons s A ih =>
    intro x y h
    unfold walkS at h
    split at h
    · rename_i c
      show (if _ then walkS _ (A ++ B) else none) = _
      rw [if_pos c]
      exact ih h
    · cases h
theorem walk_put {x : List Nat} {a : Nat} {n : List Nat} (h : a ≤ x.length) : walkS x [(a, [], n)] = some (x.take a ++ n ++ x.drop a) := by
  unfold walkS
  have e : cutT x a (a + ([] : List Nat).length) = [] := by
    unfold cutT
    rw [show a + ([] : List Nat).length - a = 0 by show a + 0 - a = 0; omega, List.take_zero]
  rw [if_pos ⟨h, e⟩]
  rfl
theorem Blk.walk (B : Blk) : ∀ n, B.tp + n ≤ B.m.count 10 + 1 → walkS B.m ((B.allS n).filter chg) = some (glue (B.rowsK n))
  | 0, _ => by show walkS B.m [] = some (glue (splitL B.m)); rw [glue_splitL]; rfl
  | n + 1, h => by
    have s := B.step (k := n) (by omega)
    have ih := B.walk n (by omega)
    rw [B.allS_succ, List.filter_append, walkS_app _ _ ih, chg_one]
    by_cases e : ([] : List Nat) = B.newK n
    · rw [if_pos (show (B.splK n).2.1 = (B.splK n).2.2 from e), s.2, ← e, List.append_nil, List.take_append_drop]
      rfl
    · rw [if_neg (show ¬ (B.splK n).2.1 = (B.splK n).2.2 from e), s.2]
      exact walk_put s.1
theorem dif_app (A C : List Spl) : (dif (A ++ C)).sum = (dif A).sum + (dif C).sum := by unfold dif; rw [List.map_append, List.sum_append]
theorem Blk.sum (B : Blk) : ∀ n, (dif ((B.allS n).filter chg)).sum = ((B.shf n : Nat) : Int)
  | 0 => rfl
  | n + 1 => by
    rw [B.allS_succ, List.filter_append, dif_app, B.sum n, chg_one]
    show _ = ((B.shf n + (B.newK n).length : Nat) : Int)
    by_cases e : ([] : List Nat) = B.newK n
    · rw [if_pos (show (B.splK n).2.1 = (B.splK n).2.2 from e), ← e]
      rfl
    · rw [if_neg (show ¬ (B.splK n).2.1 = (B.splK n).2.2 from e)]
      show ((B.shf n : Nat) : Int) + (((((B.newK n).length : Nat) : Int) - 0) + 0) = _
      omega
def blkOf (l : List Nat) (p : Nat) (ts : List (List Nat)) (W c : Nat) : Blk := ⟨l ++ List.replicate (rno l p + ts.length - (l.count 10 + 1)) 10, rno l p, p - rb l p, W, c, ts⟩
def blkS (l : List Nat) (p : Nat) (ts : List (List Nat)) (W c : Nat) : List Spl := (l.length, [], List.replicate (rno l p + ts.length - (l.count 10 + 1)) 10) :: (blkOf l p ts W c).allS ts.length
def blkT (l : List Nat) (p : Nat) (ts : List (List Nat)) (W c : Nat) : List Nat := glue ((blkOf l p ts W c).rowsK ts.length)
theorem blk_rows (l : List Nat) (p : Nat) (ts : List (List Nat)) (W c : Nat) : (blkOf l p ts W c).tp + ts.length ≤ (blkOf l p ts W c).m.count 10 + 1 := by
  show rno l p + ts.length ≤ (l ++ List.replicate (rno l p + ts.length - (l.count 10 + 1)) 10).count 10 + 1
  rw [count_nls]
  omega
theorem blk_filter (l : List Nat) (p : Nat) (ts : List (List Nat)) (W c : Nat) : (blkS l p ts W c).filter chg = (if 0 < rno l p + ts.length - (l.count 10 + 1) then [(l.length, [], List.replicate (rno l p + ts.length - (l.count 10 + 1)) 10)] else []) ++ ((blkOf l p ts W c).allS ts.length).filter chg := by
  unfold blkS
  rw [show ∀ (a : Spl) (as : List Spl), a :: as = [a] ++ as from fun _ _ => rfl, List.filter_append, chg_one]
  congr 1
  generalize rno l p + ts.length - (l.count 10 + 1) = d
  cases d with
  | zero => rfl
  | succ d => rw [if_neg (fun z => by cases z), if_pos (Nat.succ_pos _)]
theorem blk_walk (l : List Nat) (p : Nat) (ts : List (List Nat)) (W c : Nat) : walkS l ((blkS l p ts W c).filter chg) = some (blkT l p ts W c) := by
  rw [blk_filter]
  have e : walkS l (if 0 < rno l p + ts.length - (l.count 10 + 1) then [(l.length, [], List.replicate (rno l p + ts.length - (l.count 10 + 1)) 10)] else []) = some (blkOf l p ts W c).m := by
    show _ = some (l ++ List.replicate (rno l p + ts.length - (l.count 10 + 1)) 10)
    generalize rno l p + ts.length - (l.count 10 + 1) = d
    by_cases h : 0 < d
    · rw [if_pos h, walk_put (Nat.le_refl _), List.take_length, List.drop_length, List.append_nil]
    · rw [if_neg h, show d = 0 by omega]
      show some l = some (l ++ [])
      rw [List.append_nil]
  rw [walkS_app _ _ e]
  exact (blkOf l p ts W c).walk _ (blk_rows l p ts W c)
theorem blk_sum (l : List Nat) (p : Nat) (ts : List (List Nat)) (W c : Nat) : (l.length : Int) + (dif ((blkS l p ts W c).filter chg)).sum = (((blkT l p ts W c).length : Nat) : Int) := by
  rw [blk_filter, dif_app, (blkOf l p ts W c).sum]
  unfold blkT
  rw [(blkOf l p ts W c).glue_len _ (blk_rows l p ts W c)]
  have e : (blkOf l p ts W c).m.length = l.length + (rno l p + ts.length - (l.count 10 + 1)) := by
    show (l ++ List.replicate _ 10).length = _
    rw [List.length_append, List.length_replicate]
  rw [e]
  generalize rno l p + ts.length - (l.count 10 + 1) = d
  by_cases h : 0 < d
  · rw [if_pos h]
    show (l.length : Int) + (((((List.replicate d 10).length : Nat) : Int) - 0 + 0) + _) = _
    rw [List.length_replicate]
    omega
  · rw [if_neg h]
    show (l.length : Int) + (0 + _) = _
    omega

end My

set_option Elab.async false
set_option linter.all false
set_option maxRecDepth 100000
set_option maxHeartbeats 4000000
namespace My
open PySem L2




/-! the program's laid_in_row, laid_block -/

def IsW (ts : List (List Nat)) (W : Nat) : Prop := (∃ t ∈ ts, t.length = W) ∧ ∀ t ∈ ts, t.length ≤ W
theorem IsW.uniq {ts : List (List Nat)} {W W' : Nat} (h : IsW ts W) (h' : IsW ts W') : W = W' := by
  obtain ⟨⟨t, ht, e⟩, g⟩ := h
  obtain ⟨⟨t', ht', e'⟩, g'⟩ := h'
  have h1 := g t' ht'
  have h2 := g' t ht
  omega
theorem rep_one (c n : Nat) : rep [c] n = List.replicate n c := by
  unfold rep
  induction n with
  | zero => rfl
  | succ n ih => rw [List.replicate_succ, List.flatten_cons, ih, List.replicate_succ]; rfl
theorem rno_atB {l : List Nat} {r p : Nat} (hr : r ≤ l.count 10) (h1 : begAt l r ≤ p) (h2 : p ≤ endAt l r) : rno l p = r := by
  have he := end_le (l := l) (i := r) (by omega)
  have hp : p ≤ l.length := by omega
  have a1 := (head_le hp (j := r) (by omega)).mp h1
  have a2 : ¬ (r + 1 ≤ rno l p) := fun z => by
    have := (head_le hp (j := r + 1) (by omega)).mpr z
    have e : begAt l (r + 1) = endAt l r + 1 := rfl
    omega
  omega
def sp_lir : Sp := fun vs H Q _ => ∃ (m : List Nat) (r col : Nat) (x : List Nat), vs = [.str (S m), .int (r : Int), .int (col : Int), .str (S x)] ∧ m.length ≤ 100000 ∧ r ≤ m.count 10 ∧ col ≤ 1000 ∧ x.length ≤ 900000 ∧ ∀ u H', Same H H' → H u = none → H' u = some (.tup [nV (begAt m r + min col (rowT m r).length), .str (S []), .str (S (List.replicate (col - min col (rowT m r).length) 32 ++ x))]) → Q (.ref u) H'
def sp_lblk : Sp := fun vs H Q _ => ∃ (l : List Nat) (p : Nat) (B : Addr) (ts : List (List Nat)) (c : Nat), vs = [.str (S l), .int (p : Int), .ref B, .int (c : Int)] ∧ H B = some (.lst (txtsV ts)) ∧ l.length ≤ 600 ∧ p ≤ l.length ∧ 1 ≤ ts.length ∧ ts.length ≤ 700 ∧ (∀ t ∈ ts, t.length ≤ 600) ∧ 1 ≤ c ∧ c ≤ 999 ∧ ∀ v H' W, IsW ts W → Same H H' → LayV H H' v (bndL l (blkS l p ts W c) p) → Q v H'
theorem comp_len {K : PySem.W.Frag} {a D : Addr} {ts : List (List Nat)} {ix : List (Option Nat)} {σ : St} {H : Hp} {Q : VK} {te : TE} (hσ : around ix σ = [none]) (ha : SqL K H a (txtsV ts)) (hD : H D = none) (hn : ts.length ≤ 10000)
    (he : ∀ (r : List Nat) (H' : Hp) (k : VK), r ∈ ts → k (.int (r.length : Int)) H' → te [some (.str (S r))] H' k)
    (hd : ∀ H', Same H H' → H' D = some (.lst ((ts.map fun r => (r.length : Int)).map V.int)) → Q (.ref D) H') : CompW (Itl K a) D (around ix σ) (upd H D (.lst [])) (gName 0) tYes te Q := by
  have hlen : (txtsV ts).length = ts.length := by unfold txtsV; rw [List.length_map]
  refine comp_list (xs := txtsV ts) (fun i σ H' => (∃ x : Option V, σ = [x]) ∧ Same H H' ∧ H' D = some (.lst (((ts.take i).map fun r => (r.length : Int)).map V.int))) ⟨⟨none, hσ⟩, same_new hD _, upd_same⟩ (fun i σ H' _ h => h.2.1.seq ha) ?_ ?_
  · rintro i v σ H' hv ⟨⟨x, rfl⟩, SS, hD'⟩
    have hi : i < ts.length := by
      have := (List.getElem?_eq_some_iff.mp hv).1
      rwa [hlen] at this
    unfold txtsV at hv
    rw [List.getElem?_map, List.getElem?_eq_getElem hi] at hv
    cases hv
    refine yes (he _ H' _ (List.getElem_mem hi) ⟨_, hD', ?_, ⟨_, rfl⟩, same_upd SS hD, ?_⟩)
    · rw [List.length_map, List.length_map, List.length_take]
      exact Nat.lt_of_lt_of_le (show _ < 1000000 by omega) (small (Nat.le_refl _))
    · rw [upd_same, List.take_succ, List.getElem?_eq_getElem hi, List.map_append, List.map_append]
      rfl
  · rintro σ H' ⟨_, SS, hD'⟩
    rw [hlen, List.take_length] at hD'
    exact hd H' SS hD'
theorem isW_of {ts : List (List Nat)} {m : Int} (h1 : m ∈ ts.map fun r => (r.length : Int)) (h2 : ∀ n ∈ ts.map fun r => (r.length : Int), n ≤ m) : ∃ W : Nat, m = (W : Int) ∧ IsW ts W := by
  obtain ⟨t, ht, rfl⟩ := List.mem_map.mp h1
  refine ⟨t.length, rfl, ⟨t, ht, rfl⟩, fun t' ht' => ?_⟩
  have := h2 (t'.length : Int) (List.mem_map.mpr ⟨t', ht', rfl⟩)
  omega
theorem ljL_len (t : List Nat) (W : Nat) : (ljL t W).length = max t.length W := by
  unfold ljL
  rw [List.length_append, List.length_replicate]
  omega
section
variable {P : Program} {w : World} {K : PySem.W.Frag} {mg : Str → Option Value} {base : Heap} {f : Addr} {fd : FuncData}
theorem sc_laid_in_row : FnScope ["text", "row", "column", "put", "at", "lacking"] ["text", "row", "column", "put"] (defScope s_laid_in_row) := ⟨rfl, rfl, rfl, by decide +kernel, rfl, by decide +kernel, by decide +kernel⟩
theorem ok_lir (F : Fun K "laid_in_row" "laid_in_row" s_laid_in_row f fd) (O_place_of : Own P w K mg base CX0 6 "place_of" ["text", "row", "column"] sp_plc_in) (O_column_of : Own P w K mg base CX0 4 "column_of" ["text", "place"] sp_col_in) : FnOk P w K mg base CX0 7 f fd ["text", "row", "column", "put"] sp_lir := by
  refine F.ok sc_laid_in_row (fun vs H Q E h => ?_) (fun cdv A outer s H vs Q E hr h => ?_)
  · obtain ⟨m, r, col, x, rfl, _⟩ := h
    rfl
  obtain ⟨m, r, col, x, rfl, hm, hr', hc, hx, q⟩ := h
  refine ⟨_, (pss_cons (ps_set (i := 4) sc_laid_in_row.nd rfl (Or.inl rfl) (pe_own O_place_of hr (by rfl) pass0 (pa_cons (pv 0) (pa_cons (pv 1) (pa_cons (pv 2) pa_nil)))))
      (pss_cons (ps_set (i := 5) sc_laid_in_row.nd rfl (Or.inl rfl) (pe_op op_sub (pv 2) (pe_own O_column_of hr (by rfl) pass0 (pa_cons (pv 0) (pa_cons (pv 4) pa_nil)))))
      (pss_one (ps_ret (pe_tup (pa_cons (pv 4) (pa_cons pe_str (pa_cons (pe_op op_adS (pe_op op_mulZ pe_str (pv 5)) (pv 3)) pa_nil)))))))), ?_⟩
  have hb := beg_le (l := m) (i := r) (by omega)
  have he := end_le (l := m) (i := r) (by omega)
  have ert := rowT_len hr'
  have eat : min (begAt m r + col) (endAt m r) = begAt m r + min col (rowT m r).length := by omega
  refine ⟨_, rfl, _, rfl, _, rfl, m, r, col, rfl, by omega, hr', fun H1 S1 => ?_⟩
  show gName _ (V.int ((min (begAt m r + col) (endAt m r) : Nat) : Int)) _ _ _
  rw [eat]
  generalize ea : begAt m r + min col (rowT m r).length = a at q
  have ern : rno m a = r := rno_atB hr' (by omega) (by omega)
  have erb : rb m a = begAt m r := by unfold rb; rw [ern]
  refine ⟨_, rfl, _, rfl, _, rfl, m, a, rfl, by omega, by omega, _, _, rfl, rfl, ?_⟩
  have el : (col : Int) - ((a - rb m a : Nat) : Int) = ((col - min col (rowT m r).length : Nat) : Int) := by rw [erb]; omega
  show gName _ (V.int ((col : Int) - ((a - rb m a : Nat) : Int))) _ _ _
  rw [el]
  generalize en : col - min col (rowT m r).length = n at q
  refine ⟨_, rfl, _, rfl, [32], (n : Int), rfl, rfl, by omega, by omega, by decide, _, rfl, _, x, rfl, rfl, ?_, (by show 3 ≤ sizeLine; decide), fun u hu => ?_⟩
  · refine Nat.le_trans (show _ ≤ 1000000 from ?_) (small (Nat.le_refl _))
    show (rep [32] (n : Int).toNat).length + x.length ≤ _
    rw [show (n : Int).toNat = n by omega, rep_one, List.length_replicate]
    omega
  · refine q u _ (S1.trans (same_new hu _)) (S1.free hu) ?_
    rw [upd_same]
    show some (HO.tup [nV a, .str (S []), .str (S (rep [32] (n : Int).toNat ++ x))]) = _
    rw [show (n : Int).toNat = n by omega, rep_one]
theorem sc_laid_block : FnScope ["text", "place", "texts", "count", "row", "column", "width", "feeds", "with_rows", "splices", "shift", "number", "one", "splice"] ["text", "place", "texts", "count"] (defScope s_laid_block) := ⟨rfl, rfl, rfl, by decide +kernel, rfl, by decide +kernel, by decide +kernel⟩
theorem ok_lblk (F : Fun K "laid_block" "laid_block" s_laid_block f fd) (O_bounded : Own P w K mg base CX0 2 "bounded" ["text", "splices", "place"] sp_bounded) (O_row_of : Own P w K mg base CX0 4 "row_of" ["text", "place"] sp_row_in) (O_column_of : Own P w K mg base CX0 4 "column_of" ["text", "place"] sp_col_in) (O_row_count : Own P w K mg base CX0 1 "row_count" ["text"] sp_row_count) (O_laid_in_row : Own P w K mg base CX0 7 "laid_in_row" ["text", "row", "column", "put"] sp_lir) (m_len : mg "len" = none) (m_max : mg "max" = none) (m_enumerate : mg "enumerate" = none) : FnOk P w K mg base CX0 8 f fd ["text", "place", "texts", "count"] sp_lblk := by
  refine F.ok sc_laid_block (fun vs H Q E h => ?_) (fun cdv A outer s H vs Q E hr h => ?_)
  · obtain ⟨l, p, B, ts, c, rfl, _⟩ := h
    rfl
  obtain ⟨l, p, B, ts, c, rfl, hB, hl, hp, ht1, ht2, hts, hc1, hc2, q⟩ := h
  refine ⟨_, (pss_cons (ps_set (i := 4) sc_laid_block.nd rfl (Or.inl rfl) (pe_own O_row_of hr (by rfl) pass0 (pa_cons (pv 0) (pa_cons (pv 1) pa_nil))))
      (pss_cons (ps_set (i := 5) sc_laid_block.nd rfl (Or.inl rfl) (pe_own O_column_of hr (by rfl) pass0 (pa_cons (pv 0) (pa_cons (pv 1) pa_nil))))
      (pss_cons (ps_set (i := 6) sc_laid_block.nd rfl (Or.inl rfl) (pe_callB (call_maxL (by rfl)) (by rfl) m_max boot_max (pa_cons (pe_comp ["one"] _ [] rfl (cl_none ["one"] (by decide +kernel) rfl (by decide +kernel)) (pi_list (pv 2)) (fun _ _ _ _ => pg_name (i := 0) (nd1 _) rfl (Or.inl rfl)) (fun _ _ _ _ => pif_nil) (fun _ _ _ _ => (pe_callB call_lenS (by rfl) m_len PySem.boot_len (pa_cons (pv 0) pa_nil)))) pa_nil)))
      (pss_cons (ps_set (i := 7) sc_laid_block.nd rfl (Or.inl rfl) (pe_op op_mulZ pe_str (pe_op op_sub (pe_op op_add (pv 4) (pe_callB call_len_seq (by rfl) m_len PySem.boot_len (pa_cons (pv 2) pa_nil))) (pe_own O_row_count hr (by rfl) pass0 (pa_cons (pv 0) pa_nil)))))
      (pss_cons (ps_set (i := 8) sc_laid_block.nd rfl (Or.inl rfl) (pe_op op_adS (pv 0) (pv 7)))
      (pss_cons (ps_set (i := 9) sc_laid_block.nd rfl (Or.inl rfl) (pe_lst (pa_cons (pe_tup (pa_cons (pe_callB call_lenS (by rfl) m_len PySem.boot_len (pa_cons (pv 0) pa_nil)) (pa_cons pe_str (pa_cons (pv 7) pa_nil)))) pa_nil)))
      (pss_cons (ps_set (i := 10) sc_laid_block.nd rfl (Or.inl rfl) pe_int)
      (pss_cons (ps_for PassesOwn.never rfl (pi_enum (by rfl) m_enumerate (pa_cons (pv 2) pa_nil)) (pg_tup rfl (pgs_cons (pg_name (i := 11) sc_laid_block.nd rfl (Or.inl rfl)) (pgs_cons (pg_name (i := 12) sc_laid_block.nd rfl (Or.inl rfl)) pgs_nil))) (pss_cons (ps_set (i := 13) sc_laid_block.nd rfl (Or.inl rfl) (pe_own O_laid_in_row hr (by rfl) pass0 (pa_cons (pv 8) (pa_cons (pe_op op_add (pv 4) (pv 11)) (pa_cons (pv 5) (pa_cons (pe_op op_mulZ (pe_bm PySem.F.plainAttrs_str PySem.F.slot_str_ljust PySem.F.type_str_ljust mt_ljust (pv 12) (pa_cons (pv 6) pa_nil)) (pv 3)) pa_nil))))))
      (pss_cons (ps_expr (pe_bm PySem.F.plainAttrs_list PySem.F.slot_list_append PySem.F.type_list_append mt_append (pv 9) (pa_cons (pe_tup (pa_cons (pe_op op_add (pe_ix ix_tup (pv 13) pe_int (fun _ _ => rfl)) (pv 10)) (pa_cons (pe_ix ix_tup (pv 13) pe_int (fun _ _ => rfl)) (pa_cons (pe_ix ix_tup (pv 13) pe_int (fun _ _ => rfl)) pa_nil)))) pa_nil)))
      (pss_one (ps_set (i := 10) sc_laid_block.nd rfl (Or.inl rfl) (pe_op op_add (pv 10) (pe_callB call_lenS (by rfl) m_len PySem.boot_len (pa_cons (pe_ix ix_tup (pv 13) pe_int (fun _ _ => rfl)) pa_nil))))))))
      (pss_one (ps_ret (pe_own O_bounded hr (by rfl) pass0 (pa_cons (pv 0) (pa_cons (pv 9) (pa_cons (pv 1) pa_nil)))))))))))))), ?_⟩
  have hrn := rno_le l hp
  have hcl := count_le l
  have hrb : rb l p ≤ p := (row_is hp).1
  have lts : (txtsV ts).length = ts.length := by unfold txtsV; rw [List.length_map]
  refine ⟨_, rfl, _, rfl, l, p, rfl, by omega, hp, _, rfl, _, rfl, l, p, rfl, by omega, hp, ?_⟩
  refine ⟨_, rfl, B, rfl, ⟨_, SqL.of hB⟩, fun D0 hD0 => ?_⟩
  refine comp_len rfl (SqL.of hB) hD0 (by omega) (fun r H' k hr' hk => ⟨_, rfl, r, rfl, small (by have := hts r hr'; omega), hk⟩) (fun H1 S1 hD1 => ?_)
  refine ⟨D0, _, rfl, SqL.of hD1, by rw [List.length_map]; omega, fun m hm1 hm2 => ?_⟩
  obtain ⟨W, rfl, hW⟩ := isW_of hm1 hm2
  have hW6 : W ≤ 600 := by obtain ⟨⟨t, h1, rfl⟩, _⟩ := hW; exact hts t h1
  have q := fun v H' => q v H' W hW
  have hB1 := S1 _ _ hB
  refine ⟨_, rfl, _, rfl, B, _, rfl, .inl (SqL.of hB1), _, _, rfl, rfl, _, rfl, l, rfl, _, _, rfl, rfl, [10], _, rfl, rfl, ?_, ?_, by decide, ?_⟩
  · show -1000000 ≤ ((rno l p : Nat) : Int) + (((txtsV ts).length : Nat) : Int) - (((l.count 10 : Nat) : Int) + 1)
    omega
  · show ((rno l p : Nat) : Int) + (((txtsV ts).length : Nat) : Int) - (((l.count 10 : Nat) : Int) + 1) ≤ 1000
    rw [lts]
    omega
  have ed : (((rno l p : Nat) : Int) + (((txtsV ts).length : Nat) : Int) - (((l.count 10 : Nat) : Int) + 1)).toNat = rno l p + ts.length - (l.count 10 + 1) := by rw [lts]; omega
  show gName _ (V.str (S (rep [10] (((rno l p : Nat) : Int) + (((txtsV ts).length : Nat) : Int) - (((l.count 10 : Nat) : Int) + 1)).toNat))) _ _ _
  rw [ed, rep_one]
  have hbr := blk_rows l p ts W c
  have hml : (blkOf l p ts W c).m.length ≤ 2000 := by
    show (l ++ List.replicate _ 10).length ≤ _
    rw [List.length_append, List.length_replicate]
    omega
  refine ⟨_, rfl, _, rfl, l, _, rfl, rfl, ?_, ?_⟩
  · refine Nat.le_trans (show _ ≤ 1000000 from ?_) (small (Nat.le_refl _))
    rw [List.length_replicate]
    omega
  show gName _ (V.str (S (blkOf l p ts W c).m)) _ _ _
  refine ⟨_, rfl, l, rfl, small (by omega), _, rfl, (by show 3 ≤ sizeLine; decide), fun u hu => ⟨(by show 1 ≤ sizeLine; decide), fun D hD => ?_⟩⟩
  generalize eBK : blkOf l p ts W c = BK at hbr hml
  have e1 : BK.tp = rno l p := by rw [← eBK]; rfl
  have e2 : BK.col = p - rb l p := by rw [← eBK]; rfl
  have e3 : BK.W = W := by rw [← eBK]; rfl
  have e4 : BK.c = c := by rw [← eBK]; rfl
  have e5 : BK.ts = ts := by rw [← eBK]; rfl
  generalize ed' : rno l p + ts.length - (l.count 10 + 1) = d at *
  have S2 := (same_new hu (.tup [nV l.length, .str (S []), .str (S (List.replicate d 10))])).trans (same_new hD (.lst [.ref u]))
  have S12 := S1.trans S2
  have hDH : H D = none := (S1.trans (same_new hu _)).free hD
  have hns : ∀ k, k < ts.length → (BK.newK k).length ≤ 601000 := fun k hk => by
    have h1 : BK.newK k = List.replicate (BK.col - min BK.col (rowT BK.m (BK.tp + k)).length) 32 ++ rep (ljL (BK.ts.getD k []) BK.W) BK.c := rfl
    rw [h1, List.length_append, List.length_replicate, rep_len, ljL_len]
    have h2 : (BK.ts.getD k []).length ≤ 600 := by
      rw [e5, List.getD_eq_getElem?_getD, List.getElem?_eq_getElem hk]
      exact hts _ (List.getElem_mem hk)
    have h3 : max (BK.ts.getD k []).length BK.W ≤ 600 := by omega
    have h4 := Nat.mul_le_mul h3 (show BK.c ≤ 999 by omega)
    omega
  refine ⟨_, rfl, B, rfl, ⟨_, SqL.of (S2 _ _ hB1)⟩, ?_⟩
  refine for_enum (xs := txtsV ts) (fun i σ H' => Same H H' ∧ TupsV H' D (splV ((l.length, [], List.replicate d 10) :: BK.allS i)) ∧ ∃ x y z : Option V, σ = [some (.str (S l)), some (.int (p : Int)), some (.ref B), some (.int (c : Int)), some (.int (rno l p : Nat)), some (.int (p - rb l p : Nat)), some (.int (W : Int)), some (.str (S (List.replicate d 10))), some (.str (S BK.m)), some (.ref D), some (.int ((BK.shf i : Nat) : Int)), x, y, z]) ⟨S12, one_tup (same_new hD _ _ _ upd_same) upd_same, none, none, none, rfl⟩ (fun i σ H' _ h => h.1.seq (SqL.of hB)) ?_ ?_
  · rintro i v σ H2 u2 hv ⟨S3, hT, x, y, z, rfl⟩ hu2
    have hi : i < ts.length := by
      have := (List.getElem?_eq_some_iff.mp hv).1
      rwa [lts] at this
    unfold txtsV at hv
    rw [List.getElem?_map, List.getElem?_eq_getElem hi] at hv
    cases hv
    have eg : BK.ts.getD i [] = ts[i] := by rw [e5, List.getD_eq_getElem?_getD, List.getElem?_eq_getElem hi]; rfl
    have hti := hts _ (List.getElem_mem hi)
    have hS4 := same_new hu2 (.tup [.int (i : Int), .str (S ts[i])])
    refine ⟨u2, _, rfl, SqT.of upd_same, rfl, _, _, rfl, _, _, rfl, rfl, ?_⟩
    have hrep : (rep (ljL ts[i] W) c).length ≤ 600000 := by
      rw [rep_len, ljL_len]
      have h4 := Nat.mul_le_mul (show max ts[i].length W ≤ 600 by omega) (show c ≤ 999 by omega)
      omega
    refine ⟨_, rfl, _, rfl, _, rfl, _, _, rfl, rfl, _, rfl, _, rfl, rfl, _, rfl, ts[i], W, rfl, rfl, by omega, _, rfl, _, (c : Int), rfl, rfl, by omega, by omega, ?_, BK.m, BK.tp + i, BK.col, rep (ljL ts[i] W) c, ?_, by omega, by omega, by omega, by omega, fun u3 H3 S5 hu3 hH3 => ?_⟩
    · rw [ljL_len]
      omega
    · rw [e1, e2, show ((rno l p + i : Nat) : Int) = ((rno l p : Nat) : Int) + (i : Int) by omega, show (c : Int).toNat = c by omega]
      rfl
    have hH3 : H3 u3 = some (.tup [nV (begAt BK.m (BK.tp + i) + min BK.col (rowT BK.m (BK.tp + i)).length), .str (S []), .str (S (BK.newK i))]) := by
      rw [hH3]
      unfold Blk.newK newR
      rw [eg, e3, e4]
    have hD2 := (hT.same hS4).same S5
    obtain ⟨ys, hy, hyl, _⟩ := hD2.mem
    have hyl' : ys.length = i + 1 := by
      rw [hyl]
      unfold splV Blk.allS
      rw [List.length_map, List.length_cons, List.length_map, List.length_range]
    refine ⟨_, rfl, .inl ⟨rfl, _, SqL.of hy⟩, ?_⟩
    refine ⟨_, rfl, u3, _, _, _, rfl, rfl, SqT.of hH3, rfl, _, rfl, _, _, rfl, rfl, _, rfl, u3, _, _, _, rfl, rfl, SqT.of hH3, rfl, _, rfl, u3, _, _, _, rfl, rfl, SqT.of hH3, rfl, (by show 3 ≤ sizeLine; decide), fun t ht => ?_⟩
    have S6 := same_new ht (.tup [.int (((begAt BK.m (BK.tp + i) + min BK.col (rowT BK.m (BK.tp + i)).length : Nat) : Int) + ((BK.shf i : Nat) : Int)), .str (S []), .str (S (BK.newK i))])
    have Sall := S3.trans (hS4.trans (S5.trans S6))
    have hn := hns i hi
    refine ⟨D, _, _, rfl, rfl, S6 _ _ hy, ?_, ?_⟩
    · rw [hyl']
      exact Nat.lt_of_lt_of_le (show _ < 1000000 by omega) (small (Nat.le_refl _))
    have Sk := same_upd Sall hDH (o := .lst (ys ++ [.ref t]))
    have hu4 := S6 _ _ hH3
    have huD : u3 ≠ D := fun z => by
      have h3 := (S3.trans hS4).free hu3
      rw [z] at hH3
      rw [hy] at hH3
      cases hH3
    refine ⟨_, rfl, _, rfl, u3, _, _, _, rfl, rfl, SqT.of (by rw [upd_ne huD]; exact hu4), rfl, _, rfl, small (by omega), _, _, rfl, rfl, Sk, ?_, some (.int (i : Int)), some (.str (S ts[i])), some (.ref u3), ?_⟩
    · have e6 : splV ((l.length, [], List.replicate d 10) :: BK.allS (i + 1)) = splV ((l.length, [], List.replicate d 10) :: BK.allS i) ++ [[nV (BK.splK i).1, .str (S []), .str (S (BK.newK i))]] := by
        rw [BK.allS_succ, ← List.cons_append, splV_snoc']
        rfl
      rw [e6]
      have e7 : nV (BK.splK i).1 = V.int (((begAt BK.m (BK.tp + i) + min BK.col (rowT BK.m (BK.tp + i)).length : Nat) : Int) + ((BK.shf i : Nat) : Int)) := by
        show V.int (((begAt BK.m (BK.tp + i) + min BK.col (rowT BK.m (BK.tp + i)).length + BK.shf i : Nat)) : Int) = _
        congr 1
      rw [e7]
      exact TupsV.snoc (hD2.same S6) (S6 _ _ hy) upd_same
    · have e8 : ((BK.shf (i + 1) : Nat) : Int) = ((BK.shf i : Nat) : Int) + (((BK.newK i).length : Nat) : Int) := by
        show ((BK.shf i + (BK.newK i).length : Nat) : Int) = _
        omega
      rw [e8]
      rfl
  · rintro σ H2 ⟨S3, hT, x, y, z, rfl⟩
    rw [lts] at hT
    refine ⟨_, rfl, _, rfl, _, rfl, D, l, (l.length, [], List.replicate d 10) :: BK.allS ts.length, p, rfl, hT, by omega, ?_, fun s hs => ?_, fun v H' S' hv => q v H' (S3.trans S') ?_⟩
    · unfold Blk.allS
      rw [List.length_cons, List.length_map, List.length_range]
      omega
    · rcases List.mem_cons.mp hs with z | z
      · subst z
        exact ⟨Nat.zero_le _, by show (List.replicate d 10).length ≤ _; rw [List.length_replicate]; omega⟩
      · unfold Blk.allS at z
        obtain ⟨k, hk, rfl⟩ := List.mem_map.mp z
        have := hns k (List.mem_range.mp hk)
        exact ⟨Nat.zero_le _, by show (BK.newK k).length ≤ _; omega⟩
    · have e9 : blkS l p ts W c = (l.length, [], List.replicate d 10) :: BK.allS ts.length := by
        unfold blkS
        rw [eBK, ed']
      rw [e9]
      exact hv.up S3
end

end My

set_option Elab.async false
set_option linter.all false
set_option maxRecDepth 100000
set_option maxHeartbeats 4000000
namespace My
open PySem L2



/-! laid, of a block -/

def layB (l : List Nat) (p : Nat) (ts : List (List Nat)) (W c : Nat) : LayR := if (ts.any fun r => decide (126 ∈ r)) = true then none else bndL l (blkS l p ts W c) p
def sp_laidB : Sp := fun vs H Q _ => ∃ (l : List Nat) (p : Nat) (h B : Addr) (ts : List (List Nat)) (c : Nat), vs = [.str (S l), .int (p : Int), .ref h, .int (c : Int)] ∧ H h = some (.tup [.str (S cBlock), .ref B]) ∧ H B = some (.lst (txtsV ts)) ∧ l.length ≤ 600 ∧ p ≤ l.length ∧ 1 ≤ ts.length ∧ ts.length ≤ 700 ∧ (∀ t ∈ ts, t.length ≤ 600) ∧ 1 ≤ c ∧ c ≤ 999 ∧ ∀ v H' W, IsW ts W → Same H H' → LayV H H' v (layB l p ts W c) → Q v H'
theorem isW_has {ts : List (List Nat)} (h : 1 ≤ ts.length) : ∃ W, IsW ts W := by
  induction ts with
  | nil => cases h
  | cons t ts ih =>
    cases ts with
    | nil => exact ⟨t.length, ⟨t, List.mem_cons_self, rfl⟩, fun t' h' => by rw [List.mem_singleton] at h'; rw [h']; exact Nat.le_refl _⟩
    | cons t2 ts =>
      obtain ⟨W, ⟨u, hu, e⟩, g⟩ := ih (by simp)
      by_cases c : t.length ≤ W
      · refine ⟨W, ⟨u, List.mem_cons_of_mem _ hu, e⟩, fun t' h' => ?_⟩
        rcases List.mem_cons.mp h' with z | z
        · rw [z]; exact c
        · exact g t' z
      · refine ⟨t.length, ⟨t, List.mem_cons_self, rfl⟩, fun t' h' => ?_⟩
        rcases List.mem_cons.mp h' with z | z
        · rw [z]; exact Nat.le_refl _
        · have := g t' z; omega
theorem comp_has {K : PySem.W.Frag} {a D : Addr} {ts : List (List Nat)} {ix : List (Option Nat)} {σ : St} {H : Hp} {Q : VK} {te : TE} (x : Nat) (hσ : around ix σ = [none]) (ha : SqL K H a (txtsV ts)) (hD : H D = none) (hn : ts.length ≤ 10000)
    (he : ∀ (r : List Nat) (H' : Hp) (k : VK), r ∈ ts → k (.bl (decide (x ∈ r))) H' → te [some (.str (S r))] H' k)
    (hd : ∀ H', Same H H' → H' D = some (.lst ((ts.map fun r => decide (x ∈ r)).map V.bl)) → Q (.ref D) H') : CompW (Itl K a) D (around ix σ) (upd H D (.lst [])) (gName 0) tYes te Q := by
  have hlen : (txtsV ts).length = ts.length := by unfold txtsV; rw [List.length_map]
  refine comp_list (xs := txtsV ts) (fun i σ H' => (∃ x : Option V, σ = [x]) ∧ Same H H' ∧ H' D = some (.lst (((ts.take i).map fun r => decide (x ∈ r)).map V.bl))) ⟨⟨none, hσ⟩, same_new hD _, upd_same⟩ (fun i σ H' _ h => h.2.1.seq ha) ?_ ?_
  · rintro i v σ H' hv ⟨⟨x, rfl⟩, SS, hD'⟩
    have hi : i < ts.length := by
      have := (List.getElem?_eq_some_iff.mp hv).1
      rwa [hlen] at this
    unfold txtsV at hv
    rw [List.getElem?_map, List.getElem?_eq_getElem hi] at hv
    cases hv
    refine yes (he _ H' _ (List.getElem_mem hi) ⟨_, hD', ?_, ⟨_, rfl⟩, same_upd SS hD, ?_⟩)
    · rw [List.length_map, List.length_map, List.length_take]
      exact Nat.lt_of_lt_of_le (show _ < 1000000 by omega) (small (Nat.le_refl _))
    · rw [upd_same, List.take_succ, List.getElem?_eq_getElem hi, List.map_append, List.map_append]
      rfl
  · rintro σ H' ⟨_, SS, hD'⟩
    rw [hlen, List.take_length] at hD'
    exact hd H' SS hD'
section
variable {P : Program} {w : World} {K : PySem.W.Frag} {mg : Str → Option Value} {base : Heap} {f : Addr} {fd : FuncData}
theorem sc_laid : FnScope ["text", "place", "held", "count", "texts"] ["text", "place", "held", "count"] (defScope s_laid) := ⟨rfl, rfl, rfl, by decide +kernel, rfl, by decide +kernel, by decide +kernel⟩
theorem ok_laidB {dV : Value} {sp1 sp2 : Sp} (F : FunD K "laid" "laid" s_laid dV f fd) (O_laid_block : Own P w K mg base CX0 8 "laid_block" ["text", "place", "texts", "count"] sp_lblk) (O_laid_rows : Own P w K mg base CX0 8 "laid_rows" ["text", "place", "signs", "count"] sp1) (O_typed_in : Own P w K mg base CX0 8 "typed_in" ["text", "place", "typed", "count"] sp2) (m_any : mg "any" = none) : FnOk P w K mg base CX0 20 f fd ["text", "place", "held", "count"] sp_laidB := by
  refine F.ok sc_laid (fun vs H Q E h => ?_) (fun cdv A outer s H vs Q E hr h => ?_)
  · obtain ⟨l, p, h, B, ts, c, rfl, _⟩ := h
    rfl
  obtain ⟨l, p, h, B, ts, c, rfl, hh, hB, hl, hp, ht1, ht2, hts, hc1, hc2, q⟩ := h
  refine ⟨_, (pss_cons (ps_set (i := 4) sc_laid.nd rfl (Or.inl rfl) (pe_ix ix_tup (pv 2) pe_int (fun _ _ => rfl)))
      (pss_cons (ps_if (pt_val (pe_callB (call_anyL (by rfl)) (by rfl) m_any PyProof.Rows.boot_any (pa_cons (pe_comp ["one"] _ [] rfl (cl_none ["one"] (by decide +kernel) rfl (by decide +kernel)) (pi_list (pv 4)) (fun _ _ _ _ => pg_name (i := 0) (nd1 _) rfl (Or.inl rfl)) (fun _ _ _ _ => pif_nil) (fun _ _ _ _ => (pe_cmpR op_in1 pe_str (pv 0) rfl))) pa_nil))) (pss_one (ps_ret pe_non)) pss_nil)
      (pss_cons (ps_if (pt_cmpR op_eq (pe_ix ix_tup (pv 2) pe_int (fun _ _ => rfl)) pe_str (nomark _)) (pss_one (ps_ret (pe_own O_laid_block hr (by rfl) pass0 (pa_cons (pv 0) (pa_cons (pv 1) (pa_cons (pv 4) (pa_cons (pv 3) pa_nil))))))) pss_nil)
      (pss_cons (ps_if (pt_cmpR op_eq (pe_ix ix_tup (pv 2) pe_int (fun _ _ => rfl)) pe_str (nomark _)) (pss_one (ps_ret (pe_own O_laid_rows hr (by rfl) pass0 (pa_cons (pv 0) (pa_cons (pv 1) (pa_cons (pe_ix ix_list (pv 4) pe_int (fun _ _ => rfl)) (pa_cons (pv 3) pa_nil))))))) pss_nil)
      (pss_one (ps_ret (pe_own O_typed_in hr (by rfl) pass0 (pa_cons (pv 0) (pa_cons (pv 1) (pa_cons (pe_ix ix_list (pv 4) pe_int (fun _ _ => rfl)) (pa_cons (pv 3) pa_nil))))))))))), ?_⟩
  refine ⟨_, rfl, h, _, _, _, rfl, rfl, SqT.of hh, rfl, ?_⟩
  refine ⟨_, rfl, B, rfl, ⟨_, SqL.of hB⟩, fun D hD => ?_⟩
  refine comp_has 126 rfl (SqL.of hB) hD (by omega) (fun r H' k hr' hk => ⟨_, rfl, 126, r, rfl, rfl, hk⟩) (fun H1 S1 hD1 => ?_)
  refine ⟨D, ts.map fun r => decide (126 ∈ r), rfl, SqL.of hD1, _, rfl, ?_⟩
  have ea : (ts.map fun r => decide (126 ∈ r)).any id = ts.any fun r => decide (126 ∈ r) := by rw [List.any_map]; rfl
  show if ((ts.map fun r => decide (126 ∈ r)).any id) = true then _ else _
  rw [ea]
  by_cases e : (ts.any fun r => decide (126 ∈ r)) = true
  · obtain ⟨W, hW⟩ := isW_has ht1
    rw [e]
    exact iteT (q .non _ W hW S1 (by unfold layB; rw [if_pos e]; rfl))
  rw [Bool.eq_false_iff.mpr e]
  refine iteF ?_
  have hh1 := S1 _ _ hh
  have hB1 := S1 _ _ hB
  refine ⟨_, rfl, h, _, _, _, rfl, rfl, SqT.of hh1, rfl, rfl, _, rfl, iteDT rfl ?_⟩
  exact ⟨_, rfl, _, rfl, _, rfl, _, rfl, l, p, B, ts, c, rfl, hB1, hl, hp, ht1, ht2, hts, hc1, hc2, fun v H' W hW S' hv => q v H' W hW (S1.trans S') (by unfold layB; rw [if_neg e]; exact hv.up S1)⟩
end
theorem fn_false {P : Program} {w : World} {K : PySem.W.Frag} {mg : Str → Option Value} {base : Heap} {f : Addr} {fd : FuncData} {k : Nat} {ps : List Str} : FnOk P w K mg base CX0 k f fd ps (fun _ _ _ _ => False) := ⟨fun _ _ _ _ h => h.elim, fun _ _ _ _ _ _ _ _ _ _ _ _ _ h => h.elim⟩

end My

set_option Elab.async false
set_option linter.all false
set_option maxRecDepth 100000
set_option maxHeartbeats 4000000
namespace My
open PySem L2



/-! the law's own block laid in -/

theorem TupsV.other {H : Hp} {D R : Addr} {X : List (List V)} {ys zs : List V} (h : TupsV H D X) (hR : H R = some (.lst ys)) (ne : R ≠ D) : TupsV (upd H R (.lst zs)) D X := by
  obtain ⟨as, h1, h2, h3⟩ := h
  refine ⟨as, by rw [upd_ne (Ne.symm ne)]; exact h1, h2, fun i a t e1 e2 => ?_⟩
  have := h3 i a t e1 e2
  rw [upd_ne (fun z => by rw [z, hR] at this; cases this)]
  exact this
theorem beg_ext {l : List Nat} {d r : Nat} (h : r ≤ l.count 10) : begAt (l ++ List.replicate d 10) r = begAt l r := by
  have h1 := preR_take (l := l ++ List.replicate d 10) (r := r) (by rw [count_nls]; omega)
  have h2 := preR_take (l := l) (r := r) h
  rw [splitL_nls, List.take_append_of_le_length (by rw [splitL_len]; omega), h2] at h1
  have h3 := congrArg List.length h1
  have a1 := beg_le (l := l) (i := r) (by omega)
  have a2 := end_le (l := l) (i := r) (by omega)
  have a3 := beg_le (l := l ++ List.replicate d 10) (i := r) (by rw [count_nls]; omega)
  have a4 := end_le (l := l ++ List.replicate d 10) (i := r) (by rw [count_nls]; omega)
  rw [List.length_take, List.length_take] at h3
  omega
theorem flat_glue (ls : List (List Nat)) : ls.flatten.length ≤ (glue ls).length := by
  cases ls with
  | nil => exact Nat.le_refl _
  | cons r rs =>
    have h : ∀ rs : List (List Nat), ((rs.map fun p => 10 :: p).flatten).length = rs.flatten.length + rs.length := fun rs => by
      induction rs with
      | nil => rfl
      | cons a as ih => simp [ih]; omega
    unfold glue
    rw [List.length_append, h]
    simp
def sp_due39 : Sp := fun vs H Q _ => ∃ (l : List Nat) (R B : Addr) (p : Nat) (ts : List (List Nat)) (c : Nat), vs = [.str (S l), .ref R, .int (p : Int), .ref B, .int (c : Int)] ∧ H R = some (.lst (rowsV l)) ∧ H B = some (.lst (txtsV ts)) ∧ l.length ≤ 600 ∧ p ≤ l.length ∧ 1 ≤ ts.length ∧ ts.length ≤ 5 ∧ (∀ t ∈ ts, t.length ≤ 100) ∧ 1 ≤ c ∧ c ≤ 12 ∧ ∀ (u D : Addr) H' W, IsW ts W → Same H H' → H' u = some (.tup [.ref D, .str (S (blkT l p ts W c))]) → TupsV H' D (splV ((blkS l p ts W c).filter chg)) → Q (.ref u) H'
section
variable {P : Program} {w : World} {K : PySem.W.Frag} {mg : Str → Option Value} {base : Heap} {f : Addr} {fd : FuncData}
theorem sc__law_due : FnScope ["_law_text_here", "_law_rows", "_law_place", "_law_texts", "_law_count", "_law_top", "_law_column", "_law_splices_here", "_law_lacking", "_law_width", "_law_start", "_law_k", "_law_row", "_law_at_here", "_law_new"] ["_law_text_here", "_law_rows", "_law_place", "_law_texts", "_law_count"] (defScope s__law_due) := ⟨rfl, rfl, rfl, by decide +kernel, rfl, by decide +kernel, by decide +kernel⟩
theorem ok_due39 (F : Fun K "_law_due" "_law_due" s__law_due f fd) (O__law_at : Own P w K mg base CX0 1 "_law_at" ["_law_rows", "_law_place"] sp_at) (m_len : mg "len" = none) (m_min : mg "min" = none) (m_max : mg "max" = none) (m_list : mg "list" = none) (m_range : mg "range" = none) : FnOk P w K mg base CX0 2 f fd ["_law_text_here", "_law_rows", "_law_place", "_law_texts", "_law_count"] sp_due39 := by
  refine F.ok sc__law_due (fun vs H Q E h => ?_) (fun cdv A outer s H vs Q E hr h => ?_)
  · obtain ⟨l, R, B, p, ts, c, rfl, _⟩ := h
    rfl
  obtain ⟨l, R, B, p, ts, c, rfl, hR, hB, hl, hp, ht1, ht5, hts, hc1, hc2, q⟩ := h
  refine ⟨_, (pss_cons (ps_set (i := 1) sc__law_due.nd rfl (Or.inl rfl) (pe_callTy call_list_of (by rfl) m_list boot_list (pa_cons (pv 1) pa_nil)))
      (pss_cons (ps_asg (pe_own O__law_at hr (by rfl) pass0 (pa_cons (pv 1) (pa_cons (pv 2) pa_nil))) (pg_tup rfl (pgs_cons (pg_name (i := 5) sc__law_due.nd rfl (Or.inl rfl)) (pgs_cons (pg_name (i := 6) sc__law_due.nd rfl (Or.inl rfl)) pgs_nil))))
      (pss_cons (ps_set (i := 7) sc__law_due.nd rfl (Or.inl rfl) (pe_lst pa_nil))
      (pss_cons (ps_set (i := 8) sc__law_due.nd rfl (Or.inl rfl) (pe_op op_sub (pe_op op_add (pv 5) (pe_callB call_len_seq (by rfl) m_len PySem.boot_len (pa_cons (pv 3) pa_nil))) (pe_callB call_len_seq (by rfl) m_len PySem.boot_len (pa_cons (pv 1) pa_nil))))
      (pss_cons (ps_if (pt_cmpR op_gt (pv 8) pe_int (nomark _)) (pss_cons (ps_expr (pe_bm PySem.F.plainAttrs_list PySem.F.slot_list_append PySem.F.type_list_append mt_append (pv 7) (pa_cons (pe_tup (pa_cons (pe_callB call_lenS (by rfl) m_len PySem.boot_len (pa_cons (pv 0) pa_nil)) (pa_cons pe_str (pa_cons (pe_op op_mulZ pe_str (pv 8)) pa_nil)))) pa_nil)))
      (pss_one (ps_set (i := 1) sc__law_due.nd rfl (Or.inl rfl) (pe_op op_cat (pv 1) (pe_op op_rep (pe_lst (pa_cons pe_str pa_nil)) (pv 8)))))) pss_nil)
      (pss_cons (ps_set (i := 9) sc__law_due.nd rfl (Or.inl rfl) (pe_callB (call_maxL (by rfl)) (by rfl) m_max boot_max (pa_cons (pe_comp ["_law_one"] _ [] rfl (cl_none ["_law_one"] (by decide +kernel) rfl (by decide +kernel)) (pi_list (pv 3)) (fun _ _ _ _ => pg_name (i := 0) (nd1 _) rfl (Or.inl rfl)) (fun _ _ _ _ => pif_nil) (fun _ _ _ _ => (pe_callB call_lenS (by rfl) m_len PySem.boot_len (pa_cons (pv 0) pa_nil)))) pa_nil)))
      (pss_cons (ps_set (i := 10) sc__law_due.nd rfl (Or.inl rfl) (pe_op op_sub (pv 2) (pv 6)))
      (pss_cons (ps_for PassesOwn.never rfl (pi_range1 (by rfl) m_range (pa_cons (pe_callB call_len_seq (by rfl) m_len PySem.boot_len (pa_cons (pv 3) pa_nil)) pa_nil)) (pg_name (i := 11) sc__law_due.nd rfl (Or.inl rfl)) (pss_cons (ps_set (i := 12) sc__law_due.nd rfl (Or.inl rfl) (pe_ix ix_list (pv 1) (pe_op op_add (pv 5) (pv 11)) (fun _ _ => rfl)))
      (pss_cons (ps_set (i := 13) sc__law_due.nd rfl (Or.inl rfl) (pe_callB (call_min2 (by rfl)) (by rfl) m_min boot_min (pa_cons (pv 6) (pa_cons (pe_callB call_lenS (by rfl) m_len PySem.boot_len (pa_cons (pv 12) pa_nil)) pa_nil))))
      (pss_cons (ps_set (i := 14) sc__law_due.nd rfl (Or.inl rfl) (pe_op op_adS (pe_op op_mulZ pe_str (pe_op op_sub (pv 6) (pv 13))) (pe_op op_mulZ (pe_op op_adS (pe_ix ix_list (pv 3) (pv 11) (fun _ _ => rfl)) (pe_op op_mulZ pe_str (pe_op op_sub (pv 9) (pe_callB call_lenS (by rfl) m_len PySem.boot_len (pa_cons (pe_ix ix_list (pv 3) (pv 11) (fun _ _ => rfl)) pa_nil))))) (pv 4))))
      (pss_cons (ps_if (pt_cmpR op_ne (pv 14) pe_str (nomark _)) (pss_one (ps_expr (pe_bm PySem.F.plainAttrs_list PySem.F.slot_list_append PySem.F.type_list_append mt_append (pv 7) (pa_cons (pe_tup (pa_cons (pe_op op_add (pv 10) (pv 13)) (pa_cons pe_str (pa_cons (pv 14) pa_nil)))) pa_nil)))) pss_nil)
      (pss_cons (ps_asg (pe_op op_adS (pe_op op_adS (pe_slice sl_str (pv 12) po_none (po_some (pv 13))) (pv 14)) (pe_slice sl_str (pv 12) (po_some (pv 13)) po_none)) (pg_sub (pv 1) (pe_op op_add (pv 5) (pv 11)) set_list))
      (pss_one (ps_set (i := 10) sc__law_due.nd rfl (Or.inl rfl) (pe_op op_add (pe_op op_add (pv 10) (pe_callB call_lenS (by rfl) m_len PySem.boot_len (pa_cons (pe_ix ix_list (pv 1) (pe_op op_add (pv 5) (pv 11)) (fun _ _ => rfl)) pa_nil))) pe_int)))))))))
      (pss_one (ps_ret (pe_tup (pa_cons (pv 7) (pa_cons (pe_bm PySem.F.plainAttrs_str PySem.F.slot_str_join PySem.F.type_str_join mt_joinN pe_str (pa_cons (pv 1) pa_nil)) pa_nil))))))))))))), ?_⟩
  have hrn := rno_le l hp
  have hcl := count_le l
  have hrb : rb l p ≤ p := (row_is hp).1
  have lts : (txtsV ts).length = ts.length := by unfold txtsV; rw [List.length_map]
  have lrs : (rowsV l).length = l.count 10 + 1 := by unfold rowsV; rw [List.length_map, splitL_len]
  refine ⟨_, rfl, R, _, rfl, .inl (SqL.of hR), fun R2 hR2 => ?_⟩
  have S1 := same_new hR2 (.lst (rowsV l))
  have hRv : upd H R2 (.lst (rowsV l)) R2 = some (.lst (rowsV l)) := upd_same
  generalize upd H R2 (.lst (rowsV l)) = H1 at S1 hRv
  refine ⟨_, rfl, _, rfl, R2, l, p, rfl, hRv, by omega, hp, fun t H2 S2 ht => ?_⟩
  refine ⟨t, _, rfl, SqT.of ht, rfl, _, _, rfl, _, _, rfl, rfl, ?_⟩
  refine ⟨Nat.zero_le _, fun D hD => ?_⟩
  have S3 := same_new hD (.lst [])
  have hDv : TupsV (upd H2 D (.lst [])) D (splV []) := TupsV.nil upd_same
  have hDl : upd H2 D (.lst []) D = some (.lst []) := upd_same
  have S13 := S1.trans (S2.trans S3)
  have hDH : H D = none := (S1.trans S2).free hD
  have hRD : R2 ≠ D := fun z => by
    have := S2 _ _ hRv
    rw [z, hD] at this
    cases this
  have hR3 := S3 _ _ (S2 _ _ hRv)
  have hB3 := S13 _ _ hB
  generalize upd H2 D (.lst []) = H3 at S3 hDv hDl S13 hR3 hB3
  refine ⟨_, rfl, _, rfl, B, _, rfl, .inl (SqL.of hB3), _, _, rfl, rfl, _, rfl, R2, _, rfl, .inl (SqL.of hR3), _, _, rfl, rfl, ?_⟩
  show gName _ (V.int (((rno l p : Nat) : Int) + (((txtsV ts).length : Nat) : Int) - (((rowsV l).length : Nat) : Int))) _ _ _
  rw [lts, lrs]
  have hd : ∀ W, blkOf l p ts W c = ⟨l ++ List.replicate (rno l p + ts.length - (l.count 10 + 1)) 10, rno l p, p - rb l p, W, c, ts⟩ := fun W => rfl
  generalize ed' : rno l p + ts.length - (l.count 10 + 1) = d
  generalize el : ((rno l p : Nat) : Int) + ((ts.length : Nat) : Int) - ((l.count 10 + 1 : Nat) : Int) = lk
  have elk : lk.toNat = d := by omega
  have hpos : 0 < lk ↔ 0 < d := by omega
  let m := l ++ List.replicate d 10
  have hm : m = l ++ List.replicate d 10 := rfl
  have hmr : splitL m = splitL l ++ List.replicate d [] := splitL_nls l d
  have hmc : m.count 10 = l.count 10 + d := count_nls l d
  have hml : m.length ≤ 700 := by
    show (l ++ List.replicate d 10).length ≤ _
    rw [List.length_append, List.length_replicate]
    omega
  refine gname_go (seq_at (seq_to (fun σ H' => Same H H' ∧ ∃ R3 : Addr, H R3 = none ∧ R3 ≠ D ∧ H' R3 = some (.lst (rowsV m)) ∧ TupsV H' D (splV (if 0 < d then [(l.length, [], List.replicate d 10)] else [])) ∧ σ = [some (.str (S l)), some (.ref R3), some (.int (p : Int)), some (.ref B), some (.int (c : Int)), some (.int (rno l p : Nat)), some (.int (p - rb l p : Nat)), some (.ref D), some (.int lk), none, none, none, none, none, none]) (fun nx fin => ?_) ?_))
  · refine ⟨_, rfl, _, _, rfl, rfl, _, rfl, ite2 (fun c1 => ?_) (fun c1 => ?_)⟩
    · have c1 : 0 < lk := of_decide_eq_true c1
      have hd0 := hpos.mp c1
      rw [if_pos hd0] at fin
      refine ⟨_, rfl, .inl ⟨rfl, _, SqL.of hDl⟩, _, rfl, l, rfl, small (by omega), _, rfl, [10], lk, rfl, rfl, by omega, by omega, by decide, (by show 3 ≤ sizeLine; decide), fun u hu => ⟨D, _, _, rfl, rfl, same_new hu _ _ _ hDl, ?_, ?_⟩⟩
      · exact Nat.lt_of_lt_of_le (show (0 : Nat) < 1000000 by decide) (small (Nat.le_refl _))
      have S4 := same_new hu (.tup [.int (l.length : Int), .str (Str.ofString ""), .str (S (rep [10] lk.toNat))])
      have hT4 : TupsV (upd (upd H3 u (.tup [.int (l.length : Int), .str (Str.ofString ""), .str (S (rep [10] lk.toNat))])) D (.lst ([] ++ [.ref u]))) D (splV [(l.length, [], List.replicate d 10)]) := by
        rw [elk, rep_one]
        exact TupsV.snoc (hDv.same (same_new hu _)) (same_new hu _ _ _ hDl) upd_same
      have S14 := same_upd (S13.trans S4) hDH (o := .lst ([] ++ [.ref u]))
      have hR4 : upd (upd H3 u (.tup [.int (l.length : Int), .str (Str.ofString ""), .str (S (rep [10] lk.toNat))])) D (.lst ([] ++ [.ref u])) R2 = some (.lst (rowsV l)) := by
        rw [upd_ne hRD]
        exact S4 _ _ hR3
      generalize upd (upd H3 u (.tup [.int (l.length : Int), .str (Str.ofString ""), .str (S (rep [10] lk.toNat))])) D (.lst ([] ++ [.ref u])) = H4 at hT4 S14 hR4
      refine ⟨_, rfl, (by show 1 ≤ sizeLine; decide), fun e he => ⟨_, rfl, e, lk, _, rfl, rfl, upd_same, by omega, by omega, ?_, fun g hg => ?_⟩⟩
      · exact Nat.le_trans (show _ ≤ 1000000 by show 1 * lk.toNat ≤ _; omega) (small (Nat.le_refl _))
      have S5 := (same_new he (.lst [.str (Str.ofString "")])).trans (same_new hg (.lst (List.replicate lk.toNat [V.str (Str.ofString "")]).flatten))
      have hR5 := S5 _ _ hR4
      have eR : rowsV l ++ (List.replicate lk.toNat [V.str (S [])]).flatten = rowsV m := by
        unfold rowsV
        rw [hmr, List.map_append, elk]
        congr 1
        rw [List.map_replicate]
        exact List.flatten_replicate_singleton
      refine ⟨R2, g, _, _, rfl, rfl, hR5, upd_same, ?_, fun R3 hR3' => ?_⟩
      · rw [List.flatten_replicate_singleton, List.length_replicate, lrs]
        exact Nat.le_trans (show _ ≤ 1000000 by omega) (small (Nat.le_refl _))
      have S6 := same_new hR3' (.lst (rowsV l ++ (List.replicate lk.toNat [V.str (Str.ofString "")]).flatten))
      refine fin _ _ ⟨S14.trans (S5.trans S6), R3, (S14.trans S5).free hR3', fun z => ?_, ?_, (hT4.same S5).same S6, rfl⟩
      · obtain ⟨xs, hx, _⟩ := hT4.mem
        have := S5 _ _ hx
        rw [← z, hR3'] at this
        cases this
      · rw [upd_same]
        exact congrArg (fun z => some (HO.lst z)) eR
    · have c1 : ¬ 0 < lk := of_decide_eq_false (Bool.eq_false_iff.mpr c1)
      have hd0 : d = 0 := by omega
      have hd1 : ¬ 0 < d := by omega
      rw [if_neg hd1] at fin
      refine fin _ _ ⟨S13, R2, hR2, hRD, ?_, hDv, rfl⟩
      rw [hR3, hm, hd0]
      show _ = some (HO.lst (rowsV (l ++ [])))
      rw [List.append_nil]
  rintro σ H4 ⟨S4, R3, hR3n, hR3D, hR4, hT4, rfl⟩
  have hB4 := S4 _ _ hB
  refine ⟨_, rfl, B, rfl, ⟨_, SqL.of hB4⟩, fun D0 hD0 => ?_⟩
  refine comp_len rfl (SqL.of hB4) hD0 (by omega) (fun r H' k hr' hk => ⟨_, rfl, r, rfl, small (by have := hts r hr'; omega), hk⟩) (fun H5 S5 hD5 => ?_)
  refine ⟨D0, _, rfl, SqL.of hD5, by rw [List.length_map]; omega, fun mx hm1 hm2 => ?_⟩
  obtain ⟨W, rfl, hW⟩ := isW_of hm1 hm2
  have hW1 : W ≤ 100 := by obtain ⟨⟨t, h1, rfl⟩, _⟩ := hW; exact hts t h1
  have q := fun u D H' => q u D H' W hW
  have hbr := blk_rows l p ts W c
  have eT : blkT l p ts W c = glue ((blkOf l p ts W c).rowsK ts.length) := rfl
  have eF := blk_filter l p ts W c
  rw [ed'] at eF
  generalize eBK : blkOf l p ts W c = BK at hbr eT eF
  have e0 : BK.m = m := by rw [← eBK, hd W, ed']
  have e1 : BK.tp = rno l p := by rw [← eBK]; rfl
  have e2 : BK.col = p - rb l p := by rw [← eBK]; rfl
  have e3 : BK.W = W := by rw [← eBK]; rfl
  have e4 : BK.c = c := by rw [← eBK]; rfl
  have e5 : BK.ts = ts := by rw [← eBK]; rfl
  rw [← e0] at hR4 hmr hmc hml
  have hcol : BK.col ≤ 600 := by omega
  have est : (p : Int) - ((p - rb l p : Nat) : Int) = ((begAt BK.m (BK.tp + 0) + BK.shf 0 : Nat) : Int) := by
    show _ = ((begAt BK.m (BK.tp + 0) + 0 : Nat) : Int)
    have : begAt BK.m (BK.tp + 0) = rb l p := by
      rw [e0, e1, hm]
      unfold rb
      exact beg_ext hrn
    omega
  have hns : ∀ k, k < ts.length → (BK.newK k).length ≤ 1900 := fun k hk => by
    have h1 : BK.newK k = List.replicate (BK.col - min BK.col (rowT BK.m (BK.tp + k)).length) 32 ++ rep (ljL (BK.ts.getD k []) BK.W) BK.c := rfl
    rw [h1, List.length_append, List.length_replicate, rep_len, ljL_len]
    have h2 : (BK.ts.getD k []).length ≤ 100 := by
      rw [e5, List.getD_eq_getElem?_getD, List.getElem?_eq_getElem hk]
      exact hts _ (List.getElem_mem hk)
    have h3 : max (BK.ts.getD k []).length BK.W ≤ 100 := by omega
    have h4 := Nat.mul_le_mul h3 (show BK.c ≤ 12 by omega)
    omega
  refine ⟨_, rfl, _, rfl, _, _, rfl, rfl, ?_⟩
  show gName _ (V.int ((p : Int) - ((p - rb l p : Nat) : Int))) _ _ _
  rw [est]
  refine ⟨_, rfl, B, _, rfl, .inl (SqL.of (S5 _ _ hB4)), (((txtsV ts).length : Nat) : Int), rfl, by omega, by rw [lts]; omega, ?_⟩
  rw [lts]
  have hR5 := S5 _ _ hR4
  have hT5 := hT4.same S5
  have S45 := S4.trans S5
  refine for_range (fun i σ H' => Same H H' ∧ TupsV H' D (splV ((if 0 < d then [(l.length, [], List.replicate d 10)] else []) ++ (BK.allS i).filter chg)) ∧ H' R3 = some (.lst ((BK.rowsK i).map fun r => V.str (S r))) ∧ ∃ x y z x2 : Option V, σ = [some (.str (S l)), some (.ref R3), some (.int (p : Int)), some (.ref B), some (.int (c : Int)), some (.int (rno l p : Nat)), some (.int (p - rb l p : Nat)), some (.ref D), some (.int lk), some (.int (W : Int)), some (.int ((begAt BK.m (BK.tp + i) + BK.shf i : Nat) : Int)), x, y, z, x2]) ⟨S45, ?_, ?_, none, none, none, none, rfl⟩ ?_ ?_
  · show TupsV H5 D (splV (_ ++ []))
    rw [List.append_nil]
    exact hT5
  · exact hR5
  · rintro i σ H6 hi ⟨S6, hT6, hR6, x, y, z, x2, rfl⟩
    have hi : i < ts.length := by
      have : i < ((ts.length : Nat) : Int).toNat := hi
      omega
    rw [Int.zero_add]
    have hri : BK.tp + i ≤ BK.m.count 10 := by omega
    have hrow := BK.rowsK_at (k := i) hri
    generalize err : rowT BK.m (BK.tp + i) = rr at hrow
    have hrrl : rr.length ≤ 700 := by
      rw [← err, rowT_len hri]
      have := end_le (l := BK.m) (i := BK.tp + i) (by omega)
      omega
    have hat : atI ((BK.rowsK i).map fun r => V.str (S r)) ((BK.tp + i : Nat) : Int) = some (.str (S rr)) := atI_nat (by rw [List.getElem?_map, hrow]; rfl)
    have etk : ((BK.tp + i : Nat) : Int) = ((rno l p : Nat) : Int) + (i : Int) := by omega
    have hB6 := S6 _ _ hB
    have htat : atI (txtsV ts) (i : Int) = some (.str (S ts[i])) := atI_nat (by unfold txtsV; rw [List.getElem?_map, List.getElem?_eq_getElem hi]; rfl)
    have hti := hts _ (List.getElem_mem hi)
    have htW : ts[i].length ≤ W := hW.2 _ (List.getElem_mem hi)
    have eg : BK.ts.getD i [] = ts[i] := by rw [e5, List.getD_eq_getElem?_getD, List.getElem?_eq_getElem hi]; rfl
    rw [etk] at hat
    refine ⟨_, rfl, _, rfl, _, rfl, _, _, rfl, rfl, R3, _, _, _, rfl, rfl, SqL.of hR6, hat, ?_⟩
    refine ⟨_, rfl, _, rfl, rr, rfl, small (by omega), _, _, rfl, ?_⟩
    have emin : (if (rr.length : Int) < ((p - rb l p : Nat) : Int) then (rr.length : Int) else ((p - rb l p : Nat) : Int)) = ((min BK.col rr.length : Nat) : Int) := by split <;> omega
    show gName _ (V.int (if (rr.length : Int) < ((p - rb l p : Nat) : Int) then (rr.length : Int) else ((p - rb l p : Nat) : Int))) _ _ _
    rw [emin]
    have ec : ((p - rb l p : Nat) : Int) - ((min BK.col rr.length : Nat) : Int) = ((BK.col - min BK.col rr.length : Nat) : Int) := by omega
    have ew : (W : Int) - (ts[i].length : Int) = ((W - ts[i].length : Nat) : Int) := by omega
    have hlj : rep [32] ((W : Int) - (ts[i].length : Int)).toNat = List.replicate (W - ts[i].length) 32 := by rw [ew, rep_one]; rfl
    have hnw : rep [32] (((p - rb l p : Nat) : Int) - ((min BK.col rr.length : Nat) : Int)).toNat ++ rep (ts[i] ++ rep [32] ((W : Int) - (ts[i].length : Int)).toNat) (c : Int).toNat = BK.newK i := by
      rw [hlj, ec, rep_one]
      unfold Blk.newK newR
      rw [err, eg, e3, e4]
      rfl
    have hnl := hns i hi
    have hljl : (ts[i] ++ rep [32] ((W : Int) - (ts[i].length : Int)).toNat).length = W := by
      rw [hlj, List.length_append, List.length_replicate]
      omega
    refine ⟨_, rfl, _, rfl, _, _, rfl, rfl, [32], _, rfl, rfl, by omega, by omega, by decide, _, rfl, _, rfl, B, _, _, _, rfl, rfl, SqL.of hB6, htat, _, rfl, _, rfl, _, rfl, B, _, _, _, rfl, rfl, SqL.of hB6, htat, ts[i], rfl, small (by omega), _, _, rfl, rfl, [32], _, rfl, rfl, by omega, by omega, by decide, ts[i], _, rfl, rfl, ?_, _, rfl, _, (c : Int), rfl, rfl, by omega, by omega, ?_, _, _, rfl, rfl, ?_, ?_⟩
    · exact Nat.le_trans (show _ ≤ 1000000 by rw [← List.length_append, hljl]; omega) (small (Nat.le_refl _))
    · rw [hljl]
      omega
    · exact Nat.le_trans (show _ ≤ 1000000 by rw [← List.length_append, hnw]; omega) (small (Nat.le_refl _))
    show gName _ (V.str (S (rep [32] (((p - rb l p : Nat) : Int) - ((min BK.col rr.length : Nat) : Int)).toNat ++ rep (ts[i] ++ rep [32] ((W : Int) - (ts[i].length : Int)).toNat) (c : Int).toNat))) _ _ _
    rw [hnw]
    obtain ⟨ys, hy, hyl, _⟩ := hT6.mem
    have hyl' : ys.length ≤ 10 := by
      rw [hyl]
      unfold splV
      rw [List.length_map, List.length_append]
      have h1 := List.length_filter_le chg (BK.allS i)
      have h2 : (BK.allS i).length = i := by unfold Blk.allS; rw [List.length_map, List.length_range]
      split
      · show 1 + _ ≤ 10
        omega
      · show 0 + _ ≤ 10
        omega
    refine gname_go (seq_at (seq_to (fun σ H' => Same H H' ∧ TupsV H' D (splV ((if 0 < d then [(l.length, [], List.replicate d 10)] else []) ++ (BK.allS (i + 1)).filter chg)) ∧ H' R3 = some (.lst ((BK.rowsK i).map fun r => V.str (S r))) ∧ σ = [some (.str (S l)), some (.ref R3), some (.int (p : Int)), some (.ref B), some (.int (c : Int)), some (.int (rno l p : Nat)), some (.int (p - rb l p : Nat)), some (.ref D), some (.int lk), some (.int (W : Int)), some (.int ((begAt BK.m (BK.tp + i) + BK.shf i : Nat) : Int)), some (.int (i : Int)), some (.str (S rr)), some (.int ((min BK.col rr.length : Nat) : Int)), some (.str (S (BK.newK i)))]) (fun nx fin => ?_) ?_))
    · rw [BK.allS_succ, List.filter_append, chg_one] at fin
      refine ⟨_, rfl, rfl, _, rfl, ?_⟩
      by_cases en : ([] : List Nat) = BK.newK i
      · rw [if_pos (show (BK.splK i).2.1 = (BK.splK i).2.2 from en), List.append_nil] at fin
        exact iteNS (by rw [← en]; rfl) (fin _ _ ⟨S6, hT6, hR6, rfl⟩)
      · rw [if_neg (show ¬ (BK.splK i).2.1 = (BK.splK i).2.2 from en)] at fin
        refine iteNF (fun z => en (S_inj (V.str.inj z)).symm) ⟨_, rfl, .inl ⟨rfl, _, SqL.of hy⟩, _, rfl, _, rfl, _, _, rfl, rfl, _, rfl, (by show 3 ≤ sizeLine; decide), fun t ht => ?_⟩
        have S7 := same_new ht (.tup [.int (((begAt BK.m (BK.tp + i) + BK.shf i : Nat) : Int) + ((min BK.col rr.length : Nat) : Int)), .str (Str.ofString ""), .str (S (BK.newK i))])
        refine ⟨D, _, _, rfl, rfl, S7 _ _ hy, ?_, fin _ _ ⟨same_upd (S6.trans S7) hDH, ?_, ?_, rfl⟩⟩
        · exact Nat.lt_of_lt_of_le (show _ < 1000000 by omega) (small (Nat.le_refl _))
        · rw [← List.append_assoc, splV_snoc']
          have e7 : nV (BK.splK i).1 = V.int (((begAt BK.m (BK.tp + i) + BK.shf i : Nat) : Int) + ((min BK.col rr.length : Nat) : Int)) := by
            show V.int ((begAt BK.m (BK.tp + i) + min BK.col (rowT BK.m (BK.tp + i)).length + BK.shf i : Nat) : Int) = _
            rw [err]
            congr 1
            omega
          rw [e7]
          exact TupsV.snoc (hT6.same S7) (S7 _ _ hy) upd_same
        · rw [upd_ne hR3D]
          exact S7 _ _ hR6
    rintro σ H7 ⟨S7, hT7, hR7, rfl⟩
    have c1 := cutL_le rr none (some ((min BK.col rr.length : Nat) : Int))
    have c2 := cutL_le rr (some ((min BK.col rr.length : Nat) : Int)) none
    have ep : cutL rr none (some ((min BK.col rr.length : Nat) : Int)) ++ BK.newK i ++ cutL rr (some ((min BK.col rr.length : Nat) : Int)) none = putR BK.col rr (BK.newK i) := by
      unfold putR
      rw [cutL_m, cutL_n]
    refine ⟨_, rfl, _, rfl, _, rfl, rr, rfl, small (by omega), _, rfl, _, _, rfl, rfl, ?_, _, rfl, _, rfl, _, rfl, rr, rfl, small (by omega), _, _, rfl, rfl, ?_, ?_⟩
    · rw [← List.length_append]
      exact Nat.le_trans (show _ ≤ 1000000 by rw [List.length_append]; omega) (small (Nat.le_refl _))
    · exact Nat.le_trans (show _ ≤ 1000000 by rw [List.length_append]; omega) (small (Nat.le_refl _))
    have hixl : BK.tp + i < ((BK.rowsK i).map fun r => V.str (S r)).length := by rw [List.length_map, BK.rowsK_len]; omega
    refine ⟨_, rfl, _, rfl, _, rfl, _, _, rfl, rfl, R3, _, _, BK.tp + i, rfl, rfl, hR7, ?_, ?_⟩
    · show ixN _ (((rno l p : Nat) : Int) + (i : Int)) = _
      rw [← etk]
      unfold ixN
      rw [if_pos (by omega), if_pos (by omega)]
      rfl
    have hR8 : upd H7 R3 (.lst (((BK.rowsK i).map fun r => V.str (S r)).set (BK.tp + i) (.str (S (cutL rr none (some ((min BK.col rr.length : Nat) : Int)) ++ BK.newK i ++ cutL rr (some ((min BK.col rr.length : Nat) : Int)) none))))) R3 = some (.lst ((BK.rowsK (i + 1)).map fun r => V.str (S r))) := by
      rw [upd_same, ep]
      show _ = some (HO.lst (((BK.rowsK i).set (BK.tp + i) (putR BK.col (rowT BK.m (BK.tp + i)) (BK.newK i))).map fun r => V.str (S r)))
      rw [err, List.map_set]
    have hat2 : atI ((BK.rowsK (i + 1)).map fun r => V.str (S r)) (((rno l p : Nat) : Int) + (i : Int)) = some (.str (S (putR BK.col rr (BK.newK i)))) := by
      rw [← etk]
      refine atI_nat ?_
      rw [List.getElem?_map]
      show Option.map _ (((BK.rowsK i).set (BK.tp + i) (putR BK.col (rowT BK.m (BK.tp + i)) (BK.newK i)))[BK.tp + i]?) = _
      rw [List.length_map] at hixl
      rw [List.getElem?_set_self hixl, err]
      rfl
    have hpl := putR_len BK.col rr (BK.newK i)
    refine ⟨_, rfl, _, rfl, _, rfl, _, rfl, _, _, rfl, rfl, R3, _, _, _, rfl, rfl, SqL.of hR8, hat2, putR BK.col rr (BK.newK i), rfl, small (by omega), _, _, rfl, rfl, _, _, rfl, rfl, same_upd S7 hR3n, TupsV.other hT7 hR7 hR3D, hR8, some (.int (i : Int)), some (.str (S rr)), some (.int ((min BK.col rr.length : Nat) : Int)), some (.str (S (BK.newK i))), ?_⟩
    have e8 : ((begAt BK.m (BK.tp + (i + 1)) + BK.shf (i + 1) : Nat) : Int) = ((begAt BK.m (BK.tp + i) + BK.shf i : Nat) : Int) + (((putR BK.col rr (BK.newK i)).length : Nat) : Int) + 1 := by
      have h1 := beg_le (l := BK.m) (i := BK.tp + i) (by omega)
      have h2 := rowT_len hri
      rw [err] at h2
      show ((endAt BK.m (BK.tp + i) + 1 + (BK.shf i + (BK.newK i).length) : Nat) : Int) = _
      omega
    rw [e8]
    rfl
  · rintro σ H6 ⟨S6, hT6, hR6, x, y, z, x2, rfl⟩
    have ets : ((ts.length : Nat) : Int).toNat = ts.length := by omega
    have hT6 : TupsV H6 D (splV ((if 0 < d then [(l.length, [], List.replicate d 10)] else []) ++ (BK.allS ts.length).filter chg)) := by
      rw [← ets]
      exact hT6
    have hR6 : H6 R3 = some (.lst ((BK.rowsK ts.length).map fun r => V.str (S r))) := by
      rw [hR6]
      show some (HO.lst (List.map _ (BK.rowsK ((ts.length : Nat) : Int).toNat))) = _
      rw [ets]
    rw [← eF] at hT6
    refine ⟨_, rfl, rfl, _, rfl, R3, BK.rowsK ts.length, rfl, rfl, SqL.of hR6, ?_, (by show 2 ≤ sizeLine; decide), fun u hu => q u D _ (S6.trans (same_new hu _)) ?_ (hT6.same (same_new hu _))⟩
    · have h1 := flat_glue (BK.rowsK ts.length)
      have h2 := BK.glue_len ts.length hbr
      have h3 := BK.rowsK_len ts.length
      have h4 : ∀ n, n ≤ ts.length → BK.shf n ≤ 1900 * n := fun n => by
        induction n with
        | zero => intro _; exact Nat.zero_le _
        | succ n ih =>
          intro hn
          have := ih (by omega)
          have := hns n (by omega)
          show BK.shf n + (BK.newK n).length ≤ _
          omega
      have := h4 _ (Nat.le_refl _)
      omega
    · rw [upd_same, eT]
end

end My

set_option Elab.async false
set_option linter.all false
set_option maxRecDepth 100000
set_option maxHeartbeats 4000000
namespace My
open PySem L2




theorem walk_len {sps : List Spl} : ∀ {x y : List Nat}, (∀ s ∈ sps, s.2.1 = []) → walkS x sps = some y → x.length ≤ y.length := by
  induction sps with
  | nil => intro x y _ h; cases h; exact Nat.le_refl _
  | cons s sps ih =>
    intro x y ho h
    unfold walkS at h
    split at h
    · rename_i c
      have e := ho s List.mem_cons_self
      have := ih (fun t ht => ho t (List.mem_cons_of_mem _ ht)) h
      rw [e, List.length_append, List.length_append, List.length_take, List.length_drop] at this
      have c1 := c.1
      simp at this
      omega
    · cases h
theorem layV_same {H0 H H' : Hp} {v : V} {r : LayR} (h : LayV H0 H v r) (s : Same H H') : LayV H0 H' v r := by
  cases r with
  | none => exact h
  | some r =>
    obtain ⟨u2, D2, h1, h2, h3, h4⟩ := h
    exact ⟨u2, D2, h1, s _ _ h2, h3.same s, h4⟩
theorem txts_flat (ts : List (List Nat)) : (txtsV ts).all flatV = true ∧ eqs (txtsV ts) (txtsV ts) = true := by
  induction ts with
  | nil => exact ⟨rfl, rfl⟩
  | cons r ts ih =>
    obtain ⟨h1, h2⟩ := ih
    refine ⟨?_, ?_⟩
    · show (flatV (.str (S r)) && (txtsV ts).all flatV) = true
      rw [h1]
      rfl
    · show (eqV (.str (S r)) (.str (S r)) && eqs (txtsV ts) (txtsV ts)) = true
      rw [h2, eqV_self (x := .str (S r)) rfl]
      rfl
theorem blkT_le {l : List Nat} {p W c : Nat} {ts : List (List Nat)} (hl : l.length ≤ 600) (hp : p ≤ l.length) (h5 : ts.length ≤ 5) (hts : ∀ t ∈ ts, t.length ≤ 100) (hW : W ≤ 100) (hc : c ≤ 12) : (blkT l p ts W c).length ≤ 100000 := by
  unfold blkT
  rw [(blkOf l p ts W c).glue_len _ (blk_rows l p ts W c)]
  have hrn := rno_le l hp
  have e : (blkOf l p ts W c).m.length = l.length + (rno l p + ts.length - (l.count 10 + 1)) := by
    show (l ++ List.replicate _ 10).length = _
    rw [List.length_append, List.length_replicate]
  have hns : ∀ k, k < ts.length → ((blkOf l p ts W c).newK k).length ≤ 1900 := fun k hk => by
    have h1 : (blkOf l p ts W c).newK k = List.replicate (p - rb l p - min (p - rb l p) (rowT (blkOf l p ts W c).m (rno l p + k)).length) 32 ++ rep (ljL (ts.getD k []) W) c := rfl
    rw [h1, List.length_append, List.length_replicate, rep_len, ljL_len]
    have h2 : (ts.getD k []).length ≤ 100 := by
      rw [List.getD_eq_getElem?_getD, List.getElem?_eq_getElem hk]
      exact hts _ (List.getElem_mem hk)
    have h3 : max (ts.getD k []).length W ≤ 100 := by omega
    have h4 := Nat.mul_le_mul h3 hc
    omega
  have h4 : ∀ n, n ≤ ts.length → (blkOf l p ts W c).shf n ≤ 1900 * n := fun n => by
    induction n with
    | zero => intro _; exact Nat.zero_le _
    | succ n ih =>
      intro hn
      have := ih (by omega)
      have := hns n (by omega)
      show (blkOf l p ts W c).shf n + ((blkOf l p ts W c).newK n).length ≤ _
      omega
  have := h4 _ (Nat.le_refl _)
  omega
def sp_walked : Sp := fun vs H Q _ => ∃ (l y : List Nat) (D : Addr) (sps : List Spl), vs = [.str (S l), .ref D] ∧ TupsV H D (splV sps) ∧ (∀ s ∈ sps, s.2.1 = []) ∧ walkS l sps = some y ∧ y.length ≤ 100000 ∧ Q (.str (S y)) H
def sp_lgood : Sp := fun vs H Q _ => ∃ (l : List Nat) (R : Addr) (p : Nat) (n : Int), vs = [.str (S l), .ref R, .int (p : Int), .int n] ∧ H R = some (.lst (rowsV l)) ∧ l.length ≤ 600 ∧ (∀ c ∈ l, c < 128) ∧ p ≤ l.length ∧ ∀ H', Same H H' → Q (.bl true) H'
section
variable {P : Program} {w : World} {K : PySem.W.Frag} {mg : Str → Option Value} {base : Heap} {f : Addr} {fd : FuncData}
theorem sc__law_walked : FnScope ["_law_text_here", "_law_splices_here", "_law_at_here", "_law_out", "_law_new"] ["_law_text_here", "_law_splices_here"] (defScope s__law_walked) := ⟨rfl, rfl, rfl, by decide +kernel, rfl, by decide +kernel, by decide +kernel⟩
theorem ok_walked (F : Fun K "_law_walked" "_law_walked" s__law_walked f fd) (m_len : mg "len" = none) : FnOk P w K mg base CX0 1 f fd ["_law_text_here", "_law_splices_here"] sp_walked := by
  refine F.ok sc__law_walked (fun vs H Q E h => ?_) (fun cdv A outer s H vs Q E hr h => ?_)
  · obtain ⟨l, y, D, sps, rfl, _⟩ := h
    rfl
  obtain ⟨l, y, D, sps, rfl, hD, ho, hw, hy, q⟩ := h
  refine ⟨_, (pss_cons (ps_for PassesOwn.never rfl (pi_list (pv 1)) (pg_tup rfl (pgs_cons (pg_name (i := 2) sc__law_walked.nd rfl (Or.inl rfl)) (pgs_cons (pg_name (i := 3) sc__law_walked.nd rfl (Or.inl rfl)) (pgs_cons (pg_name (i := 4) sc__law_walked.nd rfl (Or.inl rfl)) pgs_nil)))) (pss_cons (ps_if (PW.pt (pw_or (pt_cmpR op_ne (pv 3) pe_str (nomark _)) (pw_or (pt_cmpR op_lt (pv 2) pe_int (nomark _)) (pw_or1 (pt_cmpR op_gt (pv 2) (pe_callB call_lenS (by rfl) m_len PySem.boot_len (pa_cons (pv 0) pa_nil)) (nomark _)))))) (pss_one (ps_ret pe_non)) pss_nil)
      (pss_one (ps_set (i := 0) sc__law_walked.nd rfl (Or.inl rfl) (pe_op op_adS (pe_op op_adS (pe_slice sl_str (pv 0) po_none (po_some (pv 2))) (pv 4)) (pe_slice sl_str (pv 0) (po_some (pv 2)) po_none))))))
      (pss_one (ps_ret (pv 0)))), ?_⟩
  obtain ⟨xs, hx, hxl, hxa⟩ := hD.mem
  have hxl' : xs.length = sps.length := by rw [hxl]; unfold splV; rw [List.length_map]
  refine ⟨_, rfl, D, rfl, ⟨_, SqL.of hx⟩, ?_⟩
  refine for_list (xs := xs) (fun i σ H' => H = H' ∧ ∃ (x : List Nat) (a b c : Option V), walkS x (sps.drop i) = some y ∧ σ = [some (.str (S x)), some (.ref D), a, b, c]) ⟨rfl, l, none, none, none, hw, rfl⟩ (fun i σ H' _ h => by rw [← h.1]; exact SqL.of hx) ?_ ?_
  · rintro i v σ H' hv ⟨rfl, x, a, b, c, hwx, rfl⟩
    obtain ⟨t, tt, rfl, h1, ht⟩ := hxa i v hv
    obtain ⟨s, es, rfl⟩ := splV_at h1
    have hi : i < sps.length := (List.getElem?_eq_some_iff.mp es).1
    have ed : sps.drop i = s :: sps.drop (i + 1) := by
      rw [List.drop_eq_getElem_cons hi]
      rw [List.getElem?_eq_getElem hi] at es
      rw [Option.some.inj es]
    have hso := ho s (List.mem_of_getElem? es)
    have hxy := walk_len (fun u hu => ho u (List.mem_of_mem_drop hu)) hwx
    rw [ed] at hwx
    unfold walkS at hwx
    split at hwx
    case isFalse => cases hwx
    rename_i hc
    rw [hso] at hwx
    have hwx : walkS (x.take s.1 ++ s.2.2 ++ x.drop s.1) (sps.drop (i + 1)) = some y := hwx
    have hnl := walk_len (fun u hu => ho u (List.mem_of_mem_drop hu)) hwx
    rw [List.length_append, List.length_append, List.length_take, List.length_drop] at hnl
    refine ⟨t, _, rfl, SqT.of ht, rfl, _, _, rfl, _, _, rfl, _, _, rfl, rfl, ?_⟩
    refine ⟨_, rfl, rfl, _, rfl, ?_⟩
    refine iteNS (by rw [hso]; rfl) ⟨_, rfl, _, _, rfl, rfl, _, rfl, iteDF (by omega) ⟨_, rfl, _, rfl, x, rfl, small (by omega), _, _, rfl, rfl, _, rfl, iteDF (by have := hc.1; omega) ?_⟩⟩
    have c1 := cutL_le x none (some (s.1 : Int))
    have c2 := cutL_le x (some (s.1 : Int)) none
    refine ⟨_, rfl, _, rfl, _, rfl, x, rfl, small (by omega), _, rfl, _, s.2.2, rfl, rfl, ?_, _, rfl, _, rfl, _, rfl, x, rfl, small (by omega), _, _, rfl, rfl, ?_, rfl, x.take s.1 ++ s.2.2 ++ x.drop s.1, some (nV s.1), some (.str (S s.2.1)), some (.str (S s.2.2)), hwx, ?_⟩
    · exact Nat.le_trans (show _ ≤ 1000000 by omega) (small (Nat.le_refl _))
    · exact Nat.le_trans (show _ ≤ 1000000 by rw [List.length_append]; omega) (small (Nat.le_refl _))
    · show [some (V.str (S (cutL x none (some (s.1 : Int)) ++ s.2.2 ++ cutL x (some (s.1 : Int)) none))), _, _, _, _] = _
      rw [cutL_m, cutL_n]
  · rintro σ H' ⟨rfl, x, a, b, c, hwx, rfl⟩
    rw [hxl', List.drop_length] at hwx
    cases hwx
    exact ⟨_, rfl, q⟩
theorem sc__law_good : FnScope ["_law_text_here", "_law_rows", "_law_place", "_law_number", "_law_texts", "_law_handed", "_law_count", "_law_found", "_law_splices_here", "_law_behind"] ["_law_text_here", "_law_rows", "_law_place", "_law_number"] (defScope s__law_good) := ⟨rfl, rfl, rfl, by decide +kernel, rfl, by decide +kernel, by decide +kernel⟩
theorem ok_lgood (F : Fun K "_law_good" "_law_good" s__law_good f fd) (O__law_block : Own P w K mg base CX0 2 "_law_block" ["_law_number"] sp_lblock) (O__law_due : Own P w K mg base CX0 2 "_law_due" ["_law_text_here", "_law_rows", "_law_place", "_law_texts", "_law_count"] sp_due39) (O__law_walked : Own P w K mg base CX0 1 "_law_walked" ["_law_text_here", "_law_splices_here"] sp_walked) (O__law_told : Own P w K mg base CX0 3 "_law_told" ["_law_found", "_law_splices_here", "_law_place"] sp_told3) (O_laid : Own P w K mg base CX0 20 "laid" ["text", "place", "held", "count"] sp_laidB) (O_laid1 : OwnD P w K mg base CX0 20 "laid" ["text", "place", "held", "count"] sp_laidB [.int 1]) (m_len : mg "len" = none) (m_list : mg "list" = none) : FnOk P w K mg base CX0 21 f fd ["_law_text_here", "_law_rows", "_law_place", "_law_number"] sp_lgood := by
  refine F.ok sc__law_good (fun vs H Q E h => ?_) (fun cdv A outer s H vs Q E hr h => ?_)
  · obtain ⟨l, R, p, n, rfl, _⟩ := h
    rfl
  obtain ⟨l, R, p, n, rfl, hR, hl, hasc, hp, q⟩ := h
  refine ⟨_, (pss_cons (ps_set (i := 4) sc__law_good.nd rfl (Or.inl rfl) (pe_own O__law_block hr (by rfl) pass0 (pa_cons (pv 3) pa_nil)))
      (pss_cons (ps_set (i := 5) sc__law_good.nd rfl (Or.inl rfl) (pe_tup (pa_cons pe_str (pa_cons (pe_callTy call_list_of (by rfl) m_list boot_list (pa_cons (pv 4) pa_nil)) pa_nil))))
      (pss_cons (ps_set (i := 6) sc__law_good.nd rfl (Or.inl rfl) (pe_op op_add pe_int (pe_op op_mod (pe_op op_fdiv (pv 3) pe_int) pe_int)))
      (pss_cons (ps_set (i := 7) sc__law_good.nd rfl (Or.inl rfl) (pe_own O_laid hr (by rfl) pass0 (pa_cons (pv 0) (pa_cons (pv 2) (pa_cons (pv 5) (pa_cons (pv 6) pa_nil))))))
      (pss_cons (ps_if (pt_cmpR op_eq (pe_op op_mod (pe_op op_fdiv (pv 3) pe_int) pe_int) pe_int (nomark _)) (pss_cons (ps_set (i := 6) sc__law_good.nd rfl (Or.inl rfl) pe_int)
      (pss_one (ps_set (i := 7) sc__law_good.nd rfl (Or.inl rfl) (pe_ownD O_laid1 hr (by rfl) pass0 (pa_cons (pv 0) (pa_cons (pv 2) (pa_cons (pv 5) pa_nil))))))) pss_nil)
      (pss_cons (ps_if (pt_cmpR (op_neS hr.u1) (pv 5) (pe_tup (pa_cons pe_str (pa_cons (pv 4) pa_nil))) (nomark _)) (pss_one (ps_ret pe_bl)) pss_nil)
      (pss_cons (ps_asg (pe_own O__law_due hr (by rfl) pass0 (pa_cons (pv 0) (pa_cons (pv 1) (pa_cons (pv 2) (pa_cons (pv 4) (pa_cons (pv 6) pa_nil)))))) (pg_tup rfl (pgs_cons (pg_name (i := 8) sc__law_good.nd rfl (Or.inl rfl)) (pgs_cons (pg_name (i := 9) sc__law_good.nd rfl (Or.inl rfl)) pgs_nil))))
      (pss_cons (ps_if (PW.pt (pw_or (pt_cmpR op_in1 pe_str (pe_bm PySem.F.plainAttrs_str PySem.F.slot_str_join PySem.F.type_str_join mt_join pe_str (pa_cons (pv 4) pa_nil)) rfl) (pw_or1 (pt_cmpR op_gt (pe_callB call_lenS (by rfl) m_len PySem.boot_len (pa_cons (pv 9) pa_nil)) pe_int (nomark _))))) (pss_one (ps_ret (pe_cmpR op_isN (pv 7) pe_non (nomark _)))) pss_nil)
      (pss_one (ps_ret (pe_and (pe_own O__law_told hr (by rfl) pass0 (pa_cons (pv 7) (pa_cons (pv 8) (pa_cons (pv 2) pa_nil)))) (pe_one (pe_cmpR op_eq (pe_own O__law_walked hr (by rfl) pass0 (pa_cons (pv 0) (pa_cons (pe_ix ix_tup (pv 7) pe_int (fun _ _ => rfl)) pa_nil))) (pv 9) (nomark _)))))))))))))), ?_⟩
  refine ⟨_, rfl, n, rfl, fun D ts H1 S1 hDn ht1 ht5 hts hD1 => ?_⟩
  have hts' : ∀ t ∈ ts, t.length ≤ 100 := fun t ht => Nat.le_trans (hts t ht).1 (by decide)
  have hts6 : ∀ t ∈ ts, t.length ≤ 600 := fun t ht => Nat.le_trans (hts t ht).1 (by decide)
  refine ⟨_, rfl, D, _, rfl, .inl (SqL.of hD1), fun B2 hB2 => ⟨(by show 2 ≤ sizeLine; decide), fun h hh => ?_⟩⟩
  have S2 := same_new hB2 (.lst (txtsV ts))
  have S3 := same_new hh (.tup [.str (Str.ofString "block"), .ref B2])
  have hB3 : upd (upd H1 B2 (.lst (txtsV ts))) h (.tup [.str (Str.ofString "block"), .ref B2]) B2 = some (.lst (txtsV ts)) := S3 _ _ upd_same
  have hh3 : upd (upd H1 B2 (.lst (txtsV ts))) h (.tup [.str (Str.ofString "block"), .ref B2]) h = some (.tup [.str (S cBlock), .ref B2]) := upd_same
  have S13 := S2.trans S3
  generalize upd (upd H1 B2 (.lst (txtsV ts))) h (.tup [.str (Str.ofString "block"), .ref B2]) = H3 at hB3 hh3 S3 S13
  have hD3 := S13 _ _ hD1
  have z0 : 0 ≤ n / 9 % 4 := Int.emod_nonneg _ (by decide)
  have z1 : n / 9 % 4 < 4 := Int.emod_lt_of_pos _ (by decide)
  obtain ⟨c0, hc0⟩ : ∃ c : Nat, 1 + n / 9 % 4 = (c : Int) := ⟨_, (Int.toNat_of_nonneg (by omega)).symm⟩
  refine ⟨_, rfl, _, _, rfl, rfl, ⟨by decide, by decide⟩, _, _, rfl, rfl, (by show (0 : Int) < 4; decide), _, _, rfl, rfl, ?_⟩
  show gName _ (V.int (1 + n / 9 % 4)) _ _ _
  rw [hc0]
  refine ⟨_, rfl, _, rfl, _, rfl, _, rfl, l, p, h, B2, ts, c0, rfl, hh3, hB3, hl, hp, ht1, by omega, hts6, by omega, by omega, fun v H4 W hW S4 hv => ?_⟩
  refine gname_go (seq_at (seq_to (fun σ H' => ∃ (H0 : Hp) (c W : Nat) (v : V), IsW ts W ∧ Same H3 H0 ∧ Same H0 H' ∧ 1 ≤ c ∧ c ≤ 12 ∧ LayV H0 H' v (layB l p ts W c) ∧ σ = [some (.str (S l)), some (.ref R), some (.int (p : Int)), some (.int n), some (.ref D), some (.ref h), some (.int (c : Int)), some v, none, none]) (fun nx fin => ?_) ?_))
  · refine ⟨_, rfl, _, _, rfl, rfl, ⟨by decide, by decide⟩, _, _, rfl, rfl, (by show (0 : Int) < 3; decide), rfl, _, rfl, ite2 (fun _ => ?_) (fun _ => fin _ _ ⟨H3, c0, W, v, hW, Same.refl _, S4, by omega, by omega, hv, rfl⟩)⟩
    refine ⟨_, rfl, _, rfl, _, rfl, l, p, h, B2, ts, 1, rfl, S4 _ _ hh3, S4 _ _ hB3, hl, hp, ht1, by omega, hts6, by decide, by decide, fun v3 H5 W3 hW3 S5 hv3 => fin _ _ ⟨H4, 1, W3, v3, hW3, S4, S5, by decide, by decide, hv3, rfl⟩⟩
  rintro σ H5 ⟨H0, c, W, v, hW, S30, S05, hc1, hc2, hv, rfl⟩
  have S35 := S30.trans S05
  have SQ : Same H H5 := S1.trans (S13.trans S35)
  refine ⟨_, rfl, _, rfl, (by show 2 ≤ sizeLine; decide), fun u hu => ?_⟩
  have S6 := same_new hu (.tup [.str (Str.ofString "block"), .ref D])
  have hu6 : upd H5 u (.tup [.str (Str.ofString "block"), .ref D]) u = some (.tup [.str (S cBlock), .ref D]) := upd_same
  have hh6 := S6 _ _ (S35 _ _ hh3)
  have hB6 := S6 _ _ (S35 _ _ hB3)
  have hD6 := S6 _ _ (S35 _ _ hD3)
  have SQ6 := SQ.trans S6
  have hv : LayV H0 (upd H5 u (.tup [.str (Str.ofString "block"), .ref D])) v (layB l p ts W c) := layV_same hv S6
  generalize upd H5 u (.tup [.str (Str.ofString "block"), .ref D]) = H6 at S6 hu6 hh6 hB6 hD6 SQ6 hv
  refine ⟨h, u, _, _, rfl, rfl, .inr ⟨SqT.of hh6, SqT.of hu6⟩, rfl, fun j a b ea eb => ?_, _, rfl, iteF ?_⟩
  · match j, ea, eb with
    | 0, ea, eb =>
      cases ea
      cases eb
      exact .inl ⟨rfl, rfl, eqV_self rfl⟩
    | 1, ea, eb =>
      cases ea
      cases eb
      exact .inr ⟨B2, D, txtsV ts, rfl, rfl, .inl ⟨SqL.of hB6, SqL.of hD6⟩, (txts_flat ts).1, (txts_flat ts).2⟩
  refine ⟨_, rfl, _, rfl, _, rfl, _, rfl, _, rfl, l, R, D, p, ts, c, rfl, SQ6 _ _ hR, hD6, hl, hp, ht1, ht5, hts', hc1, hc2, fun t E2 H7 W2 hW2 S7 ht hE2 => ?_⟩
  have ew := hW2.uniq hW
  subst ew
  refine ⟨t, _, rfl, SqT.of ht, rfl, _, _, rfl, _, _, rfl, rfl, ?_⟩
  have SQ7 := SQ6.trans S7
  have hD7 := S7 _ _ hD6
  have hv := layV_same hv S7
  have ret : v = .non → (tRet (tOp (fun x y H Q => y = V.non ∧ Q (.bl (decide (x = .non))) H) (tVar 7) (tC .non))) { nx := fun _ H' => Q V.non H', rt := Q } [some (.str (S l)), some (.ref R), some (.int (p : Int)), some (.int n), some (.ref D), some (.ref h), some (.int (c : Int)), some v, some (.ref E2), some (.str (S (blkT l p ts W2 c)))] H7 := fun e => by
    subst e
    refine ⟨_, rfl, rfl, ?_⟩
    rw [decide_eq_true rfl]
    exact q _ SQ7
  have hfl : ts.flatten.length ≤ 1000 := by
    have h : ∀ us : List (List Nat), (∀ t ∈ us, t.length ≤ 100) → us.flatten.length ≤ 100 * us.length := fun us => by
      induction us with
      | nil => intro _; exact Nat.zero_le _
      | cons u us ih =>
        intro hu
        have h1 := ih (fun t ht => hu t (List.mem_cons_of_mem _ ht))
        have h2 := hu u List.mem_cons_self
        rw [List.flatten_cons, List.length_append, List.length_cons]
        omega
    have := h ts hts'
    omega
  have hany : (ts.any fun r => decide (126 ∈ r)) = true ↔ 126 ∈ ts.flatten := by
    rw [List.any_eq_true, List.mem_flatten]
    exact ⟨fun ⟨r, h1, h2⟩ => ⟨r, h1, of_decide_eq_true h2⟩, fun ⟨r, h1, h2⟩ => ⟨r, h1, decide_eq_true h2⟩⟩
  refine ⟨rfl, _, rfl, D, ts, rfl, rfl, SqL.of hD7, by omega, 126, _, rfl, rfl, _, rfl, ?_⟩
  unfold layB at hv
  by_cases t1 : 126 ∈ ts.flatten
  · rw [if_pos (hany.mpr t1)] at hv
    exact iteDT t1 (iteT (ret hv))
  rw [if_neg (fun z => t1 (hany.mp z))] at hv
  have hTl : (blkT l p ts W2 c).length ≤ 100000 := blkT_le hl hp ht5 hts' (by obtain ⟨⟨t, h1, rfl⟩, _⟩ := hW; exact hts' t h1) hc2
  refine iteDF t1 ⟨_, rfl, _, rfl, small (by omega), _, _, rfl, rfl, _, rfl, ?_⟩
  have hsum := blk_sum l p ts W2 c
  unfold bndL at hv
  by_cases big : (blkT l p ts W2 c).length > 600
  · rw [if_pos (by rw [hsum]; omega)] at hv
    exact iteDT (by omega) (ret hv)
  refine iteDF (by omega) ?_
  rw [if_neg (by rw [hsum]; omega)] at hv
  obtain ⟨w, Dd, rfl, hw, hTd, _⟩ := hv
  have hout : ∀ s ∈ (blkS l p ts W2 c).filter chg, s.2.1 = [] := fun s hs => by
    have h1 := (List.mem_filter.mp hs).1
    unfold blkS at h1
    rcases List.mem_cons.mp h1 with z | z
    · rw [z]
    · unfold Blk.allS at z
      obtain ⟨k, _, rfl⟩ := List.mem_map.mp z
      rfl
  refine ⟨_, rfl, _, rfl, _, rfl, w, Dd, E2, _, p, rfl, hw, hTd, hE2, _, rfl, iteT ?_⟩
  refine ⟨_, rfl, _, rfl, w, _, _, _, rfl, rfl, SqT.of hw, rfl, l, _, Dd, _, rfl, hTd, hout, blk_walk l p ts W2 c, hTl, _, rfl, rfl, ?_⟩
  show Q (.bl (decide (V.str (S (blkT l p ts W2 c)) = V.str (S (blkT l p ts W2 c))))) H7
  rw [decide_eq_true rfl]
  exact q _ SQ7
end
end My

set_option Elab.async false
set_option linter.all false
set_option maxRecDepth 100000
set_option maxHeartbeats 4000000
namespace My
open PySem L2




theorem nat_mod3 (a b : Int) (hb : 0 < b) : ∃ c : Nat, a % b = (c : Int) ∧ (c : Int) < b := by
  have h0 : 0 ≤ a % b := Int.emod_nonneg _ (by omega)
  have h1 : a % b < b := Int.emod_lt_of_pos _ hb
  exact ⟨(a % b).toNat, by omega, by omega⟩
section
variable {P : Program} {w : World} {K : PySem.W.Frag} {mg : Str → Option Value} {base : Heap} {f : Addr} {fd : FuncData}
theorem sc_law : FnScope ["_law_script", "_law_text_here", "_law_rows", "_law_numbers", "_law_number", "_law_place"] ["_law_script"] (defScope s_law) := ⟨rfl, rfl, rfl, by decide +kernel, rfl, by decide +kernel, by decide +kernel⟩
theorem ok_law (F : Fun K "law" "law" s_law f fd) (O__law_text : Own P w K mg base CX0 2 "_law_text" ["_law_script"] (sp_text2 K)) (O__law_cell_at : Own P w K mg base CX0 1 "_law_cell_at" ["_law_script", "_law_k"] (sp_cell K)) (O__law_good : Own P w K mg base CX0 21 "_law_good" ["_law_text_here", "_law_rows", "_law_place", "_law_number"] sp_lgood) (m_len : mg "len" = none) (m_max : mg "max" = none) : FnOk P w K mg base CX0 22 f fd ["_law_script"] (sp_law K) := by
  refine F.ok sc_law (fun vs H Q E h => ?_) (fun cdv A outer s H vs Q E hr h => ?_)
  · obtain ⟨a, ns, rfl, _⟩ := h
    rfl
  obtain ⟨a, ns, rfl, hS, h63, q⟩ := h
  refine ⟨_, (pss_cons (ps_set (i := 1) sc_law.nd rfl (Or.inl rfl) (pe_own O__law_text hr (by rfl) pass0 (pa_cons (pv 0) pa_nil)))
      (pss_cons (ps_if (PW.pt (pw_and (pt_cmpR op_gt (pe_callB call_lenS (by rfl) m_len PySem.boot_len (pa_cons (pv 1) pa_nil)) pe_int (nomark _)) (pw_and1 (pt_cmpR op_eq (pe_op op_mod (pe_op op_fdiv (pe_own O__law_cell_at hr (by rfl) pass0 (pa_cons (pv 0) (pa_cons pe_int pa_nil))) pe_int) pe_int) pe_int (nomark _))))) (pss_one (ps_set (i := 1) sc_law.nd rfl (Or.inl rfl) (pe_op op_adS (pe_slice sl_str (pv 1) po_none (po_some pe_int)) (pe_slice sl_str (pv 1) (po_some pe_int) po_none)))) pss_nil)
      (pss_cons (ps_set (i := 2) sc_law.nd rfl (Or.inl rfl) (pe_bm PySem.F.plainAttrs_str PySem.F.slot_str_split PySem.F.type_str_split mt_split (pv 1) (pa_cons pe_str pa_nil)))
      (pss_cons (ps_setC (i := 3) ["_law_cell"] _ [] sc_law.nd rfl (Or.inl rfl) rfl (cl_none ["_law_cell"] (by decide +kernel) rfl (by decide +kernel)) (pi_list (pe_slice sl_list (pv 0) (po_some pe_int) (po_some pe_int))) (fun _ _ _ _ => pg_name (i := 0) (nd1 _) rfl (Or.inl rfl)) (fun _ _ _ _ => pif_nil) (fun _ _ _ _ => (pe_op op_mod (pe_op op_mul (pv 0) pe_int) pe_int)))
      (pss_cons (ps_expr (pe_bm PySem.F.plainAttrs_list PySem.F.slot_list_append PySem.F.type_list_append mt_append (pv 3) (pa_cons (pe_op op_mod (pe_op op_mul (pe_own O__law_cell_at hr (by rfl) pass0 (pa_cons (pv 0) (pa_cons pe_int pa_nil))) pe_int) pe_int) pa_nil)))
      (pss_cons (ps_for PassesOwn.never rfl (pi_list (pv 3)) (pg_name (i := 4) sc_law.nd rfl (Or.inl rfl)) (pss_cons (ps_set (i := 5) sc_law.nd rfl (Or.inl rfl) (pe_op op_mod (pe_op op_fdiv (pv 4) pe_int) (pe_op op_add (pe_callB call_lenS (by rfl) m_len PySem.boot_len (pa_cons (pv 1) pa_nil)) pe_int)))
      (pss_cons (ps_if (pt_cmpR op_eq (pe_op op_mod (pv 4) pe_int) pe_int (nomark _)) (pss_one (ps_set (i := 5) sc_law.nd rfl (Or.inl rfl) (pe_callB (call_max2 (by rfl)) (by rfl) m_max boot_max (pa_cons pe_int (pa_cons (pe_op op_sub (pe_callB call_lenS (by rfl) m_len PySem.boot_len (pa_cons (pv 1) pa_nil)) (pe_op op_mod (pe_op op_fdiv (pv 4) pe_int) pe_int)) pa_nil))))) pss_nil)
      (pss_one (ps_if (pt_not (pt_val (pe_own O__law_good hr (by rfl) pass0 (pa_cons (pv 1) (pa_cons (pv 2) (pa_cons (pv 5) (pa_cons (pe_op op_mod (pe_op op_mul (pv 4) pe_int) pe_int) pa_nil))))))) (pss_one (ps_ret pe_bl)) pss_nil)))))
      (pss_one (ps_ret pe_bl)))))))), ?_⟩
  refine ⟨_, rfl, a, ns, rfl, hS, h63, fun l H2 S12 hl hasc => ?_⟩
  have cut63 : ∀ (i j : Option Int), (cutL ns i j).length ≤ 63 := fun i j => Nat.le_trans (cutL_le _ _ _) h63
  refine gname_go (seq_at (seq_to (fun σ H' => H2 = H' ∧ ∃ l : List Nat, l.length ≤ 600 ∧ (∀ c ∈ l, c < 128) ∧ σ = [some (.ref a), some (.str (S l)), none, none, none, none]) (fun nx fin => ?_) ?_))
  · refine ⟨_, rfl, l, rfl, small (by omega), _, _, rfl, rfl, _, rfl, ite2 (fun _ => ?_) (fun _ => iteF (fin _ _ ⟨rfl, l, hl, hasc, rfl⟩))⟩
    refine ⟨_, rfl, a, ns, 0, rfl, S12.seq hS, _, _, rfl, rfl, ⟨by decide, by decide⟩, _, _, rfl, rfl, (by show (0 : Int) < 2; decide), rfl, _, rfl, ite2 (fun _ => ?_) (fun _ => fin _ _ ⟨rfl, l, hl, hasc, rfl⟩)⟩
    have c1 := cutL_le l none (some 20)
    have c2 := cutL_le l (some 80) none
    refine ⟨_, rfl, _, rfl, l, rfl, small (by omega), _, rfl, _, rfl, l, rfl, small (by omega), _, _, rfl, rfl, ?_, fin _ _ ⟨rfl, _, ?_, fun x hx => ?_, rfl⟩⟩
    · exact Nat.le_trans (show _ ≤ 1000000 by omega) (small (Nat.le_refl _))
    · rw [show cutL l none (some 20) = l.take 20 from cutL_m l 20, show cutL l (some 80) none = l.drop 80 from cutL_n l 80, List.length_append, List.length_take, List.length_drop]
      omega
    · rw [show cutL l none (some 20) = l.take 20 from cutL_m l 20, show cutL l (some 80) none = l.drop 80 from cutL_n l 80] at hx
      rcases List.mem_append.mp hx with z | z
      · exact hasc x (List.mem_of_mem_take z)
      · exact hasc x (List.mem_of_mem_drop z)
  rintro σ H' ⟨rfl, l, hl, hasc, rfl⟩
  refine ⟨_, rfl, rfl, l, rfl, rfl, by omega, fun R hR => ?_⟩
  have S2r := same_new hR (.lst (rowsV l))
  have hRv : upd H2 R (.lst (rowsV l)) R = some (.lst (rowsV l)) := upd_same
  have S12 := S12.trans S2r
  show gName _ (V.ref R) _ (upd H2 R (.lst (rowsV l))) _
  generalize upd H2 R (.lst (rowsV l)) = H2 at S2r hRv S12
  refine ⟨_, rfl, _, rfl, _, rfl, a, _, rfl, S12.seq hS, fun d hd => ?_⟩
  have S3 := same_new hd (.lst (cutV (ns.map V.int) (some 2) (some 26)))
  have sqd : SqL K (upd H2 d (.lst (cutV (ns.map V.int) (some 2) (some 26)))) d ((cutL ns (some 2) (some 26)).map V.int) := sq_cut
  have hcut := cut63 (some 2) (some 26)
  have S13 := S12.trans S3
  have hR3 := S3 _ _ hRv
  generalize upd H2 d (.lst (cutV (ns.map V.int) (some 2) (some 26))) = H3 at S3 sqd S13 hR3
  generalize cutL ns (some 2) (some 26) = cs at hcut sqd
  refine ⟨d, rfl, ⟨_, sqd⟩, fun D hD => ?_⟩
  refine comp_nums (fun x => x * 48271 % 2147483647) rfl sqd hD (by omega) (fun x H' k h => ⟨_, rfl, _, _, rfl, rfl, .inr ⟨by decide, by decide⟩, _, _, rfl, rfl, (by show (0 : Int) < 2147483647; decide), h⟩) (fun H4 S4 hD4 => ?_)
  have S14 := S13.trans S4
  have hR4 := S4 _ _ hR3
  have hRD : R ≠ D := fun z => by
    rw [z, hD] at hR3
    cases hR3
  refine ⟨_, rfl, .inl ⟨rfl, _, SqL.of hD4⟩, _, rfl, a, ns, 1, rfl, S14.seq hS, _, _, rfl, rfl, .inr ⟨by decide, by decide⟩, _, _, rfl, rfl, (by show (0 : Int) < 2147483629; decide), D, _, _, rfl, rfl, hD4, ?_, ?_⟩
  · rw [List.length_map, List.length_map]
    exact Nat.lt_of_lt_of_le (show _ < 1000000 by omega) (small (Nat.le_refl _))
  have hD5 : upd H4 D (.lst ((cs.map fun x => x * 48271 % 2147483647).map V.int ++ [V.int (cell ns 1 * 69621 % 2147483629)])) D = some (.lst (((cs.map fun x => x * 48271 % 2147483647) ++ [cell ns 1 * 69621 % 2147483629]).map V.int)) := by
    rw [upd_same, List.map_append]
    rfl
  have hR5 : upd H4 D (.lst ((cs.map fun x => x * 48271 % 2147483647).map V.int ++ [V.int (cell ns 1 * 69621 % 2147483629)])) R = some (.lst (rowsV l)) := by
    rw [upd_ne hRD]
    exact hR4
  generalize upd H4 D (.lst ((cs.map fun x => x * 48271 % 2147483647).map V.int ++ [V.int (cell ns 1 * 69621 % 2147483629)])) = H5 at hD5 hR5
  generalize (cs.map fun x => x * 48271 % 2147483647) ++ [cell ns 1 * 69621 % 2147483629] = zs at hD5
  refine ⟨_, rfl, D, rfl, ⟨_, SqL.of hD5⟩, ?_⟩
  have hpos : (0 : Int) < (l.length : Int) + 1 := by omega
  refine for_list (xs := zs.map V.int) (fun i σ H' => Same H5 H' ∧ ∃ x y : Option V, σ = [some (.ref a), some (.str (S l)), some (.ref R), some (.ref D), x, y]) ⟨Same.refl _, none, none, rfl⟩ (fun i σ H' _ h => h.1.seq (SqL.of hD5)) ?_ ?_
  · rintro i v σ H' hv ⟨S6, x, y, rfl⟩
    obtain ⟨n, hn, rfl⟩ := List.mem_map.mp (List.mem_of_getElem? hv)
    obtain ⟨p0, hp0, hpl0⟩ := nat_mod3 (n / 5) ((l.length : Int) + 1) hpos
    refine ⟨_, rfl, _, _, rfl, rfl, ⟨by decide, by decide⟩, _, rfl, l, rfl, small (by omega), _, _, rfl, rfl, _, _, rfl, rfl, hpos, ?_⟩
    show gName _ (V.int (n / 5 % ((l.length : Int) + 1))) _ _ _
    rw [hp0]
    refine gname_go (seq_at (seq_to (fun σ H7 => H' = H7 ∧ ∃ p : Nat, p ≤ l.length ∧ σ = [some (.ref a), some (.str (S l)), some (.ref R), some (.ref D), some (.int n), some (.int (p : Int))]) (fun nx fin => ?_) ?_))
    · refine ⟨_, rfl, _, _, rfl, rfl, (by show (0 : Int) < 2; decide), rfl, _, rfl, ite2 (fun _ => ?_) (fun _ => fin _ _ ⟨rfl, p0, by omega, rfl⟩)⟩
      have y0 : 0 ≤ n / 5 % 20 := Int.emod_nonneg _ (by decide)
      refine ⟨_, rfl, l, rfl, small (by omega), _, rfl, _, _, rfl, rfl, ⟨by decide, by decide⟩, _, _, rfl, rfl, (by show (0 : Int) < 20; decide), _, _, rfl, rfl, _, _, rfl, ?_⟩
      refine ((fun z h1 h2 => ?_ : ∀ z : Int, 0 ≤ z → z ≤ l.length → gName 5 (V.int z) _ _ _) _ ?_ ?_)
      · obtain ⟨p, rfl⟩ : ∃ p : Nat, z = (p : Int) := ⟨z.toNat, by omega⟩
        exact fin _ _ ⟨rfl, p, by omega, rfl⟩
      · split <;> omega
      · split <;> omega
    rintro σ H7 ⟨rfl, p, hp, rfl⟩
    exact ⟨_, rfl, _, rfl, _, rfl, _, rfl, _, _, rfl, rfl, .inr ⟨by decide, by decide⟩, _, _, rfl, rfl, (by show (0 : Int) < 2147483399; decide), l, R, p, n * 40692 % 2147483399, rfl, S6 _ _ hR5, hl, hasc, hp, fun H8 S8 => ⟨_, rfl, iteF ⟨S6.trans S8, _, _, rfl⟩⟩⟩
  · rintro σ H' ⟨_, x, y, rfl⟩
    exact q H'
end
end My

set_option Elab.async false
set_option linter.all false
set_option maxRecDepth 100000
set_option maxHeartbeats 4000000
namespace My
open PySem L2

theorem len0 {α : Type} {us : List α} (h : us.length = 0) : us = [] := List.length_eq_zero_iff.mp h
theorem len1 {α : Type} {us : List α} (h : us.length = 1) : ∃ a, us = [a] := List.length_eq_one_iff.mp h
theorem len2 {α : Type} {us : List α} (h : us.length = 2) : ∃ a b, us = [a, b] := by
  cases us with
  | nil => cases h
  | cons a r => obtain ⟨b, rfl⟩ := len1 (Nat.succ.inj h); exact ⟨a, b, rfl⟩
theorem len3 {α : Type} {us : List α} (h : us.length = 3) : ∃ a b c, us = [a, b, c] := by
  cases us with
  | nil => cases h
  | cons a r => obtain ⟨b, c, rfl⟩ := len2 (Nat.succ.inj h); exact ⟨a, b, c, rfl⟩
theorem len4 {α : Type} {us : List α} (h : us.length = 4) : ∃ a b c d, us = [a, b, c, d] := by
  cases us with
  | nil => cases h
  | cons a r => obtain ⟨b, c, d, rfl⟩ := len3 (Nat.succ.inj h); exact ⟨a, b, c, d, rfl⟩
theorem len5 {α : Type} {us : List α} (h : us.length = 5) : ∃ a b c d e, us = [a, b, c, d, e] := by
  cases us with
  | nil => cases h
  | cons a r => obtain ⟨b, c, d, e, rfl⟩ := len4 (Nat.succ.inj h); exact ⟨a, b, c, d, e, rfl⟩

theorem all_mk {l : PySem.W.OpenLaw} {w : World} {K : PySem.W.Frag} {h : Heap} {mg : Str → Option Value} {fa : Addr} (X : K.In h) (G : h.Ns mainGlobals mg) (hfa : mg "law" = some (.ref fa))
    {f_is_whole : Addr} {od_is_whole an_is_whole : Option Addr} {sl_is_whole : Array (Option Value)} {oc_is_whole kV_is_whole dc_is_whole pm_is_whole cd_is_whole ct_is_whole : Value}
    (a_is_whole : PySem.W.nsIn K mainGlobals "is_whole" = some (some (.ref f_is_whole))) (l_is_whole : K.lookup f_is_whole = some ⟨oc_is_whole, od_is_whole, .func (PySem.W.fnOf "is_whole" "is_whole" (defArgs s_is_whole) (defBody s_is_whole) (defScope s_is_whole) .none kV_is_whole dc_is_whole pm_is_whole an_is_whole cd_is_whole ct_is_whole), sl_is_whole⟩) (c_is_whole : PySem.W.codeIn K cd_is_whole "is_whole" = true) (k_is_whole : PySem.W.keepIn K (.ref f_is_whole) = true)
    {f_is_place : Addr} {od_is_place an_is_place : Option Addr} {sl_is_place : Array (Option Value)} {oc_is_place kV_is_place dc_is_place pm_is_place cd_is_place ct_is_place : Value}
    (a_is_place : PySem.W.nsIn K mainGlobals "is_place" = some (some (.ref f_is_place))) (l_is_place : K.lookup f_is_place = some ⟨oc_is_place, od_is_place, .func (PySem.W.fnOf "is_place" "is_place" (defArgs s_is_place) (defBody s_is_place) (defScope s_is_place) .none kV_is_place dc_is_place pm_is_place an_is_place cd_is_place ct_is_place), sl_is_place⟩) (c_is_place : PySem.W.codeIn K cd_is_place "is_place" = true) (k_is_place : PySem.W.keepIn K (.ref f_is_place) = true)
    {f_is_row : Addr} {od_is_row an_is_row : Option Addr} {sl_is_row : Array (Option Value)} {oc_is_row kV_is_row dc_is_row pm_is_row cd_is_row ct_is_row : Value}
    (a_is_row : PySem.W.nsIn K mainGlobals "is_row" = some (some (.ref f_is_row))) (l_is_row : K.lookup f_is_row = some ⟨oc_is_row, od_is_row, .func (PySem.W.fnOf "is_row" "is_row" (defArgs s_is_row) (defBody s_is_row) (defScope s_is_row) .none kV_is_row dc_is_row pm_is_row an_is_row cd_is_row ct_is_row), sl_is_row⟩) (c_is_row : PySem.W.codeIn K cd_is_row "is_row" = true) (k_is_row : PySem.W.keepIn K (.ref f_is_row) = true)
    {f_check_place : Addr} {od_check_place an_check_place : Option Addr} {sl_check_place : Array (Option Value)} {oc_check_place kV_check_place dc_check_place pm_check_place cd_check_place ct_check_place : Value}
    (a_check_place : PySem.W.nsIn K mainGlobals "check_place" = some (some (.ref f_check_place))) (l_check_place : K.lookup f_check_place = some ⟨oc_check_place, od_check_place, .func (PySem.W.fnOf "check_place" "check_place" (defArgs s_check_place) (defBody s_check_place) (defScope s_check_place) .none kV_check_place dc_check_place pm_check_place an_check_place cd_check_place ct_check_place), sl_check_place⟩) (c_check_place : PySem.W.codeIn K cd_check_place "check_place" = true) (k_check_place : PySem.W.keepIn K (.ref f_check_place) = true)
    {f_check_row : Addr} {od_check_row an_check_row : Option Addr} {sl_check_row : Array (Option Value)} {oc_check_row kV_check_row dc_check_row pm_check_row cd_check_row ct_check_row : Value}
    (a_check_row : PySem.W.nsIn K mainGlobals "check_row" = some (some (.ref f_check_row))) (l_check_row : K.lookup f_check_row = some ⟨oc_check_row, od_check_row, .func (PySem.W.fnOf "check_row" "check_row" (defArgs s_check_row) (defBody s_check_row) (defScope s_check_row) .none kV_check_row dc_check_row pm_check_row an_check_row cd_check_row ct_check_row), sl_check_row⟩) (c_check_row : PySem.W.codeIn K cd_check_row "check_row" = true) (k_check_row : PySem.W.keepIn K (.ref f_check_row) = true)
    {f_row_count : Addr} {od_row_count an_row_count : Option Addr} {sl_row_count : Array (Option Value)} {oc_row_count kV_row_count dc_row_count pm_row_count cd_row_count ct_row_count : Value}
    (a_row_count : PySem.W.nsIn K mainGlobals "row_count" = some (some (.ref f_row_count))) (l_row_count : K.lookup f_row_count = some ⟨oc_row_count, od_row_count, .func (PySem.W.fnOf "row_count" "row_count" (defArgs s_row_count) (defBody s_row_count) (defScope s_row_count) .none kV_row_count dc_row_count pm_row_count an_row_count cd_row_count ct_row_count), sl_row_count⟩) (c_row_count : PySem.W.codeIn K cd_row_count "row_count" = true) (k_row_count : PySem.W.keepIn K (.ref f_row_count) = true)
    {f_row_of : Addr} {od_row_of an_row_of : Option Addr} {sl_row_of : Array (Option Value)} {oc_row_of kV_row_of dc_row_of pm_row_of cd_row_of ct_row_of : Value}
    (a_row_of : PySem.W.nsIn K mainGlobals "row_of" = some (some (.ref f_row_of))) (l_row_of : K.lookup f_row_of = some ⟨oc_row_of, od_row_of, .func (PySem.W.fnOf "row_of" "row_of" (defArgs s_row_of) (defBody s_row_of) (defScope s_row_of) .none kV_row_of dc_row_of pm_row_of an_row_of cd_row_of ct_row_of), sl_row_of⟩) (c_row_of : PySem.W.codeIn K cd_row_of "row_of" = true) (k_row_of : PySem.W.keepIn K (.ref f_row_of) = true)
    {f_column_of : Addr} {od_column_of an_column_of : Option Addr} {sl_column_of : Array (Option Value)} {oc_column_of kV_column_of dc_column_of pm_column_of cd_column_of ct_column_of : Value}
    (a_column_of : PySem.W.nsIn K mainGlobals "column_of" = some (some (.ref f_column_of))) (l_column_of : K.lookup f_column_of = some ⟨oc_column_of, od_column_of, .func (PySem.W.fnOf "column_of" "column_of" (defArgs s_column_of) (defBody s_column_of) (defScope s_column_of) .none kV_column_of dc_column_of pm_column_of an_column_of cd_column_of ct_column_of), sl_column_of⟩) (c_column_of : PySem.W.codeIn K cd_column_of "column_of" = true) (k_column_of : PySem.W.keepIn K (.ref f_column_of) = true)
    {f_begin_of : Addr} {od_begin_of an_begin_of : Option Addr} {sl_begin_of : Array (Option Value)} {oc_begin_of kV_begin_of dc_begin_of pm_begin_of cd_begin_of ct_begin_of : Value}
    (a_begin_of : PySem.W.nsIn K mainGlobals "begin_of" = some (some (.ref f_begin_of))) (l_begin_of : K.lookup f_begin_of = some ⟨oc_begin_of, od_begin_of, .func (PySem.W.fnOf "begin_of" "begin_of" (defArgs s_begin_of) (defBody s_begin_of) (defScope s_begin_of) .none kV_begin_of dc_begin_of pm_begin_of an_begin_of cd_begin_of ct_begin_of), sl_begin_of⟩) (c_begin_of : PySem.W.codeIn K cd_begin_of "begin_of" = true) (k_begin_of : PySem.W.keepIn K (.ref f_begin_of) = true)
    {f_end_of : Addr} {od_end_of an_end_of : Option Addr} {sl_end_of : Array (Option Value)} {oc_end_of kV_end_of dc_end_of pm_end_of cd_end_of ct_end_of : Value}
    (a_end_of : PySem.W.nsIn K mainGlobals "end_of" = some (some (.ref f_end_of))) (l_end_of : K.lookup f_end_of = some ⟨oc_end_of, od_end_of, .func (PySem.W.fnOf "end_of" "end_of" (defArgs s_end_of) (defBody s_end_of) (defScope s_end_of) .none kV_end_of dc_end_of pm_end_of an_end_of cd_end_of ct_end_of), sl_end_of⟩) (c_end_of : PySem.W.codeIn K cd_end_of "end_of" = true) (k_end_of : PySem.W.keepIn K (.ref f_end_of) = true)
    {f_place_of : Addr} {od_place_of an_place_of : Option Addr} {sl_place_of : Array (Option Value)} {oc_place_of kV_place_of dc_place_of pm_place_of cd_place_of ct_place_of : Value}
    (a_place_of : PySem.W.nsIn K mainGlobals "place_of" = some (some (.ref f_place_of))) (l_place_of : K.lookup f_place_of = some ⟨oc_place_of, od_place_of, .func (PySem.W.fnOf "place_of" "place_of" (defArgs s_place_of) (defBody s_place_of) (defScope s_place_of) .none kV_place_of dc_place_of pm_place_of an_place_of cd_place_of ct_place_of), sl_place_of⟩) (c_place_of : PySem.W.codeIn K cd_place_of "place_of" = true) (k_place_of : PySem.W.keepIn K (.ref f_place_of) = true)
    {f_changing : Addr} {od_changing an_changing : Option Addr} {sl_changing : Array (Option Value)} {oc_changing kV_changing dc_changing pm_changing cd_changing ct_changing : Value}
    (a_changing : PySem.W.nsIn K mainGlobals "changing" = some (some (.ref f_changing))) (l_changing : K.lookup f_changing = some ⟨oc_changing, od_changing, .func (PySem.W.fnOf "changing" "changing" (defArgs s_changing) (defBody s_changing) (defScope s_changing) .none kV_changing dc_changing pm_changing an_changing cd_changing ct_changing), sl_changing⟩) (c_changing : PySem.W.codeIn K cd_changing "changing" = true) (k_changing : PySem.W.keepIn K (.ref f_changing) = true)
    {f_too_long : Addr} {od_too_long an_too_long : Option Addr} {sl_too_long : Array (Option Value)} {oc_too_long kV_too_long dc_too_long pm_too_long cd_too_long ct_too_long : Value}
    (a_too_long : PySem.W.nsIn K mainGlobals "too_long" = some (some (.ref f_too_long))) (l_too_long : K.lookup f_too_long = some ⟨oc_too_long, od_too_long, .func (PySem.W.fnOf "too_long" "too_long" (defArgs s_too_long) (defBody s_too_long) (defScope s_too_long) .none kV_too_long dc_too_long pm_too_long an_too_long cd_too_long ct_too_long), sl_too_long⟩) (c_too_long : PySem.W.codeIn K cd_too_long "too_long" = true) (k_too_long : PySem.W.keepIn K (.ref f_too_long) = true)
    {f_bounded : Addr} {od_bounded an_bounded : Option Addr} {sl_bounded : Array (Option Value)} {oc_bounded kV_bounded dc_bounded pm_bounded cd_bounded ct_bounded : Value}
    (a_bounded : PySem.W.nsIn K mainGlobals "bounded" = some (some (.ref f_bounded))) (l_bounded : K.lookup f_bounded = some ⟨oc_bounded, od_bounded, .func (PySem.W.fnOf "bounded" "bounded" (defArgs s_bounded) (defBody s_bounded) (defScope s_bounded) .none kV_bounded dc_bounded pm_bounded an_bounded cd_bounded ct_bounded), sl_bounded⟩) (c_bounded : PySem.W.codeIn K cd_bounded "bounded" = true) (k_bounded : PySem.W.keepIn K (.ref f_bounded) = true)
    {f_typed_in : Addr} {od_typed_in an_typed_in : Option Addr} {sl_typed_in : Array (Option Value)} {oc_typed_in kV_typed_in dc_typed_in pm_typed_in cd_typed_in ct_typed_in : Value}
    {dt_typed_in_0 : Tok}
    {dT_typed_in : Addr} {dO_typed_in : Value} {dD_typed_in : Option Addr} {dN_typed_in : Nat} {dS_typed_in : Array (Option Value)} (dl_typed_in : K.lookup dT_typed_in = some ⟨dO_typed_in, dD_typed_in, .seq #[.int 1 dt_typed_in_0] dN_typed_in, dS_typed_in⟩)
    (a_typed_in : PySem.W.nsIn K mainGlobals "typed_in" = some (some (.ref f_typed_in))) (l_typed_in : K.lookup f_typed_in = some ⟨oc_typed_in, od_typed_in, .func (PySem.W.fnOf "typed_in" "typed_in" (defArgs s_typed_in) (defBody s_typed_in) (defScope s_typed_in) (.ref dT_typed_in) kV_typed_in dc_typed_in pm_typed_in an_typed_in cd_typed_in ct_typed_in), sl_typed_in⟩) (c_typed_in : PySem.W.codeIn K cd_typed_in "typed_in" = true) (k_typed_in : PySem.W.keepIn K (.ref f_typed_in) = true)
    {f_laid_rows : Addr} {od_laid_rows an_laid_rows : Option Addr} {sl_laid_rows : Array (Option Value)} {oc_laid_rows kV_laid_rows dc_laid_rows pm_laid_rows cd_laid_rows ct_laid_rows : Value}
    (a_laid_rows : PySem.W.nsIn K mainGlobals "laid_rows" = some (some (.ref f_laid_rows))) (l_laid_rows : K.lookup f_laid_rows = some ⟨oc_laid_rows, od_laid_rows, .func (PySem.W.fnOf "laid_rows" "laid_rows" (defArgs s_laid_rows) (defBody s_laid_rows) (defScope s_laid_rows) .none kV_laid_rows dc_laid_rows pm_laid_rows an_laid_rows cd_laid_rows ct_laid_rows), sl_laid_rows⟩) (c_laid_rows : PySem.W.codeIn K cd_laid_rows "laid_rows" = true) (k_laid_rows : PySem.W.keepIn K (.ref f_laid_rows) = true)
    {f_laid_in_row : Addr} {od_laid_in_row an_laid_in_row : Option Addr} {sl_laid_in_row : Array (Option Value)} {oc_laid_in_row kV_laid_in_row dc_laid_in_row pm_laid_in_row cd_laid_in_row ct_laid_in_row : Value}
    (a_laid_in_row : PySem.W.nsIn K mainGlobals "laid_in_row" = some (some (.ref f_laid_in_row))) (l_laid_in_row : K.lookup f_laid_in_row = some ⟨oc_laid_in_row, od_laid_in_row, .func (PySem.W.fnOf "laid_in_row" "laid_in_row" (defArgs s_laid_in_row) (defBody s_laid_in_row) (defScope s_laid_in_row) .none kV_laid_in_row dc_laid_in_row pm_laid_in_row an_laid_in_row cd_laid_in_row ct_laid_in_row), sl_laid_in_row⟩) (c_laid_in_row : PySem.W.codeIn K cd_laid_in_row "laid_in_row" = true) (k_laid_in_row : PySem.W.keepIn K (.ref f_laid_in_row) = true)
    {f_laid_block : Addr} {od_laid_block an_laid_block : Option Addr} {sl_laid_block : Array (Option Value)} {oc_laid_block kV_laid_block dc_laid_block pm_laid_block cd_laid_block ct_laid_block : Value}
    (a_laid_block : PySem.W.nsIn K mainGlobals "laid_block" = some (some (.ref f_laid_block))) (l_laid_block : K.lookup f_laid_block = some ⟨oc_laid_block, od_laid_block, .func (PySem.W.fnOf "laid_block" "laid_block" (defArgs s_laid_block) (defBody s_laid_block) (defScope s_laid_block) .none kV_laid_block dc_laid_block pm_laid_block an_laid_block cd_laid_block ct_laid_block), sl_laid_block⟩) (c_laid_block : PySem.W.codeIn K cd_laid_block "laid_block" = true) (k_laid_block : PySem.W.keepIn K (.ref f_laid_block) = true)
    {f_laid : Addr} {od_laid an_laid : Option Addr} {sl_laid : Array (Option Value)} {oc_laid kV_laid dc_laid pm_laid cd_laid ct_laid : Value}
    {dt_laid_0 : Tok}
    {dT_laid : Addr} {dO_laid : Value} {dD_laid : Option Addr} {dN_laid : Nat} {dS_laid : Array (Option Value)} (dl_laid : K.lookup dT_laid = some ⟨dO_laid, dD_laid, .seq #[.int 1 dt_laid_0] dN_laid, dS_laid⟩)
    (a_laid : PySem.W.nsIn K mainGlobals "laid" = some (some (.ref f_laid))) (l_laid : K.lookup f_laid = some ⟨oc_laid, od_laid, .func (PySem.W.fnOf "laid" "laid" (defArgs s_laid) (defBody s_laid) (defScope s_laid) (.ref dT_laid) kV_laid dc_laid pm_laid an_laid cd_laid ct_laid), sl_laid⟩) (c_laid : PySem.W.codeIn K cd_laid "laid" = true) (k_laid : PySem.W.keepIn K (.ref f_laid) = true)
    {f__law_cell_at : Addr} {od__law_cell_at an__law_cell_at : Option Addr} {sl__law_cell_at : Array (Option Value)} {oc__law_cell_at kV__law_cell_at dc__law_cell_at pm__law_cell_at cd__law_cell_at ct__law_cell_at : Value}
    (a__law_cell_at : PySem.W.nsIn K mainGlobals "_law_cell_at" = some (some (.ref f__law_cell_at))) (l__law_cell_at : K.lookup f__law_cell_at = some ⟨oc__law_cell_at, od__law_cell_at, .func (PySem.W.fnOf "_law_cell_at" "_law_cell_at" (defArgs s__law_cell_at) (defBody s__law_cell_at) (defScope s__law_cell_at) .none kV__law_cell_at dc__law_cell_at pm__law_cell_at an__law_cell_at cd__law_cell_at ct__law_cell_at), sl__law_cell_at⟩) (c__law_cell_at : PySem.W.codeIn K cd__law_cell_at "_law_cell_at" = true) (k__law_cell_at : PySem.W.keepIn K (.ref f__law_cell_at) = true)
    {f__law_whole : Addr} {od__law_whole an__law_whole : Option Addr} {sl__law_whole : Array (Option Value)} {oc__law_whole kV__law_whole dc__law_whole pm__law_whole cd__law_whole ct__law_whole : Value}
    (a__law_whole : PySem.W.nsIn K mainGlobals "_law_whole" = some (some (.ref f__law_whole))) (l__law_whole : K.lookup f__law_whole = some ⟨oc__law_whole, od__law_whole, .func (PySem.W.fnOf "_law_whole" "_law_whole" (defArgs s__law_whole) (defBody s__law_whole) (defScope s__law_whole) .none kV__law_whole dc__law_whole pm__law_whole an__law_whole cd__law_whole ct__law_whole), sl__law_whole⟩) (c__law_whole : PySem.W.codeIn K cd__law_whole "_law_whole" = true) (k__law_whole : PySem.W.keepIn K (.ref f__law_whole) = true)
    {f__law_sign : Addr} {od__law_sign an__law_sign : Option Addr} {sl__law_sign : Array (Option Value)} {oc__law_sign kV__law_sign dc__law_sign pm__law_sign cd__law_sign ct__law_sign : Value}
    (a__law_sign : PySem.W.nsIn K mainGlobals "_law_sign" = some (some (.ref f__law_sign))) (l__law_sign : K.lookup f__law_sign = some ⟨oc__law_sign, od__law_sign, .func (PySem.W.fnOf "_law_sign" "_law_sign" (defArgs s__law_sign) (defBody s__law_sign) (defScope s__law_sign) .none kV__law_sign dc__law_sign pm__law_sign an__law_sign cd__law_sign ct__law_sign), sl__law_sign⟩) (c__law_sign : PySem.W.codeIn K cd__law_sign "_law_sign" = true) (k__law_sign : PySem.W.keepIn K (.ref f__law_sign) = true)
    {f__law_text : Addr} {od__law_text an__law_text : Option Addr} {sl__law_text : Array (Option Value)} {oc__law_text kV__law_text dc__law_text pm__law_text cd__law_text ct__law_text : Value}
    (a__law_text : PySem.W.nsIn K mainGlobals "_law_text" = some (some (.ref f__law_text))) (l__law_text : K.lookup f__law_text = some ⟨oc__law_text, od__law_text, .func (PySem.W.fnOf "_law_text" "_law_text" (defArgs s__law_text) (defBody s__law_text) (defScope s__law_text) .none kV__law_text dc__law_text pm__law_text an__law_text cd__law_text ct__law_text), sl__law_text⟩) (c__law_text : PySem.W.codeIn K cd__law_text "_law_text" = true) (k__law_text : PySem.W.keepIn K (.ref f__law_text) = true)
    {f__law_splices : Addr} {od__law_splices an__law_splices : Option Addr} {sl__law_splices : Array (Option Value)} {oc__law_splices kV__law_splices dc__law_splices pm__law_splices cd__law_splices ct__law_splices : Value}
    (a__law_splices : PySem.W.nsIn K mainGlobals "_law_splices" = some (some (.ref f__law_splices))) (l__law_splices : K.lookup f__law_splices = some ⟨oc__law_splices, od__law_splices, .func (PySem.W.fnOf "_law_splices" "_law_splices" (defArgs s__law_splices) (defBody s__law_splices) (defScope s__law_splices) .none kV__law_splices dc__law_splices pm__law_splices an__law_splices cd__law_splices ct__law_splices), sl__law_splices⟩) (c__law_splices : PySem.W.codeIn K cd__law_splices "_law_splices" = true) (k__law_splices : PySem.W.keepIn K (.ref f__law_splices) = true)
    {f__law_told : Addr} {od__law_told an__law_told : Option Addr} {sl__law_told : Array (Option Value)} {oc__law_told kV__law_told dc__law_told pm__law_told cd__law_told ct__law_told : Value}
    (a__law_told : PySem.W.nsIn K mainGlobals "_law_told" = some (some (.ref f__law_told))) (l__law_told : K.lookup f__law_told = some ⟨oc__law_told, od__law_told, .func (PySem.W.fnOf "_law_told" "_law_told" (defArgs s__law_told) (defBody s__law_told) (defScope s__law_told) .none kV__law_told dc__law_told pm__law_told an__law_told cd__law_told ct__law_told), sl__law_told⟩) (c__law_told : PySem.W.codeIn K cd__law_told "_law_told" = true) (k__law_told : PySem.W.keepIn K (.ref f__law_told) = true)
    {f__law_at : Addr} {od__law_at an__law_at : Option Addr} {sl__law_at : Array (Option Value)} {oc__law_at kV__law_at dc__law_at pm__law_at cd__law_at ct__law_at : Value}
    (a__law_at : PySem.W.nsIn K mainGlobals "_law_at" = some (some (.ref f__law_at))) (l__law_at : K.lookup f__law_at = some ⟨oc__law_at, od__law_at, .func (PySem.W.fnOf "_law_at" "_law_at" (defArgs s__law_at) (defBody s__law_at) (defScope s__law_at) .none kV__law_at dc__law_at pm__law_at an__law_at cd__law_at ct__law_at), sl__law_at⟩) (c__law_at : PySem.W.codeIn K cd__law_at "_law_at" = true) (k__law_at : PySem.W.keepIn K (.ref f__law_at) = true)
    {f__law_block : Addr} {od__law_block an__law_block : Option Addr} {sl__law_block : Array (Option Value)} {oc__law_block kV__law_block dc__law_block pm__law_block cd__law_block ct__law_block : Value}
    (a__law_block : PySem.W.nsIn K mainGlobals "_law_block" = some (some (.ref f__law_block))) (l__law_block : K.lookup f__law_block = some ⟨oc__law_block, od__law_block, .func (PySem.W.fnOf "_law_block" "_law_block" (defArgs s__law_block) (defBody s__law_block) (defScope s__law_block) .none kV__law_block dc__law_block pm__law_block an__law_block cd__law_block ct__law_block), sl__law_block⟩) (c__law_block : PySem.W.codeIn K cd__law_block "_law_block" = true) (k__law_block : PySem.W.keepIn K (.ref f__law_block) = true)
    {f__law_due : Addr} {od__law_due an__law_due : Option Addr} {sl__law_due : Array (Option Value)} {oc__law_due kV__law_due dc__law_due pm__law_due cd__law_due ct__law_due : Value}
    (a__law_due : PySem.W.nsIn K mainGlobals "_law_due" = some (some (.ref f__law_due))) (l__law_due : K.lookup f__law_due = some ⟨oc__law_due, od__law_due, .func (PySem.W.fnOf "_law_due" "_law_due" (defArgs s__law_due) (defBody s__law_due) (defScope s__law_due) .none kV__law_due dc__law_due pm__law_due an__law_due cd__law_due ct__law_due), sl__law_due⟩) (c__law_due : PySem.W.codeIn K cd__law_due "_law_due" = true) (k__law_due : PySem.W.keepIn K (.ref f__law_due) = true)
    {f__law_walked : Addr} {od__law_walked an__law_walked : Option Addr} {sl__law_walked : Array (Option Value)} {oc__law_walked kV__law_walked dc__law_walked pm__law_walked cd__law_walked ct__law_walked : Value}
    (a__law_walked : PySem.W.nsIn K mainGlobals "_law_walked" = some (some (.ref f__law_walked))) (l__law_walked : K.lookup f__law_walked = some ⟨oc__law_walked, od__law_walked, .func (PySem.W.fnOf "_law_walked" "_law_walked" (defArgs s__law_walked) (defBody s__law_walked) (defScope s__law_walked) .none kV__law_walked dc__law_walked pm__law_walked an__law_walked cd__law_walked ct__law_walked), sl__law_walked⟩) (c__law_walked : PySem.W.codeIn K cd__law_walked "_law_walked" = true) (k__law_walked : PySem.W.keepIn K (.ref f__law_walked) = true)
    {f__law_good : Addr} {od__law_good an__law_good : Option Addr} {sl__law_good : Array (Option Value)} {oc__law_good kV__law_good dc__law_good pm__law_good cd__law_good ct__law_good : Value}
    (a__law_good : PySem.W.nsIn K mainGlobals "_law_good" = some (some (.ref f__law_good))) (l__law_good : K.lookup f__law_good = some ⟨oc__law_good, od__law_good, .func (PySem.W.fnOf "_law_good" "_law_good" (defArgs s__law_good) (defBody s__law_good) (defScope s__law_good) .none kV__law_good dc__law_good pm__law_good an__law_good cd__law_good ct__law_good), sl__law_good⟩) (c__law_good : PySem.W.codeIn K cd__law_good "_law_good" = true) (k__law_good : PySem.W.keepIn K (.ref f__law_good) = true)
    {f_law : Addr} {od_law an_law : Option Addr} {sl_law : Array (Option Value)} {oc_law kV_law dc_law pm_law cd_law ct_law : Value}
    (a_law : PySem.W.nsIn K mainGlobals "law" = some (some (.ref f_law))) (l_law : K.lookup f_law = some ⟨oc_law, od_law, .func (PySem.W.fnOf "law" "law" (defArgs s_law) (defBody s_law) (defScope s_law) .none kV_law dc_law pm_law an_law cd_law ct_law), sl_law⟩) (c_law : PySem.W.codeIn K cd_law "law" = true) (k_law : PySem.W.keepIn K (.ref f_law) = true)
    {tk_MOST_SIGNS : Tok} (g_MOST_SIGNS : PySem.W.nsIn K mainGlobals "MOST_SIGNS" = some (some (.int num_MOST_SIGNS tk_MOST_SIGNS)))
    (z_len : PySem.W.nsIn K mainGlobals "len" = some none) (z_range : PySem.W.nsIn K mainGlobals "range" = some none) (z_min : PySem.W.nsIn K mainGlobals "min" = some none) (z_max : PySem.W.nsIn K mainGlobals "max" = some none) (z_isinstance : PySem.W.nsIn K mainGlobals "isinstance" = some none) (z_int : PySem.W.nsIn K mainGlobals "int" = some none) (z_bool : PySem.W.nsIn K mainGlobals "bool" = some none) (z_str : PySem.W.nsIn K mainGlobals "str" = some none) (z_tuple : PySem.W.nsIn K mainGlobals "tuple" = some none) (z_list : PySem.W.nsIn K mainGlobals "list" = some none) (z_reversed : PySem.W.nsIn K mainGlobals "reversed" = some none) (z_sum : PySem.W.nsIn K mainGlobals "sum" = some none) (z_any : PySem.W.nsIn K mainGlobals "any" = some none) (z_enumerate : PySem.W.nsIn K mainGlobals "enumerate" = some none) :
    ∃ fd : FuncData, (∀ (s : Shared) (v : Value), BindsTo s fd ⟨[v], []⟩ [("_law_script", v)]) ∧ ∀ base : Heap, K.In base → base.Ns mainGlobals mg → FnOk l.prog w K mg base CX0 22 fa fd ["_law_script"] (sp_law K) := by
  have e := hfa.symm.trans (PySem.W.mg_of X G a_law)
  cases e
  have F_is_whole := fun_mk (st := s_is_whole) l_is_whole c_is_whole k_is_whole
  have b_is_whole := F_is_whole.binds (ps := ["value"]) fun _ _ _ _ _ _ us hl => (by obtain ⟨_, rfl⟩ := len1 hl; rfl)
  have F_is_place := fun_mk (st := s_is_place) l_is_place c_is_place k_is_place
  have b_is_place := F_is_place.binds (ps := ["text", "place"]) fun _ _ _ _ _ _ us hl => (by obtain ⟨_, _, rfl⟩ := len2 hl; rfl)
  have F_is_row := fun_mk (st := s_is_row) l_is_row c_is_row k_is_row
  have b_is_row := F_is_row.binds (ps := ["text", "row"]) fun _ _ _ _ _ _ us hl => (by obtain ⟨_, _, rfl⟩ := len2 hl; rfl)
  have F_check_place := fun_mk (st := s_check_place) l_check_place c_check_place k_check_place
  have b_check_place := F_check_place.binds (ps := ["text", "place"]) fun _ _ _ _ _ _ us hl => (by obtain ⟨_, _, rfl⟩ := len2 hl; rfl)
  have F_check_row := fun_mk (st := s_check_row) l_check_row c_check_row k_check_row
  have b_check_row := F_check_row.binds (ps := ["text", "row"]) fun _ _ _ _ _ _ us hl => (by obtain ⟨_, _, rfl⟩ := len2 hl; rfl)
  have F_row_count := fun_mk (st := s_row_count) l_row_count c_row_count k_row_count
  have b_row_count := F_row_count.binds (ps := ["text"]) fun _ _ _ _ _ _ us hl => (by obtain ⟨_, rfl⟩ := len1 hl; rfl)
  have F_row_of := fun_mk (st := s_row_of) l_row_of c_row_of k_row_of
  have b_row_of := F_row_of.binds (ps := ["text", "place"]) fun _ _ _ _ _ _ us hl => (by obtain ⟨_, _, rfl⟩ := len2 hl; rfl)
  have F_column_of := fun_mk (st := s_column_of) l_column_of c_column_of k_column_of
  have b_column_of := F_column_of.binds (ps := ["text", "place"]) fun _ _ _ _ _ _ us hl => (by obtain ⟨_, _, rfl⟩ := len2 hl; rfl)
  have F_begin_of := fun_mk (st := s_begin_of) l_begin_of c_begin_of k_begin_of
  have b_begin_of := F_begin_of.binds (ps := ["text", "row"]) fun _ _ _ _ _ _ us hl => (by obtain ⟨_, _, rfl⟩ := len2 hl; rfl)
  have F_end_of := fun_mk (st := s_end_of) l_end_of c_end_of k_end_of
  have b_end_of := F_end_of.binds (ps := ["text", "row"]) fun _ _ _ _ _ _ us hl => (by obtain ⟨_, _, rfl⟩ := len2 hl; rfl)
  have F_place_of := fun_mk (st := s_place_of) l_place_of c_place_of k_place_of
  have b_place_of := F_place_of.binds (ps := ["text", "row", "column"]) fun _ _ _ _ _ _ us hl => (by obtain ⟨_, _, _, rfl⟩ := len3 hl; rfl)
  have F_changing := fun_mk (st := s_changing) l_changing c_changing k_changing
  have b_changing := F_changing.binds (ps := ["splices"]) fun _ _ _ _ _ _ us hl => (by obtain ⟨_, rfl⟩ := len1 hl; rfl)
  have F_too_long := fun_mk (st := s_too_long) l_too_long c_too_long k_too_long
  have b_too_long := F_too_long.binds (ps := ["text", "splices"]) fun _ _ _ _ _ _ us hl => (by obtain ⟨_, _, rfl⟩ := len2 hl; rfl)
  have F_bounded := fun_mk (st := s_bounded) l_bounded c_bounded k_bounded
  have b_bounded := F_bounded.binds (ps := ["text", "splices", "place"]) fun _ _ _ _ _ _ us hl => (by obtain ⟨_, _, _, rfl⟩ := len3 hl; rfl)
  have F_typed_in := funD_mk (st := s_typed_in) l_typed_in c_typed_in k_typed_in
  have b_typed_in_0 : Binds K _ ["text", "place", "typed", "count"] [] := fun s us X hl => match us, (show us.length = 4 by simpa using hl) with | [_, _, _, _], _ => PySem.W.binds_K (fd := PySem.W.fnOf "typed_in" "typed_in" (defArgs s_typed_in) (defBody s_typed_in) (defScope s_typed_in) (.ref dT_typed_in) kV_typed_in dc_typed_in pm_typed_in an_typed_in cd_typed_in ct_typed_in) X rfl dl_typed_in rfl rfl rfl
  have b_typed_in_1 : Binds K _ ["text", "place", "typed", "count"] [.int 1 dt_typed_in_0] := fun s us X hl => match us, (show us.length = 3 by simpa using hl) with | [_, _, _], _ => PySem.W.binds_K (fd := PySem.W.fnOf "typed_in" "typed_in" (defArgs s_typed_in) (defBody s_typed_in) (defScope s_typed_in) (.ref dT_typed_in) kV_typed_in dc_typed_in pm_typed_in an_typed_in cd_typed_in ct_typed_in) X rfl dl_typed_in rfl rfl rfl
  have F_laid_rows := fun_mk (st := s_laid_rows) l_laid_rows c_laid_rows k_laid_rows
  have b_laid_rows := F_laid_rows.binds (ps := ["text", "place", "signs", "count"]) fun _ _ _ _ _ _ us hl => (by obtain ⟨_, _, _, _, rfl⟩ := len4 hl; rfl)
  have F_laid_in_row := fun_mk (st := s_laid_in_row) l_laid_in_row c_laid_in_row k_laid_in_row
  have b_laid_in_row := F_laid_in_row.binds (ps := ["text", "row", "column", "put"]) fun _ _ _ _ _ _ us hl => (by obtain ⟨_, _, _, _, rfl⟩ := len4 hl; rfl)
  have F_laid_block := fun_mk (st := s_laid_block) l_laid_block c_laid_block k_laid_block
  have b_laid_block := F_laid_block.binds (ps := ["text", "place", "texts", "count"]) fun _ _ _ _ _ _ us hl => (by obtain ⟨_, _, _, _, rfl⟩ := len4 hl; rfl)
  have F_laid := funD_mk (st := s_laid) l_laid c_laid k_laid
  have b_laid_0 : Binds K _ ["text", "place", "held", "count"] [] := fun s us X hl => match us, (show us.length = 4 by simpa using hl) with | [_, _, _, _], _ => PySem.W.binds_K (fd := PySem.W.fnOf "laid" "laid" (defArgs s_laid) (defBody s_laid) (defScope s_laid) (.ref dT_laid) kV_laid dc_laid pm_laid an_laid cd_laid ct_laid) X rfl dl_laid rfl rfl rfl
  have b_laid_1 : Binds K _ ["text", "place", "held", "count"] [.int 1 dt_laid_0] := fun s us X hl => match us, (show us.length = 3 by simpa using hl) with | [_, _, _], _ => PySem.W.binds_K (fd := PySem.W.fnOf "laid" "laid" (defArgs s_laid) (defBody s_laid) (defScope s_laid) (.ref dT_laid) kV_laid dc_laid pm_laid an_laid cd_laid ct_laid) X rfl dl_laid rfl rfl rfl
  have F__law_cell_at := fun_mk (st := s__law_cell_at) l__law_cell_at c__law_cell_at k__law_cell_at
  have b__law_cell_at := F__law_cell_at.binds (ps := ["_law_script", "_law_k"]) fun _ _ _ _ _ _ us hl => (by obtain ⟨_, _, rfl⟩ := len2 hl; rfl)
  have F__law_whole := fun_mk (st := s__law_whole) l__law_whole c__law_whole k__law_whole
  have b__law_whole := F__law_whole.binds (ps := ["_law_found"]) fun _ _ _ _ _ _ us hl => (by obtain ⟨_, rfl⟩ := len1 hl; rfl)
  have F__law_sign := fun_mk (st := s__law_sign) l__law_sign c__law_sign k__law_sign
  have b__law_sign := F__law_sign.binds (ps := ["_law_number"]) fun _ _ _ _ _ _ us hl => (by obtain ⟨_, rfl⟩ := len1 hl; rfl)
  have F__law_text := fun_mk (st := s__law_text) l__law_text c__law_text k__law_text
  have b__law_text := F__law_text.binds (ps := ["_law_script"]) fun _ _ _ _ _ _ us hl => (by obtain ⟨_, rfl⟩ := len1 hl; rfl)
  have F__law_splices := fun_mk (st := s__law_splices) l__law_splices c__law_splices k__law_splices
  have b__law_splices := F__law_splices.binds (ps := ["_law_found", "_law_due_here"]) fun _ _ _ _ _ _ us hl => (by obtain ⟨_, _, rfl⟩ := len2 hl; rfl)
  have F__law_told := fun_mk (st := s__law_told) l__law_told c__law_told k__law_told
  have b__law_told := F__law_told.binds (ps := ["_law_found", "_law_splices_here", "_law_place"]) fun _ _ _ _ _ _ us hl => (by obtain ⟨_, _, _, rfl⟩ := len3 hl; rfl)
  have F__law_at := fun_mk (st := s__law_at) l__law_at c__law_at k__law_at
  have b__law_at := F__law_at.binds (ps := ["_law_rows", "_law_place"]) fun _ _ _ _ _ _ us hl => (by obtain ⟨_, _, rfl⟩ := len2 hl; rfl)
  have F__law_block := fun_mk (st := s__law_block) l__law_block c__law_block k__law_block
  have b__law_block := F__law_block.binds (ps := ["_law_number"]) fun _ _ _ _ _ _ us hl => (by obtain ⟨_, rfl⟩ := len1 hl; rfl)
  have F__law_due := fun_mk (st := s__law_due) l__law_due c__law_due k__law_due
  have b__law_due := F__law_due.binds (ps := ["_law_text_here", "_law_rows", "_law_place", "_law_texts", "_law_count"]) fun _ _ _ _ _ _ us hl => (by obtain ⟨_, _, _, _, _, rfl⟩ := len5 hl; rfl)
  have F__law_walked := fun_mk (st := s__law_walked) l__law_walked c__law_walked k__law_walked
  have b__law_walked := F__law_walked.binds (ps := ["_law_text_here", "_law_splices_here"]) fun _ _ _ _ _ _ us hl => (by obtain ⟨_, _, rfl⟩ := len2 hl; rfl)
  have F__law_good := fun_mk (st := s__law_good) l__law_good c__law_good k__law_good
  have b__law_good := F__law_good.binds (ps := ["_law_text_here", "_law_rows", "_law_place", "_law_number"]) fun _ _ _ _ _ _ us hl => (by obtain ⟨_, _, _, _, rfl⟩ := len4 hl; rfl)
  have F_law := fun_mk (st := s_law) l_law c_law k_law
  have b_law := F_law.binds (ps := ["_law_script"]) fun _ _ _ _ _ _ us hl => (by obtain ⟨_, rfl⟩ := len1 hl; rfl)

  have m := fun (x : Str) (z : PySem.W.nsIn K mainGlobals x = some none) => PySem.W.mg_none_of X G z
  have ml := m _ z_len
  have mr := m _ z_range
  refine ⟨PySem.W.fnOf "law" "law" (defArgs s_law) (defBody s_law) (defScope s_law) .none kV_law dc_law pm_law an_law cd_law ct_law, fun s v => .of_eq rfl, fun base _ _ => ?_⟩
  have Oiw : Own l.prog w K mg base CX0 1 "is_whole" ["value"] sp_whole := ⟨_, _, ok_is_whole F_is_whole (m _ z_isinstance) (m _ z_int) (m _ z_bool), b_is_whole, k_is_whole, PySem.W.mg_of X G a_is_whole⟩
  have Oip : Own l.prog w K mg base CX0 2 "is_place" ["text", "place"] sp_is_place := ⟨_, _, ok_is_place F_is_place Oiw ml, b_is_place, k_is_place, PySem.W.mg_of X G a_is_place⟩
  have Orc : Own l.prog w K mg base CX0 1 "row_count" ["text"] sp_row_count := ⟨_, _, ok_row_count F_row_count, b_row_count, k_row_count, PySem.W.mg_of X G a_row_count⟩
  have Oir : Own l.prog w K mg base CX0 2 "is_row" ["text", "row"] sp_is_row := ⟨_, _, ok_is_row F_is_row Oiw Orc, b_is_row, k_is_row, PySem.W.mg_of X G a_is_row⟩
  have Ocp : Own l.prog w K mg base CX0 3 "check_place" ["text", "place"] sp_chk_p := ⟨_, _, ok_chk_p F_check_place Oip, b_check_place, k_check_place, PySem.W.mg_of X G a_check_place⟩
  have Ocr : Own l.prog w K mg base CX0 3 "check_row" ["text", "row"] sp_chk_r := ⟨_, _, ok_chk_r F_check_row Oir, b_check_row, k_check_row, PySem.W.mg_of X G a_check_row⟩
  have Iro : Own l.prog w K mg base CX0 4 "row_of" ["text", "place"] sp_row_in := ⟨_, _, ok_row_of F_row_of Ocp, b_row_of, k_row_of, PySem.W.mg_of X G a_row_of⟩
  have Ibg : Own l.prog w K mg base CX0 4 "begin_of" ["text", "row"] sp_beg_in := ⟨_, _, ok_begin_of F_begin_of Ocr ml, b_begin_of, k_begin_of, PySem.W.mg_of X G a_begin_of⟩
  have Ien : Own l.prog w K mg base CX0 5 "end_of" ["text", "row"] sp_end_in := ⟨_, _, ok_end_of F_end_of Ibg ml, b_end_of, k_end_of, PySem.W.mg_of X G a_end_of⟩

  have Ico : Own l.prog w K mg base CX0 4 "column_of" ["text", "place"] sp_col_in := ⟨_, _, ok_column_of F_column_of Ocp, b_column_of, k_column_of, PySem.W.mg_of X G a_column_of⟩
  have Ipo : Own l.prog w K mg base CX0 6 "place_of" ["text", "row", "column"] sp_plc_in := ⟨_, _, ok_place_of F_place_of Ibg Ien (m _ z_min), b_place_of, k_place_of, PySem.W.mg_of X G a_place_of⟩
  have Och : Own l.prog w K mg base CX0 1 "changing" ["splices"] sp_changing := ⟨_, _, ok_changing F_changing , b_changing, k_changing, PySem.W.mg_of X G a_changing⟩
  have Otl : Own l.prog w K mg base CX0 1 "too_long" ["text", "splices"] sp_toolong := ⟨_, _, ok_toolong F_too_long (PySem.W.mg_of X G g_MOST_SIGNS) ml (m _ z_sum), b_too_long, k_too_long, PySem.W.mg_of X G a_too_long⟩
  have Obd : Own l.prog w K mg base CX0 2 "bounded" ["text", "splices", "place"] sp_bounded := ⟨_, _, ok_bounded F_bounded Och Otl, b_bounded, k_bounded, PySem.W.mg_of X G a_bounded⟩
  have Oli : Own l.prog w K mg base CX0 7 "laid_in_row" ["text", "row", "column", "put"] sp_lir := ⟨_, _, ok_lir F_laid_in_row Ipo Ico, b_laid_in_row, k_laid_in_row, PySem.W.mg_of X G a_laid_in_row⟩
  have Olb : Own l.prog w K mg base CX0 8 "laid_block" ["text", "place", "texts", "count"] sp_lblk := ⟨_, _, ok_lblk F_laid_block Obd Iro Ico Orc Oli ml (m _ z_max) (m _ z_enumerate), b_laid_block, k_laid_block, PySem.W.mg_of X G a_laid_block⟩
  have Fla := ok_laidB (P := l.prog) (w := w) (mg := mg) (base := base) F_laid Olb ⟨_, _, fn_false, b_laid_rows, k_laid_rows, PySem.W.mg_of X G a_laid_rows⟩ ⟨_, _, fn_false, b_typed_in_0, k_typed_in, PySem.W.mg_of X G a_typed_in⟩ (m _ z_any)
  have Ola : Own l.prog w K mg base CX0 20 "laid" ["text", "place", "held", "count"] sp_laidB := ⟨_, _, Fla, b_laid_0, k_laid, PySem.W.mg_of X G a_laid⟩
  have Ola1 : OwnD l.prog w K mg base CX0 20 "laid" ["text", "place", "held", "count"] sp_laidB [.int 1] := ⟨_, _, _, Fla, b_laid_1, .cons ⟨_, rfl⟩ .nil, k_laid, PySem.W.mg_of X G a_laid⟩
  have Oce : Own l.prog w K mg base CX0 1 "_law_cell_at" ["_law_script", "_law_k"] (sp_cell K) := ⟨_, _, ok_cell F__law_cell_at ml, b__law_cell_at, k__law_cell_at, PySem.W.mg_of X G a__law_cell_at⟩
  have Osn : Own l.prog w K mg base CX0 1 "_law_sign" ["_law_number"] sp_sign := ⟨_, _, ok_sign F__law_sign , b__law_sign, k__law_sign, PySem.W.mg_of X G a__law_sign⟩
  have Otx : Own l.prog w K mg base CX0 2 "_law_text" ["_law_script"] (sp_text2 K) := ⟨_, _, ok_text2 F__law_text Oce Osn ml, b__law_text, k__law_text, PySem.W.mg_of X G a__law_text⟩
  have Olw : Own l.prog w K mg base CX0 1 "_law_whole" ["_law_found"] sp_lwhole := ⟨_, _, ok_lwhole F__law_whole (m _ z_isinstance) (m _ z_int) (m _ z_bool), b__law_whole, k__law_whole, PySem.W.mg_of X G a__law_whole⟩
  have Ols : Own l.prog w K mg base CX0 2 "_law_splices" ["_law_found", "_law_due_here"] sp_lsplices := ⟨_, _, ok_lsplices F__law_splices Olw ml (m _ z_isinstance) (m _ z_str) (m _ z_tuple) (m _ z_list), b__law_splices, k__law_splices, PySem.W.mg_of X G a__law_splices⟩
  have Old : Own l.prog w K mg base CX0 3 "_law_told" ["_law_found", "_law_splices_here", "_law_place"] sp_told3 := ⟨_, _, ok_told3 F__law_told Olw Ols ml (m _ z_isinstance) (m _ z_tuple), b__law_told, k__law_told, PySem.W.mg_of X G a__law_told⟩
  have Oat : Own l.prog w K mg base CX0 1 "_law_at" ["_law_rows", "_law_place"] sp_at := ⟨_, _, ok_at F__law_at ml, b__law_at, k__law_at, PySem.W.mg_of X G a__law_at⟩
  have Obk : Own l.prog w K mg base CX0 2 "_law_block" ["_law_number"] sp_lblock := ⟨_, _, ok_lblock F__law_block Osn ml mr, b__law_block, k__law_block, PySem.W.mg_of X G a__law_block⟩
  have Odu : Own l.prog w K mg base CX0 2 "_law_due" ["_law_text_here", "_law_rows", "_law_place", "_law_texts", "_law_count"] sp_due39 := ⟨_, _, ok_due39 F__law_due Oat ml (m _ z_min) (m _ z_max) (m _ z_list) mr, b__law_due, k__law_due, PySem.W.mg_of X G a__law_due⟩
  have Owk : Own l.prog w K mg base CX0 1 "_law_walked" ["_law_text_here", "_law_splices_here"] sp_walked := ⟨_, _, ok_walked F__law_walked ml, b__law_walked, k__law_walked, PySem.W.mg_of X G a__law_walked⟩
  exact ok_law F_law Otx Oce ⟨_, _, ok_lgood F__law_good Obk Odu Owk Old Ola Ola1 ml (m _ z_list), b__law_good, k__law_good, PySem.W.mg_of X G a__law_good⟩ ml (m _ z_max)
theorem walk {l : PySem.W.OpenLaw} {q : Program} {loose : List Str} {XP : (Str → Option Value) → Heap → Prop} {YP : World → Heap → Prop} {d : DefRec} {K : Params → PySem.W.Frag} (hn : l.most = some 63) (hdf : d.params.defaults = [])
    (hY : ∀ (w : World) (h : Heap), YP w h → (K w.params).In h)
    (F : ∀ (w : World) (mg : Str → Option Value) (fa : Addr) (h : Heap), (K w.params).In h → h.Ns mainGlobals mg → mg d.name = some (.ref fa) →
      ∃ fd : FuncData, (∀ (s : Shared) (u : Value), BindsTo s fd ⟨[u], []⟩ [("_law_script", u)]) ∧ ∀ base : Heap, (K w.params).In base → base.Ns mainGlobals mg → FnOk l.prog w (K w.params) mg base CX0 22 fa fd ["_law_script"] (sp_law (K w.params))) :
    PySem.W.WalkO q loose XP YP l.row.toRowW d [] (fun f vs => PySem.call f vs) :=
  L2.walk_of (n := 63) (k := 22) (x := "_law_script") (CX := fun _ => CX0) (sp := fun w => sp_law (K w.params)) hn (by decide) hdf ⟨rfl, by decide, by decide⟩ hY F (fun _ _ a ns hl _ hS => ⟨a, ns, rfl, hS, hl, fun _ => rfl⟩) fun _ _ _ _ _ z => z
end My
open PySem PySem.W PyProof.Rows
def PySem.W.Fast.tw14170050129727296608 : Nat := 0
def PySem.W.Fast.tw8451871112268912736 : Nat := 0
def PySem.W.Fast.tw10045168444675578112 : Nat := 0
def PySem.W.Fast.tw13899709597898280192 : Nat := 0
def PySem.W.Fast.tw3704163239299155264 : Nat := 0
def PySem.W.Fast.tw5946439534829914496 : Nat := 0
def PySem.W.Fast.tw13244955830128947808 : Nat := 0
def PySem.W.Fast.tw4257856459981557440 : Nat := 0
def PySem.W.Fast.tw13192394971202674656 : Nat := 0
def PySem.W.Fast.tw7871521940402141249 : Nat := 0
def PySem.W.Fast.tw9789593612247116929 : Nat := 0
def PySem.W.Fast.tw1618667516414960769 : Nat := 0
def PySem.W.Fast.tw10996452083815790849 : Nat := 0
def PySem.W.Fast.tw14337757518919398785 : Nat := 0
def PySem.W.Fast.tw9206689444417736129 : Nat := 0
def PySem.W.Fast.tw13997836086769872321 : Nat := 0
def PySem.W.Fast.tw14772278155784482337 : Nat := 0
def PySem.W.Fast.tw18350198885327750689 : Nat := 0
def PySem.W.Fast.tw16820607779049097793 : Nat := 0
def PySem.W.Fast.tw16507697774024026753 : Nat := 0
def PySem.W.Fast.tw18000994989289573057 : Nat := 0
def PySem.W.Fast.tw17187963199045065441 : Nat := 0
def PySem.W.Fast.tw16403326146734850849 : Nat := 0
def PySem.W.Fast.tw10638953893166185377 : Nat := 0
def PySem.W.Fast.tw1346080012272756641 : Nat := 0
def PySem.W.Fast.tw17600071705383986210 : Nat := 0
def PySem.W.Fast.tw8462635770871645378 : Nat := 0
def PySem.W.Fast.tw10294108763903977762 : Nat := 0
def PySem.W.Fast.tw4097072272860226978 : Nat := 0
def PySem.W.Fast.tw1048144584037557858 : Nat := 0
def PySem.W.Fast.tw12306665269473073794 : Nat := 0
def PySem.W.Fast.tw6871650099235522 : Nat := 0
def PySem.W.Fast.tw1725057182713335586 : Nat := 0
def PySem.W.Fast.tw6266143467014318914 : Nat := 0
def PySem.W.Fast.tw11228185786080555906 : Nat := 0
def PySem.W.Fast.tw11736574149412474786 : Nat := 0
def PySem.W.Fast.tw2548062942759077794 : Nat := 0
def PySem.W.Fast.tw8121906956371394530 : Nat := 0
def PySem.W.Fast.tw4899858895784614915 : Nat := 0
def PySem.W.Fast.tw9892960964436511907 : Nat := 0
def PySem.W.Fast.tw17240580328302163267 : Nat := 0
def PySem.W.Fast.tw2558531821829488003 : Nat := 0
def PySem.W.Fast.tw16686802980066181635 : Nat := 0
def PySem.W.Fast.tw3082890750119693091 : Nat := 0
def PySem.W.Fast.tw10236160968738481059 : Nat := 0
def PySem.W.Fast.tw5952351204068099236 : Nat := 0
def PySem.W.Fast.tw8471533077586088228 : Nat := 0
def PySem.W.Fast.tw6967849629549845892 : Nat := 0
def PySem.W.Fast.tw7255741127198472676 : Nat := 0
def PySem.W.Fast.tw1107414150625871364 : Nat := 0
def PySem.W.Fast.tw5829326203309098660 : Nat := 0
def PySem.W.Fast.tw12450933158068167492 : Nat := 0
def PySem.W.Fast.tw7251896034657724292 : Nat := 0
def PySem.W.Fast.tw165435375210186628 : Nat := 0
def PySem.W.Fast.tw3445032232822012069 : Nat := 0
def PySem.W.Fast.tw18366702882896992549 : Nat := 0
def PySem.W.Fast.tw11426092298617039205 : Nat := 0
def PySem.W.Fast.tw14747210981793013541 : Nat := 0
def PySem.W.Fast.tw1801670427813551238 : Nat := 0
def PySem.W.Fast.tw13645283989189997734 : Nat := 0
def PySem.W.Fast.tw12271501109700410694 : Nat := 0
def PySem.W.Fast.tw16283704298004828550 : Nat := 0
def PySem.W.Fast.tw8027153747201701350 : Nat := 0
def PySem.W.Fast.tw3041642285719726598 : Nat := 0
def PySem.W.Fast.tw44688719254092326 : Nat := 0
def PySem.W.Fast.tw3628128253263615558 : Nat := 0
def PySem.W.Fast.tw14421645965694988134 : Nat := 0
def PySem.W.Fast.tw14682656041664007175 : Nat := 0
def PySem.W.Fast.tw1425862697882659943 : Nat := 0
def PySem.W.Fast.tw1013422659617024167 : Nat := 0
def PySem.W.Fast.tw4233582647004527847 : Nat := 0
def PySem.W.Fast.tw2138959002156403975 : Nat := 0
def PySem.W.Fast.tw16305158632542908775 : Nat := 0
def PySem.W.Fast.tw5119895414219250215 : Nat := 0
def PySem.W.Fast.tw7477535093423424135 : Nat := 0
def PySem.W.Fast.tw8720554100343605991 : Nat := 0
def PySem.W.Fast.tw639960333527795495 : Nat := 0
def PySem.W.Fast.tw10551176033632452455 : Nat := 0
def PySem.W.Fast.tw12144140418649285511 : Nat := 0
def PySem.W.Fast.tw14691856552652403623 : Nat := 0
def PySem.W.Fast.tw18207148582441192552 : Nat := 0
def PySem.W.Fast.tw8723435125236314248 : Nat := 0
def PySem.W.Fast.tw6681454405616212328 : Nat := 0
def PySem.W.Fast.tw2437003008422301448 : Nat := 0
def PySem.W.Fast.tw5900219611713331048 : Nat := 0
def PySem.W.Fast.tw15950957153503303592 : Nat := 0
def PySem.W.Fast.tw10814405196296943625 : Nat := 0
def PySem.W.Fast.tw9881034215641692169 : Nat := 0
def PySem.W.Fast.tw13496495225062423657 : Nat := 0
def PySem.W.Fast.tw14912143349656357257 : Nat := 0
def PySem.W.Fast.tw11016038175020838281 : Nat := 0
def PySem.W.Fast.tw11441642898350447049 : Nat := 0
def PySem.W.Fast.tw6248146898483746345 : Nat := 0
def PySem.W.Fast.tw15247546281872927529 : Nat := 0
def PySem.W.Fast.tw8014720905672937289 : Nat := 0
def PySem.W.Fast.tw14171905929054814185 : Nat := 0
def PySem.W.Fast.tw4733142146523072586 : Nat := 0
def PySem.W.Fast.tw4211902853352763914 : Nat := 0
def PySem.W.Fast.tw17520428892156991018 : Nat := 0
def PySem.W.Fast.tw15268707978404215402 : Nat := 0
def PySem.W.Fast.tw4336620577504618186 : Nat := 0
def PySem.W.Fast.tw8772557205060333643 : Nat := 0
def PySem.W.Fast.tw2253554677862382987 : Nat := 0
def PySem.W.Fast.tw5630989978745112235 : Nat := 0
def PySem.W.Fast.tw10993202613664553643 : Nat := 0
def PySem.W.Fast.tw8395153868616060875 : Nat := 0
def PySem.W.Fast.tw1389491227909377036 : Nat := 0
def PySem.W.Fast.tw5027017809347190956 : Nat := 0
def PySem.W.Fast.tw2813511229906755884 : Nat := 0
def PySem.W.Fast.tw7403587140463512972 : Nat := 0
def PySem.W.Fast.tw976229345318222284 : Nat := 0
def PySem.W.Fast.tw98032278687117868 : Nat := 0
def PySem.W.Fast.tw9452510723889381132 : Nat := 0
def PySem.W.Fast.tw951984309330689900 : Nat := 0
def PySem.W.Fast.tw2158661130298612620 : Nat := 0
def PySem.W.Fast.tw11283386243962481773 : Nat := 0
def PySem.W.Fast.tw6317849467308051597 : Nat := 0
def PySem.W.Fast.tw15788149655723524237 : Nat := 0
def PySem.W.Fast.tw9112329124990374061 : Nat := 0
def PySem.W.Fast.tw13577405729972487597 : Nat := 0
def PySem.W.Fast.tw13621907188068651629 : Nat := 0
def PySem.W.Fast.tw9819296569671265037 : Nat := 0
def PySem.W.Fast.tw275549409206695757 : Nat := 0
def PySem.W.Fast.tw14462151782737451917 : Nat := 0
def PySem.W.Fast.tw6484180894911980461 : Nat := 0
def PySem.W.Fast.tw2574061205270226893 : Nat := 0
def PySem.W.Fast.tw5095946244585060462 : Nat := 0
def PySem.W.Fast.tw3219421897445939662 : Nat := 0
def PySem.W.Fast.tw13636855875856257774 : Nat := 0
def PySem.W.Fast.tw3125307930761342830 : Nat := 0
def PySem.W.Fast.tw17963271123801796462 : Nat := 0
def PySem.W.Fast.tw9793757932106574798 : Nat := 0
def PySem.W.Fast.tw11872433817209399343 : Nat := 0
def PySem.W.Fast.tw8462504272991796623 : Nat := 0
def PySem.W.Fast.tw14576933332929612303 : Nat := 0
def PySem.W.Fast.tw3359235783979395855 : Nat := 0
def PySem.W.Fast.tw13218813153971278671 : Nat := 0
def PySem.W.Fast.tw4761421152773562480 : Nat := 0
def PySem.W.Fast.tw4592857726077532368 : Nat := 0
def PySem.W.Fast.tw17655464002053930256 : Nat := 0
def PySem.W.Fast.tw9975101392847654192 : Nat := 0
def PySem.W.Fast.tw7938431696332218736 : Nat := 0
def PySem.W.Fast.tw15938894416494798256 : Nat := 0
def PySem.W.Fast.tw14134340318811406800 : Nat := 0
def PySem.W.Fast.tw6800834565314736656 : Nat := 0
def PySem.W.Fast.tw1362977204247293584 : Nat := 0
def PySem.W.Fast.tw1619784549509978768 : Nat := 0
def PySem.W.Fast.tw8890412112744689328 : Nat := 0
def PySem.W.Fast.tw3652562979610377936 : Nat := 0
def PySem.W.Fast.tw18152303010382400464 : Nat := 0
def PySem.W.Fast.tw15460052078319355057 : Nat := 0
def PySem.W.Fast.tw1207130588441983345 : Nat := 0
def PySem.W.Fast.tw17623599580305217105 : Nat := 0
def PySem.W.Fast.tw11167209331420552113 : Nat := 0
def PySem.W.Fast.tw2828316591046556625 : Nat := 0
def PySem.W.Fast.tw2811026189102343314 : Nat := 0
def PySem.W.Fast.tw4351881813140483314 : Nat := 0
def PySem.W.Fast.tw4186766516197949938 : Nat := 0
def PySem.W.Fast.tw5095326599688525394 : Nat := 0
def PySem.W.Fast.tw1489419902467289906 : Nat := 0
def PySem.W.Fast.tw49101767513925458 : Nat := 0
def PySem.W.Fast.tw10687047504140063027 : Nat := 0
def PySem.W.Fast.tw7763020888684417363 : Nat := 0
def PySem.W.Fast.tw15212944171976281523 : Nat := 0
def PySem.W.Fast.tw674476943229335059 : Nat := 0
def PySem.W.Fast.tw11004718014623688211 : Nat := 0
def PySem.W.Fast.tw4153272144656314003 : Nat := 0
def PySem.W.Fast.tw13171858952921482963 : Nat := 0
def PySem.W.Fast.tw3494733554783055699 : Nat := 0
def PySem.W.Fast.tw4861251161415314291 : Nat := 0
def PySem.W.Fast.tw6683395433543102323 : Nat := 0
def PySem.W.Fast.tw10740246499153525651 : Nat := 0
def PySem.W.Fast.tw11358874084199522227 : Nat := 0
def PySem.W.Fast.tw11433468662805100724 : Nat := 0
def PySem.W.Fast.tw6582186719863817492 : Nat := 0
def PySem.W.Fast.tw12030916684693526996 : Nat := 0
def PySem.W.Fast.tw7480582231488307796 : Nat := 0
def PySem.W.Fast.tw426352997190961076 : Nat := 0
def PySem.W.Fast.tw3403806969574391764 : Nat := 0
def PySem.W.Fast.tw11111341193976734933 : Nat := 0
def PySem.W.Fast.tw7058666490917274133 : Nat := 0
def PySem.W.Fast.tw6974049484889778709 : Nat := 0
def PySem.W.Fast.tw10709174418685558421 : Nat := 0
def PySem.W.Fast.tw2362614695015743317 : Nat := 0
def PySem.W.Fast.tw7969592162641340630 : Nat := 0
def PySem.W.Fast.tw7522781259346266358 : Nat := 0
def PySem.W.Fast.tw43675851015529974 : Nat := 0
def PySem.W.Fast.tw1213454332781917814 : Nat := 0
def PySem.W.Fast.tw11196354396274215574 : Nat := 0
def PySem.W.Fast.tw472346445717752694 : Nat := 0
def PySem.W.Fast.tw13442867692074117078 : Nat := 0
def PySem.W.Fast.tw10690137400597084279 : Nat := 0
def PySem.W.Fast.tw8305617013771090263 : Nat := 0
def PySem.W.Fast.tw8383795466366744151 : Nat := 0
def PySem.W.Fast.tw8953799204385924759 : Nat := 0
def PySem.W.Fast.tw13566763512277670679 : Nat := 0
def PySem.W.Fast.tw929371723483230071 : Nat := 0
def PySem.W.Fast.tw12029487546911614871 : Nat := 0
def PySem.W.Fast.tw4605665363144444823 : Nat := 0
def PySem.W.Fast.tw17442820422319229879 : Nat := 0
def PySem.W.Fast.tw17297234005480099928 : Nat := 0
def PySem.W.Fast.tw3161081129998756984 : Nat := 0
def PySem.W.Fast.tw6008144132170137752 : Nat := 0
def PySem.W.Fast.tw10967578132988041528 : Nat := 0
def PySem.W.Fast.tw17133118181214638488 : Nat := 0
def PySem.W.Fast.tw8165469924264415768 : Nat := 0
def PySem.W.Fast.tw13009785618507889240 : Nat := 0
def PySem.W.Fast.tw1986877988961719992 : Nat := 0
def PySem.W.Fast.tw904052366873778968 : Nat := 0
def PySem.W.Fast.tw13724089876194232120 : Nat := 0
def PySem.W.Fast.tw2752410279285644313 : Nat := 0
def PySem.W.Fast.tw16452523144444744761 : Nat := 0
def PySem.W.Fast.tw14302044224569107641 : Nat := 0
def PySem.W.Fast.tw14593873295859504313 : Nat := 0
def PySem.W.Fast.tw14687944809800999385 : Nat := 0
def PySem.W.Fast.tw4006027256628711001 : Nat := 0
def PySem.W.Fast.tw17285316202622581593 : Nat := 0
def PySem.W.Fast.tw14992173778548315129 : Nat := 0
def PySem.W.Fast.tw1279194955261667321 : Nat := 0
def PySem.W.Fast.tw14374712069173504026 : Nat := 0
def PySem.W.Fast.tw10190521371902360698 : Nat := 0
def PySem.W.Fast.tw11927283650118275226 : Nat := 0
def PySem.W.Fast.tw16291529804399750330 : Nat := 0
def PySem.W.Fast.tw11028579183047496250 : Nat := 0
def PySem.W.Fast.tw17740146187614794426 : Nat := 0
def PySem.W.Fast.tw11581234268830163834 : Nat := 0
def PySem.W.Fast.tw6985685092808692602 : Nat := 0
def PySem.W.Fast.tw4177774909777903610 : Nat := 0
def PySem.W.Fast.tw2568777438465337435 : Nat := 0
def PySem.W.Fast.tw12039013301879681307 : Nat := 0
def PySem.W.Fast.tw11995038242120529211 : Nat := 0
def PySem.W.Fast.tw5188536899283780923 : Nat := 0
def PySem.W.Fast.tw11524192865307124187 : Nat := 0
def PySem.W.Fast.tw12744010473508031995 : Nat := 0
def PySem.W.Fast.tw1479960688730562267 : Nat := 0
def PySem.W.Fast.tw8900807246635870011 : Nat := 0
def PySem.W.Fast.tw17667556048799181980 : Nat := 0
def PySem.W.Fast.tw16600611303864205500 : Nat := 0
def PySem.W.Fast.tw1668611462437676348 : Nat := 0
def PySem.W.Fast.tw7408330987448810844 : Nat := 0
def PySem.W.Fast.tw16218208388712666556 : Nat := 0
def PySem.W.Fast.tw6845040738379332060 : Nat := 0
def PySem.W.Fast.tw1268767818740535036 : Nat := 0
def PySem.W.Fast.tw12912926604711514908 : Nat := 0
def PySem.W.Fast.tw14551794994217677660 : Nat := 0
def PySem.W.Fast.tw11245990001317725020 : Nat := 0
def PySem.W.Fast.tw5935599616579540828 : Nat := 0
def PySem.W.Fast.tw11521194943916291197 : Nat := 0
def PySem.W.Fast.tw8565022435414141469 : Nat := 0
def PySem.W.Fast.tw14818364143779615549 : Nat := 0
def PySem.W.Fast.tw3912703223109441405 : Nat := 0
def PySem.W.Fast.tw6581959639341440893 : Nat := 0
def PySem.W.Fast.tw5494833683063703646 : Nat := 0
def PySem.W.Fast.tw11404635763728504990 : Nat := 0
def PySem.W.Fast.tw9408528311318857950 : Nat := 0
def PySem.W.Fast.tw12406234364117019998 : Nat := 0
def PySem.W.Fast.tw8309981193094647166 : Nat := 0
def PySem.W.Fast.tw16806203835447928382 : Nat := 0
def PySem.W.Fast.tw10314774571046926942 : Nat := 0
def PySem.W.Fast.tw13542561141876507294 : Nat := 0
def PySem.W.Fast.tw15037504664430362270 : Nat := 0
def PySem.W.Fast.tw5526465028545475071 : Nat := 0
def PySem.W.Fast.tw6162929767648771615 : Nat := 0
def PySem.W.Fast.tw5955208566206711423 : Nat := 0
def PySem.W.Fast.tw695395345727175455 : Nat := 0
def PySem.W.Fast.tw1103191387139953567 : Nat := 0
def PySem.W.Fast.tw4101498473564899327 : Nat := 0
def PySem.W.Fast.tw5557383328589019135 : Nat := 0
set_option maxRecDepth 100000 in
set_option maxHeartbeats 0 in
theorem PySem.Challenge.cw_modehand_k39_laid_blocks_holds : PySem.Challenge.rw_modehand_k39_laid_blocks.Holds := by
  w_on; o_law; k_head; (case hw => w_witness2)
  k_fill
  refine My.walk (l := PySem.Challenge.rw_modehand_k39_laid_blocks) rfl rfl (fun w h Y => PySem.W.kIn_of Y) ?F
  case F =>
    intro w mg fa h KX G hmg
    refine' My.all_mk KX G hmg ?a_is_whole ?l_is_whole ?c_is_whole ?k_is_whole ?a_is_place ?l_is_place ?c_is_place ?k_is_place ?a_is_row ?l_is_row ?c_is_row ?k_is_row ?a_check_place ?l_check_place ?c_check_place ?k_check_place ?a_check_row ?l_check_row ?c_check_row ?k_check_row ?a_row_count ?l_row_count ?c_row_count ?k_row_count ?a_row_of ?l_row_of ?c_row_of ?k_row_of ?a_column_of ?l_column_of ?c_column_of ?k_column_of ?a_begin_of ?l_begin_of ?c_begin_of ?k_begin_of ?a_end_of ?l_end_of ?c_end_of ?k_end_of ?a_place_of ?l_place_of ?c_place_of ?k_place_of ?a_changing ?l_changing ?c_changing ?k_changing ?a_too_long ?l_too_long ?c_too_long ?k_too_long ?a_bounded ?l_bounded ?c_bounded ?k_bounded ?dl_typed_in ?a_typed_in ?l_typed_in ?c_typed_in ?k_typed_in ?a_laid_rows ?l_laid_rows ?c_laid_rows ?k_laid_rows ?a_laid_in_row ?l_laid_in_row ?c_laid_in_row ?k_laid_in_row ?a_laid_block ?l_laid_block ?c_laid_block ?k_laid_block ?dl_laid ?a_laid ?l_laid ?c_laid ?k_laid ?a__law_cell_at ?l__law_cell_at ?c__law_cell_at ?k__law_cell_at ?a__law_whole ?l__law_whole ?c__law_whole ?k__law_whole ?a__law_sign ?l__law_sign ?c__law_sign ?k__law_sign ?a__law_text ?l__law_text ?c__law_text ?k__law_text ?a__law_splices ?l__law_splices ?c__law_splices ?k__law_splices ?a__law_told ?l__law_told ?c__law_told ?k__law_told ?a__law_at ?l__law_at ?c__law_at ?k__law_at ?a__law_block ?l__law_block ?c__law_block ?k__law_block ?a__law_due ?l__law_due ?c__law_due ?k__law_due ?a__law_walked ?l__law_walked ?c__law_walked ?k__law_walked ?a__law_good ?l__law_good ?c__law_good ?k__law_good ?a_law ?l_law ?c_law ?k_law ?g_MOST_SIGNS ?z_len ?z_range ?z_min ?z_max ?z_isinstance ?z_int ?z_bool ?z_str ?z_tuple ?z_list ?z_reversed ?z_sum ?z_any ?z_enumerate
    (case a_is_whole => k_is); (case l_is_whole => k_is); (case c_is_whole => k_is); (case k_is_whole => k_is)
    (case a_is_place => k_is); (case l_is_place => k_is); (case c_is_place => k_is); (case k_is_place => k_is)
    (case a_is_row => k_is); (case l_is_row => k_is); (case c_is_row => k_is); (case k_is_row => k_is)
    (case a_check_place => k_is); (case l_check_place => k_is); (case c_check_place => k_is); (case k_check_place => k_is)
    (case a_check_row => k_is); (case l_check_row => k_is); (case c_check_row => k_is); (case k_check_row => k_is)
    (case a_row_count => k_is); (case l_row_count => k_is); (case c_row_count => k_is); (case k_row_count => k_is)
    (case a_row_of => k_is); (case l_row_of => k_is); (case c_row_of => k_is); (case k_row_of => k_is)
    (case a_column_of => k_is); (case l_column_of => k_is); (case c_column_of => k_is); (case k_column_of => k_is)
    (case a_begin_of => k_is); (case l_begin_of => k_is); (case c_begin_of => k_is); (case k_begin_of => k_is)
    (case a_end_of => k_is); (case l_end_of => k_is); (case c_end_of => k_is); (case k_end_of => k_is)
    (case a_place_of => k_is); (case l_place_of => k_is); (case c_place_of => k_is); (case k_place_of => k_is)
    (case a_changing => k_is); (case l_changing => k_is); (case c_changing => k_is); (case k_changing => k_is)
    (case a_too_long => k_is); (case l_too_long => k_is); (case c_too_long => k_is); (case k_too_long => k_is)
    (case a_bounded => k_is); (case l_bounded => k_is); (case c_bounded => k_is); (case k_bounded => k_is)
    (case a_typed_in => k_is); (case l_typed_in => k_is); (case c_typed_in => k_is); (case k_typed_in => k_is); (case dl_typed_in => k_is)
    (case a_laid_rows => k_is); (case l_laid_rows => k_is); (case c_laid_rows => k_is); (case k_laid_rows => k_is)
    (case a_laid_in_row => k_is); (case l_laid_in_row => k_is); (case c_laid_in_row => k_is); (case k_laid_in_row => k_is)
    (case a_laid_block => k_is); (case l_laid_block => k_is); (case c_laid_block => k_is); (case k_laid_block => k_is)
    (case a_laid => k_is); (case l_laid => k_is); (case c_laid => k_is); (case k_laid => k_is); (case dl_laid => k_is)
    (case a__law_cell_at => k_is); (case l__law_cell_at => k_is); (case c__law_cell_at => k_is); (case k__law_cell_at => k_is)
    (case a__law_whole => k_is); (case l__law_whole => k_is); (case c__law_whole => k_is); (case k__law_whole => k_is)
    (case a__law_sign => k_is); (case l__law_sign => k_is); (case c__law_sign => k_is); (case k__law_sign => k_is)
    (case a__law_text => k_is); (case l__law_text => k_is); (case c__law_text => k_is); (case k__law_text => k_is)
    (case a__law_splices => k_is); (case l__law_splices => k_is); (case c__law_splices => k_is); (case k__law_splices => k_is)
    (case a__law_told => k_is); (case l__law_told => k_is); (case c__law_told => k_is); (case k__law_told => k_is)
    (case a__law_at => k_is); (case l__law_at => k_is); (case c__law_at => k_is); (case k__law_at => k_is)
    (case a__law_block => k_is); (case l__law_block => k_is); (case c__law_block => k_is); (case k__law_block => k_is)
    (case a__law_due => k_is); (case l__law_due => k_is); (case c__law_due => k_is); (case k__law_due => k_is)
    (case a__law_walked => k_is); (case l__law_walked => k_is); (case c__law_walked => k_is); (case k__law_walked => k_is)
    (case a__law_good => k_is); (case l__law_good => k_is); (case c__law_good => k_is); (case k__law_good => k_is)
    (case a_law => k_is); (case l_law => k_is); (case c_law => k_is); (case k_law => k_is)
    (case g_MOST_SIGNS => k_is); (case z_len => k_is); (case z_range => k_is); (case z_min => k_is); (case z_max => k_is); (case z_isinstance => k_is); (case z_int => k_is); (case z_bool => k_is); (case z_str => k_is); (case z_tuple => k_is); (case z_list => k_is); (case z_reversed => k_is); (case z_sum => k_is); (case z_any => k_is); (case z_enumerate => k_is)
#print axioms PySem.Challenge.cw_modehand_k39_laid_blocks_holds

