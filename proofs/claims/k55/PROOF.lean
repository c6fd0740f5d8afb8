import PyProof.Rows.All
import Wide.All
import OpenK.AllK
import Wide.FinOn
import Lean
import PyProof.EqAt
import PyProof.EqKinds
import PyProof.TupleCall
import PySem.Challenge.RW_modehand_k55_whole_tree
-- CHANGE: your row's module here, as the last of these rows
set_option Elab.async false
set_option linter.all false
set_option maxRecDepth 100000
/-! THE HAND LAYER, for ints, bools, texts, own classes, LISTS and tuples (index, slices, in, append, pop ..), calls, loops. Paste it whole ahead of your own text; what your proof does not reach may be deleted. -/
namespace L2
open PySem PySem.Spec PyProof.Rows

abbrev Key := Sum Int Str
def keyIs : Key → Value → Bool
  | .inl k, v => Value.isInt k v
  | .inr x, v => Value.isStrOf x v
def keyH (w : World) : Key → Int
  | .inl k => hashInt k
  | .inr x => hashStr w x
theorem keyIs_shape : ∀ {k : Key} {v : Value}, keyIs k v = true → (∃ i t, k = Sum.inl i ∧ v = Value.int i t) ∨ (∃ x t, k = Sum.inr x ∧ v = Value.str x t)
  | .inl i, v, h => by
    obtain ⟨t, e⟩ := Value.isInt_shape (k := i) (v := v) h
    exact .inl ⟨i, t, rfl, e⟩
  | .inr x, v, h => by
    obtain ⟨t, e⟩ := Value.isStrOf_shape (x := x) (v := v) h
    exact .inr ⟨x, t, rfl, e⟩
theorem keyIs_int (i : Int) (t : Tok) : keyIs (.inl i) (.int i t) = true := by simp [keyIs, Value.isInt]
theorem keyIs_str (x : Str) (t : Tok) : keyIs (.inr x) (.str x t) = true := by simp [keyIs, Value.isStrOf]
theorem key_ll (a b : Int) : decide ((Sum.inl a : Key) = Sum.inl b) = (a == b) := by
  by_cases e : a = b
  · subst e; simp
  · have h : ¬ (Sum.inl a : Key) = Sum.inl b := fun q => e (Sum.inl.inj q)
    rw [decide_eq_false h]
    exact (beq_eq_false_iff_ne.mpr e).symm
theorem key_rr (a b : Str) : decide ((Sum.inr a : Key) = Sum.inr b) = decide (a = b) := by
  by_cases e : a = b
  · subst e; simp
  · have h : ¬ (Sum.inr a : Key) = Sum.inr b := fun q => e (Sum.inr.inj q)
    rw [decide_eq_false h, decide_eq_false e]
theorem key_lr (a : Int) (b : Str) : decide ((Sum.inl a : Key) = Sum.inr b) = false := decide_eq_false (fun q => nomatch q)
theorem key_rl (a : Str) (b : Int) : decide ((Sum.inr a : Key) = Sum.inl b) = false := decide_eq_false (fun q => nomatch q)

def mixKind (prog : Program) (w : World) : PySem.KeyKind prog w Key where
  is := keyIs
  hash := keyH w
  inj := fun v a b ha hb => by
    rcases keyIs_shape ha with ⟨i, t, rfl, rfl⟩ | ⟨x, t, rfl, rfl⟩
    · rcases keyIs_shape hb with ⟨j, u, rfl, e⟩ | ⟨y, u, rfl, e⟩
      · injection e with e1 _; rw [e1]
      · exact nomatch e
    · rcases keyIs_shape hb with ⟨j, u, rfl, e⟩ | ⟨y, u, rfl, e⟩
      · exact nomatch e
      · injection e with e1 _; rw [e1]
  byValue := fun k v h => by
    rcases keyIs_shape h with ⟨i, t, rfl, rfl⟩ | ⟨x, t, rfl, rfl⟩ <;> rfl
  pyHash := fun hv h => by
    rcases keyIs_shape hv with ⟨i, t, rfl, rfl⟩ | ⟨x, t, rfl, rfl⟩
    · exact wpAny_pyHash_int h
    · exact wpAny_pyHash_str h
  eqBool := fun hu hv h => by
    rcases keyIs_shape hu with ⟨i, t, rfl, rfl⟩ | ⟨x, t, rfl, rfl⟩
    · rcases keyIs_shape hv with ⟨j, u, rfl, rfl⟩ | ⟨y, u, rfl, rfl⟩
      · rw [key_ll] at h; exact wpAny_eqBool_int h
      · rw [key_lr] at h; exact SeqAt.EqAt.int_str i t y u _ _ _ _ h
    · rcases keyIs_shape hv with ⟨j, u, rfl, rfl⟩ | ⟨y, u, rfl, rfl⟩
      · rw [key_rl] at h; exact SeqAt.EqAt.str_int x t j u _ _ _ _ h
      · rw [key_rr] at h; exact wpAny_eqBool_str h
  «strs» := fun k x t v h => by
    rcases keyIs_shape h with ⟨i, u, rfl, e⟩ | ⟨y, u, rfl, e⟩
    · exact nomatch e
    · injection e with e1 _
      subst e1
      cases v <;> rfl

theorem mixKind_int (prog : Program) (w : World) (i : Int) (t : Tok) : (mixKind prog w).is (.inl i) (.int i t) = true := keyIs_int i t
theorem mixKind_str (prog : Program) (w : World) (x : Str) (t : Tok) : (mixKind prog w).is (.inr x) (.str x t) = true := keyIs_str x t
end L2

namespace L2
open PySem PySem.Spec PyProof.Rows

inductive V where
  | non | bl (b : Bool) | int (i : Int) | str (x : Str) | byt (b : Array UInt8) | flt (b : UInt64) | ref (a : Addr) | ty (n : String)
  deriving DecidableEq

def RelV : V → Value → Prop
  | .non, u => u = Value.none
  | .bl b, u => u = Value.bool b
  | .int i, u => ∃ t, u = Value.int i t
  | .str x, u => ∃ t, u = Value.str x t
  | .byt b, u => ∃ t, u = Value.bytes b t
  | .flt b, u => ∃ t, u = Value.float b t
  | .ref a, u => u = Value.ref a
  | .ty n, u => u = Value.type n

abbrev Vals : List V → List Value → Prop := Paired RelV
theorem Vals.length {xs : List V} {us : List Value} (r : Vals xs us) : xs.length = us.length := Paired.length r
theorem Vals.get : ∀ {xs : List V} {us : List Value} {i : Nat} {x : V}, Vals xs us → xs[i]? = some x → ∃ u, us[i]? = some u ∧ RelV x u
  | _, _, _, _, .nil, e => by simp at e
  | _, _, 0, _, .cons r _, e => by simp at e; subst e; exact ⟨_, rfl, r⟩
  | _, _, i + 1, x, .cons _ t, e => by
    obtain ⟨u, h1, h2⟩ := Vals.get (i := i) (x := x) t (by simpa using e)
    exact ⟨u, by simpa using h1, h2⟩
theorem Vals.set {x : V} {u : Value} (r : RelV x u) : ∀ {xs : List V} {us : List Value} (i : Nat), Vals xs us → Vals (xs.set i x) (us.set i u)
  | _, _, _, .nil => .nil
  | _, _, 0, .cons _ t => .cons r t
  | _, _, i + 1, .cons q t => .cons q (Vals.set r i t)
theorem Vals.append : ∀ {xs ys : List V} {us ws : List Value}, Vals xs us → Vals ys ws → Vals (xs ++ ys) (us ++ ws)
  | _, _, _, _, .nil, s => s
  | _, _, _, _, .cons r t, s => .cons r (Vals.append t s)
def RelO : Option V → Option Value → Prop
  | some v, some u => RelV v u
  | none, none => True
  | _, _ => False
def KV {κ : Type} : List (κ × V) → List (κ × Value) → Prop := Paired fun (p : κ × V) (q : κ × Value) => p.1 = q.1 ∧ RelV p.2 q.2

def kV : Key → V
  | .inl i => .int i
  | .inr x => .str x

inductive HO where
  /-- a list -/
  | lst (xs : List V)
  /-- a tuple (never changes) -/
  | tup (xs : List V)
  /-- a dict whose keys are ints and texts; one whose keys are tuples of ints and texts (the empty one is both) -/
  | dK (kvs : List (Key × V)) | dT (kvs : List (List Key × V))
  /-- a set of ints: its members, its size -/
  | set (S : Int → Bool) (n : Nat)
  /-- an instance of the class at C, its dict at dx, its attributes -/
  | ins (C dx : Addr) (fs : List (Str × V))
  /-- the dict of the instance at x -/
  | own (x : Addr)
  /-- the dict of an exception -/
  | xd (fs : List (Str × V))
  /-- a bound method, f of x -/
  | met (f x : Addr)
  /-- a range object lo, lo + 1, .. below hi -/
  | rng (lo hi : Int)
  /-- a thing that is known to the object (the script; a dict while a loop walks it): read, never written while it is so -/
  | frz (o : Obj) (u : HO)
  /-- a code object's table -/
  | tbl (ps : Array Value)
  /-- any other thing, by what is true of its one object (a def of one's own: SetO a S n := HO.ext fun h => ..) -/
  | ext (φ : Heap → Prop)

abbrev Hp := Addr → Option HO
def upd (H : Hp) (a : Addr) (o : HO) : Hp := fun b => if b = a then some o else H b
theorem upd_same {H : Hp} {a : Addr} {o : HO} : upd H a o a = some o := by unfold upd; rw [if_pos rfl]
theorem upd_ne {H : Hp} {a b : Addr} {o : HO} (h : b ≠ a) : upd H a o b = H b := by unfold upd; rw [if_neg h]
theorem ne_of {H : Hp} {a b : Addr} {o u : HO} (h : H a = some o) (h' : H b = some u) (d : o ≠ u) : a ≠ b := by
  intro e; subst e; rw [h] at h'; exact d (Option.some.inj h')
theorem ne_of_none {H : Hp} {a b : Addr} {o : HO} (h : H a = some o) (h' : H b = none) : a ≠ b := by
  intro e; subst e; rw [h] at h'; cases h'

section
variable (P : Program) (w : World)
def ObjOk (H : Hp) (h : Heap) (a : Addr) : HO → Prop
  | .lst xs => xs.length ≤ sizeLine ∧ ∃ (its : List Value) (n : Nat), Vals xs its ∧ h.get? a = some { cls := .type "list", data := .seq its.toArray n }
  | .tup xs => xs.length ≤ sizeLine ∧ ∃ its : List Value, Vals xs its ∧ IsTup h a its.toArray
  | .dK kvs => kvs.length ≤ sizeLine ∧ (a == sysModules) = false ∧ ∃ vs, KV kvs vs ∧ h.DictOf (mixKind P w) a vs
  | .dT kvs => kvs.length ≤ sizeLine ∧ (a == sysModules) = false ∧ ∃ xs : List (List Key × Addr × Value),
      Paired (fun (p : List Key × V) (q : List Key × Addr × Value) => p.1 = q.1 ∧ H q.2.1 = some (.tup (p.1.map kV)) ∧ RelV p.2 q.2.2) kvs xs ∧
      ∃ o es ep, h.get? a = some o ∧ o.ExactDict ∧ o.data = .dict es ep ∧ es.toList = xs.map (entryOfKey (tupleKind (mixKind P w))) ∧ (xs.map (·.1)).Nodup
  | .set S n => h.SetOf (intKind P w) a S n
  | .ins C dx fs => H dx = some (.own a) ∧ fs.length ≤ 1000 ∧ dx ≠ a ∧ h.get? a = some (PySem.W.instObj C dx) ∧
      ∃ mA, h.Ns1 dx mA ∧ (∀ f, RelO (fs.lookup f) (mA f)) ∧ PySem.Within mA (fs.map (·.1))
  | .own _ => ∃ o, h.get? a = some o
  | .xd fs => ∃ mA, h.Ns1 a mA ∧ ∀ f, RelO (fs.lookup f) (mA f)
  | .rng lo hi => ∃ t u v, h.get? a = some { cls := .type "range", data := .fields #[.int lo t, .int hi u, .int 1 v] }
  | .frz o u => h.get? a = some o ∧ ObjOk H h a u
  | .tbl ps => h.get? a = some { cls := .none, data := .fields ps }
  | .met f x => h.get? a = some (PySem.W.methodObj (.ref f) (.ref x))
  | .ext φ => φ h ∧ (∃ o, h.get? a = some o) ∧ ∀ h1 h2 : Heap, φ h1 → (∀ o, h1.get? a = some o → h2.get? a = some o) → φ h2
def HOk (H : Hp) (h : Heap) : Prop := ∀ a o, H a = some o → ObjOk P w H h a o
end

section
variable {P : Program} {w : World} {H H' : Hp} {h h' : Heap} {a : Addr} {o : HO}
theorem ObjOk.lt (x : ObjOk P w H h a o) : a < h.objs.size := by
  cases o with
  | lst xs => obtain ⟨_, _, _, _, e⟩ := x; exact Heap.lt_size e
  | tup xs => obtain ⟨_, _, _, p⟩ := x; exact p.lt
  | dK kvs => obtain ⟨_, _, _, _, o, _, _, e, _⟩ := x; exact Heap.lt_size e
  | dT kvs => obtain ⟨_, _, _, _, o, _, _, e, _⟩ := x; exact Heap.lt_size e
  | set S n => obtain ⟨o, _, _, _, e, _⟩ := x; exact Heap.lt_size e
  | ins C dx fs => obtain ⟨_, _, _, e, _⟩ := x; exact Heap.lt_size e
  | own y => obtain ⟨_, e⟩ := x; exact Heap.lt_size e
  | xd fs => obtain ⟨_, ⟨_, _, _, e, _⟩, _⟩ := x; exact Heap.lt_size e
  | rng lo hi => obtain ⟨_, _, _, e⟩ := x; exact Heap.lt_size e
  | frz ob u => obtain ⟨e, _⟩ := x; exact Heap.lt_size e
  | tbl ps => exact Heap.lt_size (show h.get? a = some _ from x)
  | met f y => exact Heap.lt_size (show h.get? a = some _ from x)
  | ext φ => obtain ⟨_, ⟨_, e⟩, _⟩ := x; exact Heap.lt_size e
theorem Paired.mapP {α β : Type} {F G : α → β → Prop} : ∀ {l₁ : List α} {l₂ : List β}, Paired F l₁ l₂ → (∀ a b, F a b → G a b) → Paired G l₁ l₂
  | _, _, .nil, _ => .nil
  | _, _, .cons r t, f => .cons (f _ _ r) (Paired.mapP t f)
theorem ObjOk.stay (x : ObjOk P w H h a o) (k : ∀ b u, (b = a ∨ H b = some (.own a)) → h.get? b = some u → h'.get? b = some u)
    (ho : ∀ b, H b = some (.own a) → H' b = some (.own a)) (ht : ∀ b xs, H b = some (.tup xs) → H' b = some (.tup xs)) : ObjOk P w H' h' a o := by
  induction o with
  | lst xs => obtain ⟨z, its, n, r, e⟩ := x; exact ⟨z, its, n, r, k _ _ (.inl rfl) e⟩
  | tup xs => obtain ⟨z, its, r, ob, e, c⟩ := x; exact ⟨z, its, r, ob, k _ _ (.inl rfl) e, c⟩
  | dK kvs => obtain ⟨z, y, vs, r, ob, es, ep, e, c⟩ := x; exact ⟨z, y, vs, r, ob, es, ep, k _ _ (.inl rfl) e, c⟩
  | dT kvs =>
    obtain ⟨z, y, xs, r, ob, es, ep, e, c⟩ := x
    exact ⟨z, y, xs, Paired.mapP r fun p q z => ⟨z.1, ht _ _ z.2.1, z.2.2⟩, ob, es, ep, k _ _ (.inl rfl) e, c⟩
  | set S n => obtain ⟨ob, es, ep, t, e, c⟩ := x; exact ⟨ob, es, ep, t, k _ _ (.inl rfl) e, c⟩
  | ins C dx fs =>
    obtain ⟨d, z, ne, e, mA, ⟨od, es, ep, e2, c⟩, r⟩ := x
    exact ⟨ho _ d, z, ne, k _ _ (.inl rfl) e, mA, ⟨od, es, ep, k _ _ (.inr d) e2, c⟩, r⟩
  | own y => obtain ⟨ob, e⟩ := x; exact ⟨ob, k _ _ (.inl rfl) e⟩
  | xd fs => obtain ⟨mA, ⟨od, es, ep, e, c⟩, r⟩ := x; exact ⟨mA, ⟨od, es, ep, k _ _ (.inl rfl) e, c⟩, r⟩
  | rng lo hi => obtain ⟨t, u, v, e⟩ := x; exact ⟨t, u, v, k _ _ (.inl rfl) e⟩
  | frz ob u ih => obtain ⟨e, q⟩ := x; exact ⟨k _ _ (.inl rfl) e, ih q⟩
  | tbl ps =>
    have e : h.get? a = some { cls := .none, data := .fields ps } := x
    show h'.get? a = some { cls := .none, data := .fields ps }
    exact k a _ (.inl rfl) e
  | met f y =>
    have e : h.get? a = some (PySem.W.methodObj (.ref f) (.ref y)) := x
    show h'.get? a = some (PySem.W.methodObj (.ref f) (.ref y))
    exact k a _ (.inl rfl) e
  | ext φ => obtain ⟨p, ⟨o, e⟩, st⟩ := x; exact ⟨st _ _ p fun o q => k _ _ (.inl rfl) q, ⟨o, k _ _ (.inl rfl) e⟩, st⟩
theorem HOk.lt (x : HOk P w H h) (e : H a = some o) : a < h.objs.size := (x a o e).lt
theorem HOk.fresh (x : HOk P w H h) (e : h.objs.size ≤ a) : H a = none := by
  cases q : H a with
  | none => rfl
  | some u => exact absurd (Nat.lt_of_lt_of_le (x.lt q) e) (Nat.lt_irrefl _)
theorem HOk.kept (x : HOk P w H h) (k : ∀ b u, h.get? b = some u → h'.get? b = some u) : HOk P w H h' := fun a o e =>
  (x a o e).stay (fun b u _ q => k b u q) (fun _ q => q) fun _ _ q => q
theorem HOk.laid (x : HOk P w H h) (k : ∀ b u, h.get? b = some u → h'.get? b = some u) (hp : h.objs.size ≤ a) (new : ObjOk P w (upd H a o) h' a o) : HOk P w (upd H a o) h' := fun b u e => by
  have hn := x.fresh hp
  by_cases hb : b = a
  · subst hb; rw [upd_same] at e; cases e; exact new
  · rw [upd_ne hb] at e
    exact (x b u e).stay (fun c v _ q => k c v q) (fun c q => by rw [upd_ne (ne_of_none q hn)]; exact q) fun c xs q => by rw [upd_ne (ne_of_none q hn)]; exact q
end

def Rd (H : Hp) (a : Addr) (u : HO) : Prop := H a = some u ∨ ∃ o, H a = some (.frz o u)
theorem Rd.ok {P : Program} {w : World} {H : Hp} {h : Heap} {a : Addr} {u : HO} (r : Rd H a u) (x : HOk P w H h) : ObjOk P w H h a u := by
  rcases r with r | ⟨o, r⟩
  · exact x a u r
  · obtain ⟨_, q⟩ := x a _ r
    exact q
def Mut : Option HO → Prop
  | some (.lst _) => True
  | some (.dK _) => True
  | some (.dT _) => True
  | some (.set _ _) => True
  | some (.ins _ _ _) => True
  | some (.ext _) => True
  | _ => False
section
variable {P : Program} {w : World} {H : Hp} {h h' : Heap} {x e : Addr} {o' : HO}
theorem HOk.write (ok : HOk P w H h) (mu : Mut (H x)) (he : e = x ∨ H e = some (.own x)) (k : ∀ b u, b ≠ e → h.get? b = some u → h'.get? b = some u) (heo : ∃ u, h'.get? e = some u)
    (new : ObjOk P w (upd H x o') h' x o') : HOk P w (upd H x o') h' := fun b u q => by
  have nown : ∀ c y, H c = some (.own y) → c ≠ x := fun c y r z => by subst z; rw [r] at mu; exact mu
  have ntup : ∀ c xs, H c = some (.tup xs) → c ≠ x := fun c xs r z => by subst z; rw [r] at mu; exact mu
  by_cases hb : b = x
  · subst hb; rw [upd_same] at q; cases q; exact new
  · rw [upd_ne hb] at q
    by_cases hbe : b = e
    · have q' : H b = some (.own x) := by
        rcases he with z | z
        · exact absurd (hbe.trans z) hb
        · rw [hbe]; exact z
      rw [q] at q'; cases q'
      obtain ⟨v, hv⟩ := heo
      exact ⟨v, by rw [hbe]; exact hv⟩
    · refine (ok b u q).stay (fun c v hc r => k c v ?_ r) (fun c r => by rw [upd_ne (nown c b r)]; exact r) fun c xs r => by rw [upd_ne (ntup c xs r)]; exact r
      rcases hc with rfl | hc
      · exact hbe
      · rintro rfl
        rcases he with z | z
        · exact nown c b hc z
        · rw [hc] at z; cases z; exact hb rfl
end

/-! ### kept unless tracked; of the frames at fs (the callers') the slots may change (an exception that passes writes there); of the records at ex (iterators) nothing is said -/
structure Un (fs ex : List Addr) (H H' : Hp) (h h' : Heap) : Prop where
  keep : ∀ b o, h.get? b = some o → H b = none → b ∉ fs → b ∉ ex → h'.get? b = some o
  slot : ∀ b o, h.get? b = some o → H b = none → b ∈ fs → b ∉ ex → ∃ sl, h'.get? b = some { o with slots := sl }
  free : ∀ b o, h.get? b = some o → H b = none → b ∉ ex → H' b = none
  there : ∀ b o, h.get? b = some o → b ∉ ex → ∃ o', h'.get? b = some o'
  tups : ∀ b xs, H b = some (.tup xs) → H' b = some (.tup xs)
  frzs : ∀ b o u, H b = some (.frz o u) → H' b = some (.frz o u)
  tbls : ∀ b ps, H b = some (.tbl ps) → ∃ more, H' b = some (.tbl (ps ++ more))
section
variable {fs fs' ex ex' : List Addr} {H H1 H2 : Hp} {h h1 h2 h' : Heap} {a x e : Addr} {o : HO}
theorem Un.any (u : Un fs ex H H1 h h1) {b : Addr} {ob : Obj} (q : h.get? b = some ob) (n : H b = none) (hx : b ∉ ex) : ∃ sl, h1.get? b = some { ob with slots := sl } := by
  by_cases hb : b ∈ fs
  · exact u.slot b ob q n hb hx
  · exact ⟨ob.slots, u.keep b ob q n hb hx⟩
theorem Un.kept (k : ∀ b u, h.get? b = some u → h'.get? b = some u) : Un fs ex H H h h' :=
  ⟨fun b ob q _ _ _ => k b ob q, fun b ob q _ _ _ => ⟨ob.slots, k b ob q⟩, fun _ _ _ n _ => n, fun b ob q _ => ⟨ob, k b ob q⟩, fun _ _ q => q, fun _ _ _ q => q, fun _ ps q => ⟨#[], by rw [q]; simp⟩⟩
theorem Un.refl : Un fs ex H H h h := Un.kept fun _ _ q => q
theorem Un.laid (k : ∀ b u, h.get? b = some u → h'.get? b = some u) (hp : h.objs.size ≤ a) (hn : H a = none) : Un fs ex H (upd H a o) h h' where
  keep := fun b u q _ _ _ => k b u q
  slot := fun b u q _ _ _ => ⟨u.slots, k b u q⟩
  free := fun b u q n _ => by rw [upd_ne (Nat.ne_of_lt (Nat.lt_of_lt_of_le (Heap.lt_size q) hp))]; exact n
  there := fun b u q _ => ⟨u, k b u q⟩
  tups := fun b xs q => by rw [upd_ne (ne_of_none q hn)]; exact q
  frzs := fun b u xs q => by rw [upd_ne (ne_of_none q hn)]; exact q
  tbls := fun b ps q => ⟨#[], by rw [upd_ne (ne_of_none q hn), q]; simp⟩
theorem Un.write (mu : Mut (H x)) (he : e = x ∨ H e = some (.own x)) (k : ∀ b u, b ≠ e → h.get? b = some u → h'.get? b = some u) (heo : ∃ u, h'.get? e = some u) : Un fs ex H (upd H x o) h h' := by
  have hx : ∀ b, H b = none → b ≠ x := fun b n z => by subst z; rw [n] at mu; exact mu
  have hb : ∀ b, H b = none → b ≠ e := fun b n z => by
    subst z
    rcases he with r | r
    · exact hx b n r
    · rw [n] at r; cases r
  have hm : ∀ b u, H b = some u → ¬ Mut (some u) → b ≠ x := fun b u q nm z => by subst z; rw [q] at mu; exact nm mu
  refine ⟨fun b u q n _ _ => k b u (hb b n) q, fun b u q n _ _ => ⟨u.slots, k b u (hb b n) q⟩, fun b u q n _ => by rw [upd_ne (hx b n)]; exact n, fun b u q _ => ?_,
    fun b xs q => by rw [upd_ne (hm b _ q fun z => z)]; exact q, fun b u xs q => by rw [upd_ne (hm b _ q fun z => z)]; exact q, fun b ps q => ⟨#[], by rw [upd_ne (hm b _ q fun z => z), q]; simp⟩⟩
  by_cases hbe : b = e
  · subst hbe; exact heo
  · exact ⟨u, k b u hbe q⟩
end

/-! ### the heap without what is tracked -/
def trk (h : Heap) (H : Hp) : List Addr := (List.range h.objs.size).filter fun a => (H a).isSome
def hidT (h : Heap) (H : Hp) : Heap := PySem.W.hideAll h (trk h H)
theorem hidT_size (h : Heap) (H : Hp) : (hidT h H).objs.size = h.objs.size := PySem.W.hideAll_size _ _
theorem hidT_get {h : Heap} {H : Hp} {b : Addr} {o : Obj} (e : h.get? b = some o) (n : H b = none) : (hidT h H).get? b = some o :=
  PySem.W.hideAll_get _ e fun hm => by
    have q : (H b).isSome = true := (List.mem_filter.mp hm).2
    rw [n] at q; simp at q
theorem of_hidT {h : Heap} {H : Hp} {b : Addr} {o : Obj} (e : (hidT h H).get? b = some o) : h.get? b = some o ∧ H b = none := by
  have e' : h.get? b = some o := PySem.W.of_hideAll (trk h H) e
  refine ⟨e', ?_⟩
  cases q : H b with
  | none => rfl
  | some x =>
    have hm : b ∈ trk h H := List.mem_filter.mpr ⟨List.mem_range.mpr (Heap.lt_size e'), by simp [q]⟩
    have z : (hidT h H).get? b = none := PySem.W.hideAll_none (trk h H) hm
    rw [z] at e; cases e

/-! ### OpenK's ledger, filled with every new object but one -/
end L2

namespace L2
open PySem PySem.Spec PyProof.Rows

structure Mod (K : PySem.W.Frag) (mg : Str → Option Value) (base : Heap) : Prop where
  kin : K.In base
  glob : base.Ns mainGlobals mg
  blt : ∃ mb, base.Ns builtinsNs mb ∧ ∀ x : Str, x ≠ "__name__" → mb x = bootBuiltins x
  nolimit : base.NoLimit

structure Cx where
  prog : Program
  w : World
  K : PySem.W.Frag
  mg : Str → Option Value
  base : Heap
  A : Around
  N : List Str
  s₀ : Shared
  H₀ : Hp
  env : Env
  outer : List Env
  stack : List Env
  ex : List Addr
  fn : Str → Bool
  calm : Bool
  pn : List (Addr × Obj)
  xe : Value → Shared → Prop
def frs (l : List Env) : List Addr := l.filterMap (·.frame)
abbrev Cx.fs (X : Cx) : List Addr := frs X.outer

def Vis (sc : Scope) (x : Str) : Prop := sc.names.lookup x = some .local ∨ sc.names.lookup x = some .cell ∨ sc.names.lookup x = some .free
def Loc (sc : Scope) (x : Str) : Prop := sc.names.lookup x = some .local ∨ sc.names.lookup x = some .cell
def Look (env : Env) (h : Heap) (m : Str → Option Value) (x : Str) (u : Value) : Prop :=
  (env.kindOf x = some .local ∧ m x = some u) ∨ ((env.kindOf x = some .cell ∨ env.kindOf x = some .free) ∧ ∃ c, env.cells.lookup x = some c ∧ h.IsCell c (some u))

structure Cx.Ok (X : Cx) : Prop where
  mod : Mod X.K X.mg X.base
  kind : X.env.scope.kind = .function
  glob : X.env.globals = mainGlobals
  blt : X.env.builtins = builtinsNs
  above : X.s₀.heap.objs.size ≤ X.env.locals
  inj : ∀ x y c, X.env.cells.lookup x = some c → X.env.cells.lookup y = some c → x = y
  has : ∀ x, (X.env.kindOf x = some .cell ∨ X.env.kindOf x = some .free) → ∃ c, X.env.cells.lookup x = some c
  cab : ∀ x c, X.fn x = true → X.env.cells.lookup x = some c → X.s₀.heap.objs.size ≤ c
  hd : X.calm = true → X.A.handled = none
  frames : X.A.frames = some X.stack
  stk : X.stack = X.outer ∨ (X.stack = X.env :: X.outer ∧ X.env.frame = some X.env.locals)
  exf : ∀ b ∈ X.ex, b ≠ X.env.locals ∧ ∀ x c, X.env.cells.lookup x = some c → c ≠ b
  bs : ∀ b o, X.base.get? b = some o → X.s₀.heap.get? b = some o ∧ X.H₀ b = none
  bsz : X.base.objs.size ≤ X.s₀.heap.objs.size
  noex : ∀ b o, X.base.get? b = some o → b ∉ X.ex
  exfs : ∀ b ∈ X.ex, b ∉ X.fs
  funs : X.s₀.heap.FunFrames X.base X.outer
  frf : ∀ b ∈ X.fs, X.H₀ b = none

structure Inv (X : Cx) (pins : List (Addr × Obj)) (σ : List (Option V)) (H : Hp) (s : Shared) : Prop where
  ok : X.Ok
  os : s.os = X.s₀.os
  bare : AllBare s.gens
  base : Un X.fs X.ex X.H₀ H X.s₀.heap s.heap
  loc : ∃ m, s.heap.Ns X.env.locals m ∧ ∀ (i : Nat) (x : Str) (v : V), X.N[i]? = some x → σ[i]? = some (some v) → Vis X.env.scope x → ∃ u, RelV v u ∧ Look X.env s.heap m x u
  cell : ∀ x c, X.env.cells.lookup x = some c → ∃ v, s.heap.IsCell c v
  free : H X.env.locals = none
  freeC : ∀ x c, X.env.cells.lookup x = some c → H c = none
  pin : ∀ p ∈ X.pn ++ pins, s.heap.get? p.1 = some p.2 ∧ H p.1 = none ∧ p.1 ≠ X.env.locals ∧ p.1 ∉ X.fs ∧ ∀ v, p.2.data ≠ .cell v
  hok : HOk X.prog X.w H s.heap
  len : σ.length = X.N.length

section
variable {X : Cx} {pins : List (Addr × Obj)} {σ : List (Option V)} {H H' : Hp} {s : Shared} {h' : Heap}

theorem Cx.Ok.nofr (ok : X.Ok) {b : Addr} {o : Obj} (e : X.base.get? b = some o) : b ∉ X.fs := fun hb => by
  have := (ok.funs.mem hb).1
  rw [e] at this; cases this
theorem Inv.bs (I : Inv X pins σ H s) : ∀ b o, X.base.get? b = some o → s.heap.get? b = some o ∧ H b = none := fun b o e =>
  ⟨I.base.keep b o (I.ok.bs b o e).1 (I.ok.bs b o e).2 (I.ok.nofr e) (I.ok.noex b o e), I.base.free b o (I.ok.bs b o e).1 (I.ok.bs b o e).2 (I.ok.noex b o e)⟩
theorem Inv.bk (I : Inv X pins σ H s) : ∀ b o, X.base.get? b = some o → s.heap.get? b = some o := fun b o e => (I.bs b o e).1
theorem Inv.mod (I : Inv X pins σ H s) : Mod X.K X.mg X.base := I.ok.mod
theorem Inv.kIn (I : Inv X pins σ H s) : X.K.In s.heap := I.ok.mod.kin.keeps I.bk
theorem Inv.lt (I : Inv X pins σ H s) : X.env.locals < s.heap.objs.size := let ⟨_, hn, _⟩ := I.loc; hn.lt
theorem Inv.sz (I : Inv X pins σ H s) : X.s₀.heap.objs.size ≤ s.heap.objs.size := Nat.le_trans I.ok.above (Nat.le_of_lt I.lt)
theorem Inv.nofs (I : Inv X pins σ H s) {a : Addr} (h : s.heap.objs.size ≤ a) : a ∉ X.fs := fun hb => by
  obtain ⟨_, o, ho, _⟩ := I.ok.funs.mem hb
  exact absurd (Nat.lt_of_lt_of_le (Heap.lt_size ho) (Nat.le_trans I.sz h)) (Nat.lt_irrefl _)
theorem Inv.cne (I : Inv X pins σ H s) : ∀ x c, X.env.cells.lookup x = some c → c ≠ X.env.locals := fun x c e z => by
  obtain ⟨v, o, ho, hd⟩ := I.cell x c e
  obtain ⟨m, ⟨o', es, ep, ho', hd', _⟩, _⟩ := I.loc
  rw [z, ho'] at ho; cases ho; rw [hd'] at hd; cases hd
theorem Inv.funs (I : Inv X pins σ H s) : s.heap.FunFrames X.base X.outer := by
  have all : ∀ (l : List Env), (∀ b ∈ frs l, b ∈ X.fs) → X.s₀.heap.FunFrames X.base l → s.heap.FunFrames X.base l := by
    intro l
    induction l with
    | nil => intro _ _; trivial
    | cons env r ih =>
      intro hs hl
      obtain ⟨hk, ⟨L, o, hf, hn, ho, hd⟩, hr⟩ := hl
      have hL : L ∈ X.fs := hs L (by unfold frs; rw [List.filterMap_cons, hf]; exact List.mem_cons_self)
      obtain ⟨sl, e⟩ := I.base.slot L o ho (I.ok.frf L hL) hL fun z => I.ok.exfs L z hL
      exact ⟨hk, ⟨L, _, hf, hn, e, hd⟩, ih (fun b hb => hs b (by unfold frs; rw [List.filterMap_cons, hf]; exact List.mem_cons_of_mem _ hb)) hr⟩
  exact all X.outer (fun _ hb => hb) I.ok.funs

theorem Inv.stack (I : Inv X pins σ H s) : s.heap.FunFrames X.base X.stack := by
  rcases I.ok.stk with e | ⟨e, hf⟩
  · rw [e]; exact I.funs
  · rw [e]
    obtain ⟨m, hn, _⟩ := I.loc
    refine .cons (by rw [I.ok.kind]; decide) hf hn ?_ I.funs
    exact Heap.get?_none_of_le (Nat.le_trans I.ok.bsz I.ok.above)
theorem Inv.stkSub (I : Inv X pins σ H s) : ∀ b ∈ frs X.stack, b ∈ X.env.locals :: X.fs := fun b hb => by
  rcases I.ok.stk with e | ⟨e, hf⟩
  · rw [e] at hb; exact List.mem_cons_of_mem _ hb
  · rw [e] at hb
    unfold frs at hb
    rw [List.filterMap_cons, hf] at hb
    exact hb
theorem Inv.stkFree (I : Inv X pins σ H s) : ∀ b ∈ frs X.stack, H b = none := fun b hb => by
  rcases List.mem_cons.mp (I.stkSub b hb) with e | hb
  · rw [e]; exact I.free
  · obtain ⟨_, o, ho, _⟩ := I.ok.funs.mem hb
    exact I.base.free b o ho (I.ok.frf b hb) fun z => I.ok.exfs b z hb

theorem Inv.step {g' : Array GenState} {t' : Nat} {d' : Drawn} {ch : List Addr} (I : Inv X pins σ H s)
    (hch : ∀ b ∈ ch, (b ∈ X.ex ∨ X.s₀.heap.objs.size ≤ b) ∧ b ≠ X.env.locals ∧ (∀ x c, X.env.cells.lookup x = some c → c ≠ b) ∧ ∀ p ∈ X.pn ++ pins, p.1 ≠ b)
    (keep : ∀ b o, b ≠ X.env.locals → b ∉ X.fs → b ∉ ch → s.heap.get? b = some o → H b = none → h'.get? b = some o)
    (slot : ∀ b o, b ≠ X.env.locals → b ∈ X.fs → b ∉ ch → s.heap.get? b = some o → H b = none → ∃ sl, h'.get? b = some { o with slots := sl }) (free : ∀ b o, b ∉ ch → s.heap.get? b = some o → H b = none → H' b = none)
    (there : ∀ b o, b ∉ ch → s.heap.get? b = some o → ∃ o', h'.get? b = some o')
    (tups : ∀ b xs, H b = some (.tup xs) → H' b = some (.tup xs)) (frzs : ∀ b o u, H b = some (.frz o u) → H' b = some (.frz o u)) (tbls : ∀ b ps, H b = some (.tbl ps) → ∃ more, H' b = some (.tbl (ps ++ more)))
    (ns : ∀ m, s.heap.Ns X.env.locals m → h'.Ns X.env.locals m) (hok : HOk X.prog X.w H' h') (hg : AllBare g') :
    Inv X pins σ H' { s with heap := h', gens := g', drawn := d', toks := t' } := by
  have neL : ∀ b o, X.s₀.heap.get? b = some o → b ≠ X.env.locals := fun b o e => Nat.ne_of_lt (Nat.lt_of_lt_of_le (Heap.lt_size e) I.ok.above)
  have neC : ∀ b o, X.s₀.heap.get? b = some o → b ∉ X.ex → b ∉ ch := fun b o e hx hb => by
    rcases (hch b hb).1 with z | z
    · exact hx z
    · exact absurd (Nat.lt_of_lt_of_le (Heap.lt_size e) z) (Nat.lt_irrefl _)
  have cellK : ∀ x c, X.env.cells.lookup x = some c → ∀ v, s.heap.IsCell c v → h'.IsCell c v := fun x c e v ⟨o, ho, hd⟩ => by
    have nch : c ∉ ch := fun z => (hch c z).2.2.1 x c e rfl
    by_cases hc : c ∈ X.fs
    · obtain ⟨sl, q⟩ := slot c o (I.cne x c e) hc nch ho (I.freeC x c e)
      exact ⟨_, q, hd⟩
    · exact ⟨o, keep c o (I.cne x c e) hc nch ho (I.freeC x c e), hd⟩
  refine ⟨I.ok, I.os, hg, ⟨fun b o e n hb hx => ?_, fun b o e n hb hx => ?_, fun b o e n hx => ?_, fun b o e hx => ?_, fun b xs e => tups b xs (I.base.tups b xs e), fun b o xs e => frzs b o xs (I.base.frzs b o xs e), fun b ps e => ?_⟩, ?_, fun x c e => ?_, ?_, fun x c e => ?_, fun p hp => ?_, hok, I.len⟩
  · exact keep b o (neL b o e) hb (neC b o e hx) (I.base.keep b o e n hb hx) (I.base.free b o e n hx)
  · obtain ⟨sl, e1⟩ := I.base.slot b o e n hb hx
    obtain ⟨sl', e2⟩ := slot b _ (neL b o e) hb (neC b o e hx) e1 (I.base.free b o e n hx)
    exact ⟨sl', e2⟩
  · obtain ⟨o', e1⟩ := I.base.there b o e hx
    exact free b o' (neC b o e hx) e1 (I.base.free b o e n hx)
  · obtain ⟨o', e1⟩ := I.base.there b o e hx
    exact there b o' (neC b o e hx) e1
  · obtain ⟨m1, e1⟩ := I.base.tbls b ps e
    obtain ⟨m2, e2⟩ := tbls b _ e1
    exact ⟨m1 ++ m2, by rw [e2, Array.append_assoc]⟩
  · obtain ⟨m, hn, hl⟩ := I.loc
    refine ⟨m, ns m hn, fun i x v e1 e2 e3 => ?_⟩
    obtain ⟨u, r, l⟩ := hl i x v e1 e2 e3
    refine ⟨u, r, ?_⟩
    rcases l with l | ⟨k, c, e, z⟩
    · exact .inl l
    · exact .inr ⟨k, c, e, cellK x c e _ z⟩
  · obtain ⟨v, z⟩ := I.cell x c e
    exact ⟨v, cellK x c e v z⟩
  · obtain ⟨m, ⟨o, _, _, ho, _⟩, _⟩ := I.loc
    exact free _ o (fun z => (hch _ z).2.1 rfl) ho I.free
  · obtain ⟨v, o, ho, hd⟩ := I.cell x c e
    exact free c o (fun z => (hch c z).2.2.1 x c e rfl) ho (I.freeC x c e)
  · obtain ⟨e, n, ne, nf, d⟩ := I.pin p hp
    have nch : p.1 ∉ ch := fun z => (hch p.1 z).2.2.2 p hp rfl
    exact ⟨keep p.1 p.2 ne nf nch e n, free p.1 p.2 nch e n, ne, nf, d⟩
theorem Inv.un {t' : Nat} (I : Inv X pins σ H s) (u : Un X.fs [] H H' s.heap h') (hok : HOk X.prog X.w H' h') : Inv X pins σ H' { s with heap := h', toks := t' } := by
  obtain ⟨m, ⟨o, es, ep, ho, r⟩, _⟩ := id I.loc
  obtain ⟨sl, hL⟩ := u.any ho I.free (by simp)
  exact I.step (g' := s.gens) (d' := s.drawn) (ch := []) (fun _ z => nomatch z) (fun b o _ hb _ e n => u.keep b o e n hb (by simp)) (fun b o _ hb _ e n => u.slot b o e n hb (by simp)) (fun b o _ e n => u.free b o e n (by simp)) (fun b o _ e => u.there b o e (by simp)) u.tups u.frzs u.tbls (fun m' hm => by
    obtain ⟨o', es', ep', ho', r'⟩ := hm
    rw [ho] at ho'; cases ho'
    exact ⟨_, es', ep', hL, r'⟩) hok I.bare
theorem Inv.call {g' : Array GenState} {t' : Nat} {d' : Drawn} {ch : List Addr} (I : Inv X pins σ H s) (u : Un (frs X.stack) ch H H' s.heap h') (hok : HOk X.prog X.w H' h') (hg : AllBare g')
    (hch : ∀ b ∈ ch, (b ∈ X.ex ∨ X.s₀.heap.objs.size ≤ b) ∧ b ≠ X.env.locals ∧ (∀ x c, X.env.cells.lookup x = some c → c ≠ b) ∧ ∀ p ∈ X.pn ++ pins, p.1 ≠ b) :
    Inv X pins σ H' { s with heap := h', gens := g', drawn := d', toks := t' } := by
  obtain ⟨m, ⟨o, es, ep, ho, r⟩, _⟩ := id I.loc
  obtain ⟨sl, hL⟩ := u.any ho I.free fun z => (hch _ z).2.1 rfl
  exact I.step (ch := ch) hch (fun b o hL hb hc e n => u.keep b o e n (fun z => (List.mem_cons.mp (I.stkSub b z)).elim hL hb) hc) (fun b o _ _ hc e n => u.any e n hc) (fun b o hc e n => u.free b o e n hc) (fun b o hc e => u.there b o e hc) u.tups u.frzs u.tbls (fun m' hm => by
    obtain ⟨o', es', ep', ho', r'⟩ := hm
    rw [ho] at ho'; cases ho'
    exact ⟨_, es', ep', hL, r'⟩) hok hg
theorem Inv.turned {t' : Nat} {it : Addr} (I : Inv X pins σ H s) (k : ∀ b o, b ≠ it → s.heap.get? b = some o → h'.get? b = some o) (hn : H it = none) (hL : it ≠ X.env.locals)
    (h1 : it ∈ X.ex ∨ X.s₀.heap.objs.size ≤ it) (h2 : ∀ x c, X.env.cells.lookup x = some c → c ≠ it) (h3 : ∀ p ∈ X.pn ++ pins, p.1 ≠ it) : Inv X pins σ H { s with heap := h', toks := t' } := by
  have nit : ∀ b u, H b = some u → b ≠ it := fun b u e z => by rw [z, hn] at e; cases e
  refine I.step (g' := s.gens) (d' := s.drawn) (ch := [it]) (fun b hb => ?_) (fun b o _ _ hc e _ => k b o (fun z => hc (by simp [z])) e) (fun b o _ _ hc e _ => ⟨o.slots, k b o (fun z => hc (by simp [z])) e⟩) (fun _ _ _ _ n => n)
    (fun b o hc e => ⟨o, k b o (fun z => hc (by simp [z])) e⟩) (fun _ _ e => e) (fun _ _ _ e => e) (fun b ps e => ⟨#[], by rw [e]; simp⟩) (fun m hm => ?_) (fun b u e => ?_) I.bare
  · have e : b = it := by simpa using hb
    subst e
    exact ⟨h1, hL, h2, h3⟩
  · obtain ⟨o, es, ep, ho, r⟩ := hm
    exact ⟨o, es, ep, k _ o (Ne.symm hL) ho, r⟩
  · refine (I.hok b u e).stay (fun c v hc q => k c v ?_ q) (fun _ q => q) fun _ _ q => q
    rcases hc with z | z
    · rw [z]; exact nit b u e
    · exact nit c _ z
theorem Inv.tok (I : Inv X pins σ H s) (t : Nat) : Inv X pins σ H { s with toks := t } := I.un (h' := s.heap) (t' := t) Un.refl I.hok
theorem Inv.kept {t' : Nat} (I : Inv X pins σ H s) (k : ∀ b u, s.heap.get? b = some u → h'.get? b = some u) : Inv X pins σ H { s with heap := h', toks := t' } := I.un (Un.kept k) (I.hok.kept k)
theorem Inv.laid {a : Addr} {o : HO} {t' : Nat} (I : Inv X pins σ H s) (k : ∀ b u, s.heap.get? b = some u → h'.get? b = some u) (hp : s.heap.objs.size ≤ a) (new : ObjOk X.prog X.w (upd H a o) h' a o) :
    Inv X pins σ (upd H a o) { s with heap := h', toks := t' } := I.un (Un.laid k hp (I.hok.fresh hp)) (I.hok.laid k hp new)
theorem Inv.write {x e : Addr} {o : HO} {t' : Nat} (I : Inv X pins σ H s) (mu : Mut (H x)) (he : e = x ∨ H e = some (.own x)) (k : ∀ b u, b ≠ e → s.heap.get? b = some u → h'.get? b = some u) (heo : ∃ u, h'.get? e = some u)
    (new : ObjOk X.prog X.w (upd H x o) h' x o) : Inv X pins σ (upd H x o) { s with heap := h', toks := t' } := I.un (Un.write mu he k heo) (I.hok.write mu he k heo new)
theorem Inv.pins_of {pins' : List (Addr × Obj)} (I : Inv X pins σ H s) (h : ∀ p ∈ pins', s.heap.get? p.1 = some p.2 ∧ H p.1 = none ∧ p.1 ≠ X.env.locals ∧ p.1 ∉ X.fs ∧ ∀ v, p.2.data ≠ .cell v) : Inv X pins' σ H s :=
  ⟨I.ok, I.os, I.bare, I.base, I.loc, I.cell, I.free, I.freeC, fun p hp => (List.mem_append.mp hp).elim (fun z => I.pin p (List.mem_append_left _ z)) (h p), I.hok, I.len⟩

theorem nodup_ix {N : List Str} (hN : N.Nodup) {i j : Nat} {x : Str} (a : N[i]? = some x) (b : N[j]? = some x) : i = j := by
  obtain ⟨h1, e1⟩ := List.getElem?_eq_some_iff.mp a
  obtain ⟨h2, e2⟩ := List.getElem?_eq_some_iff.mp b
  exact (List.getElem_inj hN).mp (e1.trans e2.symm)

theorem store_ok2 {M : Model} {A : Around} {E : Value → Shared → Prop} {i : Nat} {x : Str} {v : V} {u : Value} {Q : Unit → Shared → Prop} (I : Inv X pins σ H s) (hN : X.N.Nodup) (hi : X.N[i]? = some x) (hx : Loc X.env.scope x) (r : RelV v u)
    (h : ∀ s', Inv X pins (σ.set i (some v)) H s' → (∃ a, Heap.SameBut a s.heap s'.heap ∧ (a = X.env.locals ∨ X.env.cells.lookup x = some a)) → Q () s') (hf : X.fn x = true ∨ X.env.scope.names.lookup x = some .local := by first | exact .inl rfl | exact .inr rfl | assumption) : wpAny M A (storeName X.env x u) Q E s := by
  obtain ⟨m, hn, hl⟩ := id I.loc
  have hcls : (X.env.scope.kind == .class || (X.env.scope.kind == .module && X.env.locals != X.env.globals)) = false := by rw [I.ok.kind]; rfl
  have hiσ : i < σ.length := by rw [I.len]; exact (List.getElem?_eq_some_iff.mp hi).1
  have cne := I.cne
  have tracked : ∀ {a : Addr} {h' : Heap}, (∃ o, s.heap.get? a = some o ∧ H a = none) → Heap.SameBut a s.heap h' → HOk X.prog X.w H h' := fun {a h'} ha hs b ob e => by
    obtain ⟨_, _, hfree⟩ := ha
    refine (I.hok b ob e).stay (fun c w' hc q => (hs.2 c ?_).trans q) (fun _ q => q) fun _ _ q => q
    rintro rfl
    rcases hc with rfl | hc
    · rw [hfree] at e; cases e
    · rw [hfree] at hc; cases hc
  rcases hx with hk | hk
  · refine wpAny_storeName_local hk hn (fun h' hn' hs => ?_) hcls
    obtain ⟨oL, _, _, hoL, _⟩ := id hn
    refine h _ ⟨I.ok, I.os, I.bare, ⟨fun b o e n hb hx => ?_, fun b o e n hb hx => ?_, I.base.free, fun b o e hx => ?_, I.base.tups, I.base.frzs, I.base.tbls⟩, ⟨_, hn', fun j y v' e1 e2 e3 => ?_⟩, fun y c e => ?_, I.free, I.freeC, fun p hp => ?_, tracked ⟨oL, hoL, I.free⟩ hs, by simpa using I.len⟩ ⟨_, hs, .inl rfl⟩
    · exact (hs.2 b (Nat.ne_of_lt (Nat.lt_of_lt_of_le (Heap.lt_size e) I.ok.above))).trans (I.base.keep b o e n hb hx)
    · obtain ⟨sl, e1⟩ := I.base.slot b o e n hb hx
      exact ⟨sl, (hs.2 b (Nat.ne_of_lt (Nat.lt_of_lt_of_le (Heap.lt_size e) I.ok.above))).trans e1⟩
    · obtain ⟨o', e1⟩ := I.base.there b o e hx
      exact ⟨o', (hs.2 b (Nat.ne_of_lt (Nat.lt_of_lt_of_le (Heap.lt_size e) I.ok.above))).trans e1⟩
    · by_cases hj : j = i
      · subst hj
        rw [hi] at e1; cases e1
        rw [List.getElem?_set_self hiσ] at e2
        cases e2
        exact ⟨u, r, .inl ⟨hk, by simp⟩⟩
      · rw [List.getElem?_set_ne (Ne.symm hj)] at e2
        obtain ⟨u', r', q⟩ := hl j y v' e1 e2 e3
        refine ⟨u', r', ?_⟩
        rcases q with ⟨k, e⟩ | ⟨k, c, e, z⟩
        · refine .inl ⟨k, ?_⟩
          have : y ≠ x := fun e => hj (nodup_ix hN e1 (e ▸ hi))
          simp [this, e]
        · exact .inr ⟨k, c, e, z.sameBut hs (cne y c e)⟩
    · obtain ⟨w', z⟩ := I.cell y c e
      exact ⟨w', z.sameBut hs (cne y c e)⟩
    · obtain ⟨e, n, ne, nf, d⟩ := I.pin p hp
      exact ⟨(hs.2 p.1 ne).trans e, n, ne, nf, d⟩
  · have hfn : X.fn x = true := by
      rcases hf with z | z
      · exact z
      · rw [z] at hk; cases hk
    obtain ⟨c, hc⟩ := I.ok.has x (.inl hk)
    obtain ⟨w', z⟩ := I.cell x c hc
    refine wpAny_storeName_cell I.ok.kind hk hc z (fun h' hc' hs => ?_)
    obtain ⟨oc, hoc, hocd⟩ := id z
    refine h { s with heap := h' } ⟨I.ok, I.os, I.bare, ⟨fun b o e n hb hx => ?_, fun b o e n hb hx => ?_, I.base.free, fun b o e hx => ?_, I.base.tups, I.base.frzs, I.base.tbls⟩, ⟨m, hn.sameBut hs (Ne.symm (cne x c hc)), fun j y v' e1 e2 e3 => ?_⟩, fun y c' e => ?_, I.free, I.freeC, fun p hp => ?_, tracked ⟨oc, hoc, I.freeC x c hc⟩ hs, by simpa using I.len⟩ ⟨c, hs, .inr hc⟩
    · exact (hs.2 b (Nat.ne_of_lt (Nat.lt_of_lt_of_le (Heap.lt_size e) (I.ok.cab x c hfn hc)))).trans (I.base.keep b o e n hb hx)
    · obtain ⟨sl, e1⟩ := I.base.slot b o e n hb hx
      exact ⟨sl, (hs.2 b (Nat.ne_of_lt (Nat.lt_of_lt_of_le (Heap.lt_size e) (I.ok.cab x c hfn hc)))).trans e1⟩
    · obtain ⟨o', e1⟩ := I.base.there b o e hx
      exact ⟨o', (hs.2 b (Nat.ne_of_lt (Nat.lt_of_lt_of_le (Heap.lt_size e) (I.ok.cab x c hfn hc)))).trans e1⟩
    · by_cases hj : j = i
      · subst hj
        rw [hi] at e1; cases e1
        rw [List.getElem?_set_self hiσ] at e2
        cases e2
        exact ⟨u, r, .inr ⟨.inl hk, c, hc, hc'⟩⟩
      · rw [List.getElem?_set_ne (Ne.symm hj)] at e2
        obtain ⟨u', r', q⟩ := hl j y v' e1 e2 e3
        refine ⟨u', r', ?_⟩
        rcases q with q | ⟨k, c', e, z'⟩
        · exact .inl q
        · refine .inr ⟨k, c', e, z'.sameBut hs ?_⟩
          rintro rfl
          exact hj (nodup_ix hN e1 (I.ok.inj _ _ _ e hc ▸ hi))
    · by_cases hcc : c' = c
      · subst hcc; exact ⟨_, hc'⟩
      · obtain ⟨w2, z2⟩ := I.cell y c' e
        exact ⟨w2, z2.sameBut hs hcc⟩
    · obtain ⟨e, n, ne, nf, d⟩ := I.pin p hp
      refine ⟨(hs.2 p.1 ?_).trans e, n, ne, nf, d⟩
      intro q
      rw [q, hoc] at e
      have q' : oc = p.2 := Option.some.inj e
      exact d w' (by rw [← q']; exact hocd)
theorem store_ok {M : Model} {A : Around} {E : Value → Shared → Prop} {i : Nat} {x : Str} {v : V} {u : Value} {Q : Unit → Shared → Prop} (I : Inv X pins σ H s) (hN : X.N.Nodup) (hi : X.N[i]? = some x) (hx : Loc X.env.scope x) (r : RelV v u)
    (h : ∀ s', Inv X pins (σ.set i (some v)) H s' → Q () s') (hf : X.fn x = true ∨ X.env.scope.names.lookup x = some .local := by first | exact .inl rfl | exact .inr rfl | assumption) : wpAny M A (storeName X.env x u) Q E s :=
  store_ok2 I hN hi hx r (fun s' I' _ => h s' I') hf
theorem Inv.call' {s' : Shared} {ch : List Addr} (I : Inv X pins σ H s) (ho : s'.os = s.os) (u : Un (frs X.stack) ch H H' s.heap s'.heap) (hok : HOk X.prog X.w H' s'.heap) (hg : AllBare s'.gens)
    (hch : ∀ b ∈ ch, (b ∈ X.ex ∨ X.s₀.heap.objs.size ≤ b) ∧ b ≠ X.env.locals ∧ (∀ x c, X.env.cells.lookup x = some c → c ≠ b) ∧ ∀ p ∈ X.pn ++ pins, p.1 ≠ b) : Inv X pins σ H' s' := by
  obtain ⟨h', g', d', t', o'⟩ := s'
  have e : o' = s.os := ho
  subst e
  exact I.call (g' := g') (t' := t') (d' := d') u hok hg hch
end

/-! ### the judgements -/
abbrev XK := Value → Option Addr → Hp → Prop
abbrev St := List (Option V)
abbrev VK := V → Hp → Prop
abbrev TE := St → Hp → VK → Prop
abbrev TT := St → Hp → (Bool → Hp → Prop) → Prop
abbrev TA := St → Hp → (List V → Hp → Prop) → Prop
structure Ends where
  nx : St → Hp → Prop
  rt : VK
  bk : St → Hp → Prop := fun _ _ => False
  ct : St → Hp → Prop := fun _ _ => False
abbrev TS := Ends → St → Hp → Prop

def EP (X : Cx) (pins : List (Addr × Obj)) (σ : St) (Q : VK) (u : Value) (s' : Shared) : Prop := ∃ v H', Inv X pins σ H' s' ∧ RelV v u ∧ Q v H'
def TP (X : Cx) (pins : List (Addr × Obj)) (σ : St) (Q : Bool → Hp → Prop) (b : Bool) (s' : Shared) : Prop := ∃ H', Inv X pins σ H' s' ∧ Q b H'
def AP (X : Cx) (pins : List (Addr × Obj)) (σ : St) (Q : List V → Hp → Prop) (us : List Value) (s' : Shared) : Prop := ∃ vs H', Inv X pins σ H' s' ∧ Vals vs us ∧ Q vs H'
def SP (X : Cx) (pins : List (Addr × Obj)) (D : Ends) (f : Flow) (s' : Shared) : Prop :=
  match f with
  | .next => ∃ σ' H', Inv X pins σ' H' s' ∧ D.nx σ' H'
  | .brk => ∃ σ' H', Inv X pins σ' H' s' ∧ D.bk σ' H'
  | .cont => ∃ σ' H', Inv X pins σ' H' s' ∧ D.ct σ' H'
  | .ret u => ∃ v σ' H', Inv X pins σ' H' s' ∧ RelV v u ∧ D.rt v H'

def PE (X : Cx) (e : Expr) (t : TE) : Prop :=
  ∀ (pins : List (Addr × Obj)) (s : Shared) (σ : St) (H : Hp) (Q : VK), Inv X pins σ H s → t σ H Q → wpAny (model X.prog X.w) X.A (eval e X.env) (EP X pins σ Q) X.xe s
def PT (X : Cx) (e : Expr) (t : TT) : Prop :=
  ∀ (pins : List (Addr × Obj)) (s : Shared) (σ : St) (H : Hp) (Q : Bool → Hp → Prop), Inv X pins σ H s → t σ H Q → wpAny (model X.prog X.w) X.A (isTrue e X.env (eval e X.env)) (TP X pins σ Q) X.xe s
def PW (X : Cx) (e : Expr) (t : TT) : Prop :=
  ∀ (whole : Sem Value) (pins : List (Addr × Obj)) (s : Shared) (σ : St) (H : Hp) (Q : Bool → Hp → Prop), Inv X pins σ H s → t σ H Q → wpAny (model X.prog X.w) X.A (isTrue e X.env whole) (TP X pins σ Q) X.xe s
theorem PW.pt {X : Cx} {e : Expr} {t : TT} (h : PW X e t) : PT X e t := h _
def PA (X : Cx) (es : List Expr) (t : TA) : Prop :=
  ∀ (pos : Pos) (pins : List (Addr × Obj)) (s : Shared) (σ : St) (H : Hp) (Q : List V → Hp → Prop), Inv X pins σ H s → t σ H Q → wpAny (model X.prog X.w) X.A (spliced (backTo pos (starEach es X.env))) (AP X pins σ Q) X.xe s
def PS (X : Cx) (st : Stmt) (t : TS) : Prop :=
  ∀ (pins : List (Addr × Obj)) (s : Shared) (σ : St) (H : Hp) (D : Ends), Inv X pins σ H s → t D σ H → wpAny (model X.prog X.w) X.A (exec st X.env) (SP X pins D) X.xe s
def PSs (X : Cx) (st : List Stmt) (t : TS) : Prop :=
  ∀ (pins : List (Addr × Obj)) (s : Shared) (σ : St) (H : Hp) (D : Ends), Inv X pins σ H s → t D σ H → wpAny (model X.prog X.w) X.A (execs st X.env) (SP X pins D) X.xe s
theorem thn {α : Type} {t : Sem α} {Q Q' : α → Shared → Prop} {M : Model} {A : Around} {E : Value → Shared → Prop} {s : Shared} (h : wpAny M A t Q E s) (hQ : ∀ a s, Q a s → Q' a s) : wpAny M A t Q' E s := wpAny_mono h hQ fun _ _ x => x
end L2

namespace L2
open PySem PySem.Spec PyProof.Rows
section
variable {X : Cx}

/-! ### names and constants -/
def tVar (i : Nat) : TE := fun σ H Q => ∃ v, σ[i]? = some (some v) ∧ Q v H
def tC (v : V) : TE := fun _ H Q => Q v H
theorem pe_var {i : Nat} {x : Str} {pos : Pos} (hN : X.N[i]? = some x) (hv : Vis X.env.scope x) (hd : (x == ("__debug__" : Str)) = false := by decide) (hcd : (x == ("__classdict__" : Str)) = false := by decide) : PE X (.Name x pos) (tVar i) := by
  intro pins s σ H Q I h
  obtain ⟨v, e, h⟩ := h
  obtain ⟨m, hn, hl⟩ := I.loc
  obtain ⟨u, r, l⟩ := hl i x v hN e hv
  have fin : EP X pins σ Q u s := ⟨v, H, I, r, h⟩
  rcases l with ⟨hk, hm⟩ | ⟨hk, c, hc, hcell⟩
  · exact wpAny_Name (wpAny_loadName_local I.ok.kind hk hn hm fin) hd
  · rcases hk with hk | hk
    · exact wpAny_Name (wpAny_loadName_cell I.ok.kind hk hc hcell fin) hd
    · exact wpAny_Name (wpAny_loadName_free I.ok.kind hk hc hcell fin hcd) hd
theorem pe_int {i j pos} : PE X (.Constant (.int i) j pos) (tC (.int i)) := fun _ _ _ H _ I h => wpAny_Constant_int ⟨.int i, H, I.tok _, ⟨_, rfl⟩, h⟩
theorem pe_bl {b j pos} : PE X (.Constant (.bool b) j pos) (tC (.bl b)) := fun _ _ _ H _ I h => Constant_bool ⟨.bl b, H, I, rfl, h⟩
theorem pe_non {j pos} : PE X (.Constant .none j pos) (tC .non) := fun _ _ _ H _ I h => Constant_none ⟨.non, H, I, rfl, h⟩
theorem pe_str {x j pos} : PE X (.Constant (.str x) j pos) (tC (.str x)) := fun _ _ _ H _ I h => Calls.Constant_str ⟨.str x, H, I.tok _, ⟨_, rfl⟩, h⟩

def Gl (X : Cx) (x : Str) : Prop := X.env.kindOf x = some .globalImplicit
theorem ld_glob {E : Value → Shared → Prop} {pins : List (Addr × Obj)} {s : Shared} {σ : St} {H : Hp} {x : Str} {u : Value} {pos : Pos} {Q : Value → Shared → Prop} (I : Inv X pins σ H s) (hg : Gl X x) (hm : X.mg x = some u) (h : Q u s)
    (hd : (x == ("__debug__" : Str)) = false := by decide) : wpAny (model X.prog X.w) X.A (eval (.Name x pos) X.env) Q E s :=
  Calls.Name_function_global I.ok.kind hg (Calls.loadGlobal_global (by rw [I.ok.glob]; exact I.mod.glob.keeps I.bk) hm h) hd
theorem ld_blt {E : Value → Shared → Prop} {pins : List (Addr × Obj)} {s : Shared} {σ : St} {H : Hp} {x : Str} {u : Value} {pos : Pos} {Q : Value → Shared → Prop} (I : Inv X pins σ H s) (hg : Gl X x) (hm : X.mg x = none) (hv : bootBuiltins x = some u) (h : Q u s)
    (hn : x ≠ "__name__" := by decide) (hd : (x == ("__debug__" : Str)) = false := by decide) : wpAny (model X.prog X.w) X.A (eval (.Name x pos) X.env) Q E s := by
  obtain ⟨mb, h1, h2⟩ := I.mod.blt
  exact Calls.Name_function_global I.ok.kind hg (Calls.loadGlobal_builtin (by rw [I.ok.glob]; exact I.mod.glob.keeps I.bk) hm (by rw [I.ok.blt]; exact h1.keeps I.bk) ((h2 x hn).trans hv) h) hd
theorem pe_glob {x : Str} {v : V} {u : Value} {pos : Pos} (hg : Gl X x) (hm : X.mg x = some u) (r : RelV v u) (hd : (x == ("__debug__" : Str)) = false := by decide) : PE X (.Name x pos) (tC v) :=
  fun _ _ _ H _ I h => ld_glob I hg hm ⟨v, H, I, r, h⟩ hd
theorem pe_bltn {x : Str} {v : V} {u : Value} {pos : Pos} (hg : Gl X x) (hm : X.mg x = none) (hv : bootBuiltins x = some u) (r : RelV v u) (hn : x ≠ "__name__" := by decide) (hd : (x == ("__debug__" : Str)) = false := by decide) : PE X (.Name x pos) (tC v) :=
  fun _ _ _ H _ I h => ld_blt I hg hm hv ⟨v, H, I, r, h⟩ hn hd

/-! ### arithmetic -/
variable {a b : Expr} {ta tb : TE} {pos : Pos}
/-! ### comparisons -/
def PC (X : Cx) (op : CmpOp) (a b : Expr) (t : TE) : Prop :=
  ∀ (pins : List (Addr × Obj)) (s : Shared) (σ : St) (H : Hp) (Q : VK), Inv X pins σ H s → t σ H Q →
    wpAny (model X.prog X.w) X.A (eval a X.env) (fun v s₁ => wpAny (model X.prog X.w) X.A (eval b X.env) (fun u s₂ => wpAny (model X.prog X.w) X.A (compareOp op v u) (EP X pins σ Q) X.xe s₂) X.xe s₁) X.xe s
def tB (t : TE) : TT := fun σ H Q => t σ H fun x H1 => ∃ c, x = .bl c ∧ Q c H1
theorem pt_cmp {op : CmpOp} {t : TE} (h : PC X op a b t) (h1 : behindInMarks op b = false := by first | exact nobehind _ (by decide) (by decide) | rfl) : PT X (.Compare a [op] [b] pos) (tB t) := by
  intro pins s σ H Q I hw
  refine wpAny_isTrue_Compare1 (thn (h pins s σ H _ I hw) fun v s1 h1 => thn h1 fun u s2 h2 => thn h2 fun c s3 ⟨x, H1, I1, r1, q1⟩ => ?_) h1
  obtain ⟨d, rfl, q⟩ := q1
  cases r1
  exact wpAny_truthy_bool ⟨H1, I1, q⟩
theorem pt_val {e : Expr} {t : TE} (h : PE X e t) (he : ∀ whole, isTrue e X.env whole = (do let v ← whole; standAt e.pos; holding [v] (truthy v)) := by intro _; rfl) : PT X e (tB t) := by
  intro pins s σ H Q I hw
  refine isTrue_plain (thn (h pins s σ H _ I hw) fun v s1 ⟨x, H1, I1, r1, q1⟩ => ?_) (he _)
  obtain ⟨d, rfl, q⟩ := q1
  cases r1
  exact wpAny_truthy_bool ⟨H1, I1, q⟩

/-! ### and, or, not -/
variable {tA tB' : TT} {rest : List Expr}
def tAnd (t u : TT) : TT := fun σ H Q => t σ H fun c H1 => if c = true then u σ H1 Q else Q false H1
def tOr (t u : TT) : TT := fun σ H Q => t σ H fun c H1 => if c = true then Q true H1 else u σ H1 Q
def tNot (t : TT) : TT := fun σ H Q => t σ H fun c H1 => Q (!c) H1
theorem pw_and1 (ha : PT X a tA) : PW X (.BoolOp .And [a] pos) tA := by
  intro wh pins s σ H Q I h
  refine isTrue_and (thn (ha pins s σ H Q I h) fun c s1 e => ?_)
  cases c with
  | true => exact isTrue_and_nil e
  | false => exact e
theorem pw_or1 (ha : PT X a tA) : PW X (.BoolOp .Or [a] pos) tA := by
  intro wh pins s σ H Q I h
  refine isTrue_or (thn (ha pins s σ H Q I h) fun c s1 e => ?_)
  cases c with
  | false => exact isTrue_or_nil e
  | true => exact e
theorem pw_and (ha : PT X a tA) (hb : PW X (.BoolOp .And (b :: rest) pos) tB') : PW X (.BoolOp .And (a :: b :: rest) pos) (tAnd tA tB') := by
  intro wh pins s σ H Q I h
  refine isTrue_and (thn (ha pins s σ H _ I h) fun c s1 ⟨H1, I1, q1⟩ => ?_)
  cases c with
  | true => exact hb wh pins s1 σ H1 Q I1 q1
  | false => exact ⟨H1, I1, q1⟩
theorem pw_or (ha : PT X a tA) (hb : PW X (.BoolOp .Or (b :: rest) pos) tB') : PW X (.BoolOp .Or (a :: b :: rest) pos) (tOr tA tB') := by
  intro wh pins s σ H Q I h
  refine isTrue_or (thn (ha pins s σ H _ I h) fun c s1 ⟨H1, I1, q1⟩ => ?_)
  cases c with
  | true => exact ⟨H1, I1, q1⟩
  | false => exact hb wh pins s1 σ H1 Q I1 q1
theorem pt_not (ha : PT X a tA) : PT X (.UnaryOp .Not a pos) (tNot tA) := by
  intro pins s σ H Q I h
  exact isTrue_not (ha pins s σ H (fun c H1 => Q (!c) H1) I h)
def tAndV (ta tb : TE) : TE := fun σ H Q => ta σ H fun x H1 => ∃ c, x = .bl c ∧ if c = true then tb σ H1 Q else Q (.bl false) H1
def tNotV (ta : TE) : TE := fun σ H Q => ta σ H fun x H1 => ∃ c, x = .bl c ∧ Q (.bl (!c)) H1
theorem pe_one {op} {t : TE} (h : PE X a t) : PE X (.BoolOp op [a] pos) t := fun pins s σ H Q I hw => BoolOp_one (h pins s σ H Q I hw)
theorem pe_and (ha : PE X a ta) (hb : PE X (.BoolOp .And (b :: rest) pos) tb) : PE X (.BoolOp .And (a :: b :: rest) pos) (tAndV ta tb) := by
  intro pins s σ H Q I h
  refine BoolOp_and (thn (ha pins s σ H _ I h) fun v s1 ⟨x, H1, I1, r1, q1⟩ => ?_)
  obtain ⟨c, rfl, q1⟩ := q1
  cases r1
  refine wpAny_truthy_bool ?_
  cases c with
  | true => exact hb pins s1 σ H1 Q I1 q1
  | false => exact ⟨.bl false, H1, I1, rfl, q1⟩
theorem pe_not (ha : PE X a ta) : PE X (.UnaryOp .Not a pos) (tNotV ta) := by
  intro pins s σ H Q I h
  refine UnaryOp_ (thn (ha pins s σ H _ I h) fun v s1 ⟨x, H1, I1, r1, q1⟩ => ?_)
  obtain ⟨c, rfl, q1⟩ := q1
  cases r1
  exact not_of (wpAny_truthy_bool ⟨.bl (!c), H1, I1, rfl, q1⟩)
end
end L2

namespace L2
open PySem PySem.Spec PyProof.Rows

/-! ### a list, a tuple that is read: tracked, frozen, or an object of the module -/
def SqL (K : PySem.W.Frag) (H : Hp) (a : Addr) (xs : List V) : Prop :=
  Rd H a (.lst xs) ∨
    ∃ (o : Obj) (its : Array Value) (n : Nat), K.lookup a = some o ∧ o.cls = .type "list" ∧ o.dict = none ∧ o.data = .seq its n ∧ its.size ≤ sizeLine ∧ Vals xs its.toList
def SqT (K : PySem.W.Frag) (H : Hp) (a : Addr) (xs : List V) : Prop :=
  Rd H a (.tup xs) ∨
    ∃ (o : Obj) (its : Array Value) (n : Nat), K.lookup a = some o ∧ o.cls = .type "tuple" ∧ o.data = .seq its n ∧ its.size ≤ sizeLine ∧ Vals xs its.toList
def absV : Value → Option V
  | .none => some .non
  | .bool b => some (.bl b)
  | .int i _ => some (.int i)
  | .str x _ => some (.str x)
  | .bytes b _ => some (.byt b)
  | .float b _ => some (.flt b)
  | .ref a => some (.ref a)
  | .type n => some (.ty n)
  | _ => none
theorem RelV.abs {x : V} {u : Value} (r : RelV x u) : absV u = some x := by
  cases x with
  | non => cases r; rfl
  | bl _ => cases r; rfl
  | int _ => obtain ⟨t, rfl⟩ := r; rfl
  | str _ => obtain ⟨t, rfl⟩ := r; rfl
  | byt _ => obtain ⟨t, rfl⟩ := r; rfl
  | flt _ => obtain ⟨t, rfl⟩ := r; rfl
  | ref _ => cases r; rfl
  | ty _ => cases r; rfl
theorem RelV.inj {x y : V} {u : Value} (r : RelV x u) (q : RelV y u) : x = y := Option.some.inj (r.abs.symm.trans q.abs)
theorem Vals.inj : ∀ {xs ys : List V} {us : List Value}, Vals xs us → Vals ys us → xs = ys
  | _, _, _, .nil, .nil => rfl
  | _, _, _, .cons r t, .cons r' t' => by rw [r.inj r', Vals.inj t t']
section
variable {X : Cx} {pins : List (Addr × Obj)} {σ : St} {H : Hp} {s : Shared} {a : Addr} {xs ys : List V}
theorem SqL.of {K : PySem.W.Frag} (h : H a = some (.lst xs)) : SqL K H a xs := .inl (.inl h)
theorem SqT.of {K : PySem.W.Frag} (h : H a = some (.tup xs)) : SqT K H a xs := .inl (.inl h)
theorem Inv.list (I : Inv X pins σ H s) (h : SqL X.K H a xs) : ∃ its : List Value, Vals xs its ∧ PlainL s.heap a its.toArray ∧ xs.length ≤ sizeLine := by
  rcases h with h | ⟨o, its, n, hk, hc, hd, hs, hz, r⟩
  · obtain ⟨z, its, n, r, e⟩ := h.ok I.hok
    exact ⟨its, r, ⟨_, n, e, rfl, rfl, rfl⟩, z⟩
  · refine ⟨its.toList, r, ⟨o, n, I.kIn a o hk, hc, hd, by simpa using hs⟩, ?_⟩
    have e := r.length
    simp only [Array.length_toList] at e
    omega
theorem Inv.tuple (I : Inv X pins σ H s) (h : SqT X.K H a xs) : ∃ its : List Value, Vals xs its ∧ IsTup s.heap a its.toArray ∧ xs.length ≤ sizeLine := by
  rcases h with h | ⟨o, its, n, hk, hc, hs, hz, r⟩
  · obtain ⟨z, its, r, p⟩ := h.ok I.hok
    exact ⟨its, r, p, z⟩
  · refine ⟨its.toList, r, ⟨o, I.kIn a o hk, hc, n, by simpa using hs⟩, ?_⟩
    have e := r.length
    simp only [Array.length_toList] at e
    omega
theorem Inv.list_inj (I : Inv X pins σ H s) (h : SqL X.K H a xs) (h' : SqL X.K H a ys) : xs = ys := by
  obtain ⟨its, r, ⟨o, n, e, _, _, d⟩, _⟩ := I.list h
  obtain ⟨its', r', ⟨o', n', e', _, _, d'⟩, _⟩ := I.list h'
  rw [e] at e'; cases e'
  rw [d] at d'
  injection d' with d1 _
  have : its = its' := by simpa using congrArg Array.toList d1
  subst this
  exact r.inj r'
end

/-! ### another wish about exceptions -/
abbrev Cx.wish (X : Cx) (E : Value → Shared → Prop) : Cx := { X with xe := E }
abbrev Cx.nox (X : Cx) : Cx := X.wish fun _ _ => False
theorem Cx.Ok.wish {X : Cx} (ok : X.Ok) (E : Value → Shared → Prop) : (X.wish E).Ok :=
  ⟨ok.mod, ok.kind, ok.glob, ok.blt, ok.above, ok.inj, ok.has, ok.cab, ok.hd, ok.frames, ok.stk, ok.exf, ok.bs, ok.bsz, ok.noex, ok.exfs, ok.funs, ok.frf⟩
theorem Cx.Ok.unwish {X : Cx} {E : Value → Shared → Prop} (ok : (X.wish E).Ok) : X.Ok :=
  ⟨ok.mod, ok.kind, ok.glob, ok.blt, ok.above, ok.inj, ok.has, ok.cab, ok.hd, ok.frames, ok.stk, ok.exf, ok.bs, ok.bsz, ok.noex, ok.exfs, ok.funs, ok.frf⟩
section
variable {X : Cx} {pins : List (Addr × Obj)} {σ : St} {H : Hp} {s : Shared} {E : Value → Shared → Prop}
theorem Inv.wish (I : Inv X pins σ H s) (E : Value → Shared → Prop) : Inv (X.wish E) pins σ H s := ⟨I.ok.wish E, I.os, I.bare, I.base, I.loc, I.cell, I.free, I.freeC, I.pin, I.hok, I.len⟩
theorem Inv.unwish (I : Inv (X.wish E) pins σ H s) : Inv X pins σ H s := ⟨I.ok.unwish, I.os, I.bare, I.base, I.loc, I.cell, I.free, I.freeC, I.pin, I.hok, I.len⟩
theorem SP.unwish {D : Ends} {f : Flow} {s' : Shared} (h : SP (X.wish E) pins D f s') : SP X pins D f s' := by
  cases f with
  | next => obtain ⟨σ', H', I, q⟩ := h; exact ⟨σ', H', I.unwish, q⟩
  | brk => obtain ⟨σ', H', I, q⟩ := h; exact ⟨σ', H', I.unwish, q⟩
  | cont => obtain ⟨σ', H', I, q⟩ := h; exact ⟨σ', H', I.unwish, q⟩
  | ret u => obtain ⟨v, σ', H', I, r, q⟩ := h; exact ⟨v, σ', H', I.unwish, r, q⟩
theorem PSs.nox {st : List Stmt} {t : TS} (h : PSs X.nox st t) : PSs X st t := fun pins s σ H D I hw =>
  wpAny_mono (h pins s σ H D (I.wish _) hw) (fun _ _ q => q.unwish) fun _ _ z => False.elim z
end

/-! ### blocks and small statements -/
section
variable {X : Cx} {st : Stmt} {rest : List Stmt} {t u : TS} {e : Expr} {te : TE} {pos : Pos}
def tNext : TS := fun D σ H => D.nx σ H
def tSeq (t u : TS) : TS := fun D σ H => t { D with nx := u D } σ H
theorem pss_nil : PSs X [] tNext := fun _ _ σ H _ I h => wpAny_execs_nil ⟨σ, H, I, h⟩
theorem pss_cons (h1 : PS X st t) (h2 : PSs X rest u) : PSs X (st :: rest) (tSeq t u) := by
  intro pins s σ H D I h
  refine wpAny_execs_cons (thn (h1 pins s σ H { D with nx := u D } I h) fun f s1 q => ?_)
  cases f with
  | next =>
    obtain ⟨σ', H', I', q⟩ := q
    exact h2 pins s1 σ' H' D I' q
  | ret v => exact q
  | brk => exact q
  | cont => exact q
theorem pss_one (h1 : PS X st t) : PSs X [st] t := by
  intro pins s σ H D I h
  refine wpAny_execs_cons (thn (h1 pins s σ H D I h) fun f s1 q => ?_)
  cases f with
  | next => exact wpAny_execs_nil q
  | ret v => exact q
  | brk => exact q
  | cont => exact q
theorem Inv.quiet {pins : List (Addr × Obj)} {σ : St} {H : Hp} {s : Shared} (I : Inv X pins σ H s) : interactive X.env = false := by simp [interactive, I.ok.kind]
def tDrop (te : TE) : TS := fun D σ H => te σ H fun _ H1 => D.nx σ H1
theorem ps_expr (he : PE X e te) (hs : swapsWith e none pos.line X.env = pure false := by rfl) : PS X (.Expr e pos) (tDrop te) := by
  intro pins s σ H D I h
  exact wpAny_Expr_any (thn (he pins s σ H _ I h) fun v s1 ⟨x, H1, I1, r1, q1⟩ => ⟨σ, H1, I1, q1⟩) I.quiet hs
def tRet (te : TE) : TS := fun D σ H => te σ H D.rt
theorem ps_ret (he : PE X e te) : PS X (.Return (some e) pos) (tRet te) := by
  intro pins s σ H D I h
  exact wpAny_Return_some (thn (he pins s σ H _ I h) fun v s1 ⟨x, H1, I1, r1, q1⟩ => ⟨x, σ, H1, I1, r1, q1⟩)
def tIfS (c : TT) (t u : TS) : TS := fun D σ H => c σ H fun b H1 => if b = true then t D σ H1 else u D σ H1
theorem ps_if {c : Expr} {a b : List Stmt} {tc : TT} (hc : PT X c tc) (ha : PSs X a t) (hb : PSs X b u) : PS X (.If c a b pos) (tIfS tc t u) := by
  intro pins s σ H D I h
  refine wpAny_If (thn (hc pins s σ H _ I h) fun d s1 ⟨H1, I1, q1⟩ => ?_)
  cases d with
  | true => exact ha pins s1 σ H1 D I1 q1
  | false => exact hb pins s1 σ H1 D I1 q1
end

/-! ### targets -/
abbrev TG := V → St → Hp → (St → Hp → Prop) → Prop
abbrev TGs := List V → St → Hp → (St → Hp → Prop) → Prop
def PG (X : Cx) (target : Expr) (t : TG) : Prop :=
  ∀ (pins : List (Addr × Obj)) (s : Shared) (σ : St) (H : Hp) (v : V) (u : Value) (Q : St → Hp → Prop), Inv X pins σ H s → RelV v u → t v σ H Q →
    wpAny (model X.prog X.w) X.A (assign target X.env u) (fun _ s' => ∃ σ' H', Inv X pins σ' H' s' ∧ Q σ' H') X.xe s
def PGs (X : Cx) (ts : List Expr) (t : TGs) : Prop :=
  ∀ (pins : List (Addr × Obj)) (s : Shared) (σ : St) (H : Hp) (vs : List V) (us : List Value) (Q : St → Hp → Prop), Inv X pins σ H s → Vals vs us → t vs σ H Q →
    wpAny (model X.prog X.w) X.A (assignInOrder ((assignEach ts X.env).map (·.2)) us) (fun _ s' => ∃ σ' H', Inv X pins σ' H' s' ∧ Q σ' H') X.xe s
abbrev TSet := V → V → V → Hp → (Hp → Prop) → Prop
def PSet (X : Cx) (t : TSet) : Prop :=
  ∀ (pins : List (Addr × Obj)) (s : Shared) (σ : St) (H : Hp) (o i v : V) (ov iv u : Value) (Q : Hp → Prop), Inv X pins σ H s → RelV o ov → RelV i iv → RelV v u → t o i v H Q →
    wpAny (model X.prog X.w) X.A (setItem ov iv u) (fun _ s' => ∃ H', Inv X pins σ H' s' ∧ Q H') X.xe s
section
variable {X : Cx} {pos : Pos}
def gName (i : Nat) : TG := fun v σ H Q => Q (σ.set i (some v)) H
theorem pg_name {i : Nat} {x : Str} (hN : X.N.Nodup) (hi : X.N[i]? = some x) (hx : Loc X.env.scope x) (hf : X.fn x = true ∨ X.env.scope.names.lookup x = some .local := by first | exact .inl rfl | exact .inr rfl | assumption) : PG X (.Name x pos) (gName i) := by
  intro pins s σ H v u Q I r h
  exact wpAny_assign_Name (store_ok I hN hi hx r (fun s' I' => ⟨_, H, I', h⟩) hf)
def gNil : TGs := fun vs σ H Q => vs = [] ∧ Q σ H
def gCons (t : TG) (u : TGs) : TGs := fun vs σ H Q => ∃ v r, vs = v :: r ∧ t v σ H fun σ' H' => u r σ' H' Q
theorem pgs_nil : PGs X [] gNil := by
  intro pins s σ H vs us Q I r h
  obtain ⟨e, h⟩ := h
  subst e
  cases r
  exact assignInOrder_nil ⟨σ, H, I, h⟩
theorem pgs_cons {e : Expr} {es : List Expr} {t : TG} {u : TGs} (h1 : PG X e t) (h2 : PGs X es u)
    (hs : (assignEach (e :: es) X.env).map (·.2) = assign e X.env :: (assignEach es X.env).map (·.2) := by rfl) : PGs X (e :: es) (gCons t u) := by
  intro pins s σ H vs us Q I r h
  obtain ⟨v, vr, e1, h⟩ := h
  subst e1
  cases r with
  | cons r rr =>
    rw [hs]
    refine assignInOrder_cons (thn (h1 pins s σ H _ _ _ I r h) fun _ s1 ⟨σ1, H1, I1, q1⟩ => ?_)
    exact h2 pins s1 σ1 H1 _ _ Q I1 rr q1
def gTup (K : PySem.W.Frag) (n : Nat) (t : TGs) : TG := fun v σ H Q => ∃ a xs, v = .ref a ∧ SqT K H a xs ∧ xs.length = n ∧ t xs σ H Q
theorem pg_tup {es : List Expr} {k : Nat} {t : TGs} {n : Nat} (hc : X.calm = true) (h : PGs X es t)
    (hn : (assignEach es X.env).length = n := by rfl) (hst : (assignEach es X.env).findIdx? (·.1) = none := by rfl) : PG X (.Tuple es k pos) (gTup X.K n t) := by
  intro pins s σ H v u Q I r hw
  obtain ⟨a, xs, e1, hq, hl, hw⟩ := hw
  subst e1
  cases r
  obtain ⟨its, rv, ht, hz⟩ := I.tuple hq
  refine assign_Tuple_tuple (I.ok.hd hc) ht (by simp [hn, ← hl, rv.length]) hst fun h' hx => ?_
  have I1 : Inv X pins σ H { s with heap := h' } := I.kept (t' := s.toks) fun b o e => hx b o (Nat.ne_of_lt (Heap.lt_size e)) e
  exact h pins _ σ H xs _ Q I1 (by simpa using rv) hw
def gSub (to ti : TE) (t : TSet) : TG := fun v σ H Q => to σ H fun o H1 => ti σ H1 fun i H2 => t o i v H2 fun H3 => Q σ H3
theorem pg_sub {o i : Expr} {to ti : TE} {t : TSet} (ho : PE X o to) (hi : PE X i ti) (hs : PSet X t)
    (ha : ∀ v, assign (.Subscript o i pos) X.env v = (do
      let ov ← holding [v] (eval o X.env)
      let iv ← holding [v, ov] (eval i X.env)
      standAt pos
      holding [v, ov, iv] (setItem ov iv v)
      release [v, ov, iv] []) := by intro _; rfl) : PG X (.Subscript o i pos) (gSub to ti t) := by
  intro pins s σ H v u Q I r h
  rw [ha]
  refine wpAny_bind (wpAny_holding (thn (ho pins s σ H _ I h) fun ov s1 ⟨x, H1, I1, r1, q1⟩ => ?_))
  refine wpAny_bind (wpAny_holding (thn (hi pins s1 σ H1 _ I1 q1) fun iv s2 ⟨y, H2, I2, r2, q2⟩ => ?_))
  refine wpAny_bind (wpAny_standAt (wpAny_bind (wpAny_holding (thn (hs pins s2 σ H2 x y v ov iv u _ I2 r1 r2 r q2) fun _ s3 ⟨H3, I3, q3⟩ => ?_))))
  exact wpAny_release ⟨σ, H3, I3, q3⟩
def tAsg (te : TE) (g : TG) : TS := fun D σ H => te σ H fun x H1 => g x σ H1 D.nx
theorem ps_asg {tg e : Expr} {te : TE} {g : TG} (he : PE X e te) (hg : PG X tg g) (hs : swapsWithSole [tg] e pos.line X.env = pure false := by rfl) (hw : swappedStores [tg] e X.env = pure none := by rfl)
    (h1 : (assignEach [tg] X.env).map (·.2) = [assign tg X.env] := by rfl) : PS X (.Assign [tg] e pos) (tAsg te g) := by
  intro pins s σ H D I h
  refine wpAny_Assign_stores (thn (he pins s σ H _ I h) fun v s1 ⟨x, H1, I1, r1, q1⟩ => ?_) hs hw
  rw [h1]
  exact thn (hg pins s1 σ H1 x v _ I1 r1 q1) fun _ s2 q => q
theorem ps_set {i : Nat} {x : Str} {e : Expr} {te : TE} {pos' : Pos} (hN : X.N.Nodup) (hi : X.N[i]? = some x) (hx : Loc X.env.scope x) (he : PE X e te) (hs : swapsWith e (some (.Name x pos')) pos.line X.env = pure false := by rfl) (hf : X.fn x = true ∨ X.env.scope.names.lookup x = some .local := by first | exact .inl rfl | exact .inr rfl | assumption) :
    PS X (.Assign [.Name x pos'] e pos) (tAsg te (gName i)) := by
  intro pins s σ H D I h
  refine wpAny_Assign_Name (thn (he pins s σ H _ I h) fun v s1 ⟨y, H1, I1, r1, q1⟩ => ?_) hs
  exact store_ok I1 hN hi hx r1 (fun s2 I2 => ⟨_, H1, I2, q1⟩) hf
end

/-! ### while -/
section
variable {X : Cx} {pos : Pos}
def tWhile (c : TT) (tb : TS) : TS := fun D σ H => ∃ W : Nat → St → Hp → Prop, (∃ m, W m σ H) ∧ ∀ m σ H, W m σ H →
  c σ H fun b H1 => if b = true then ∃ N : St → Hp → Prop, (∀ σ' H', N σ' H' → ∃ m', m' < m ∧ W m' σ' H') ∧ tb { D with nx := N, ct := N, bk := D.nx } σ H1 else D.nx σ H1
theorem ps_while {c : Expr} {body : List Stmt} {tc : TT} {tb : TS} (hp : PassesOwn (model X.prog X.w) X.A X.env X.xe) (hc : PT X c tc) (hb : PSs X body tb) : PS X (.While c body [] pos) (tWhile tc tb) := by
  intro pins s σ H D I h
  obtain ⟨W, ⟨m0, w0⟩, turn⟩ := h
  refine wpAny_While (codeAny_whileLoop (fun n s' => ∃ σ' H', Inv X pins σ' H' s' ∧ W n σ' H') ?_ m0 ⟨σ, H, I, w0⟩)
  rintro n s1 ⟨σ1, H1, I1, w1⟩
  refine wpAny_passesOwn hp (thn (hc pins s1 σ1 H1 _ I1 (turn n σ1 H1 w1)) fun b s2 ⟨H2, I2, q2⟩ => ?_)
  cases b with
  | true =>
    obtain ⟨N, hN, q2⟩ := q2
    rw [if_pos rfl]
    refine wpAny_passesOwn hp (thn (hb pins s2 σ1 H2 _ I2 q2) fun f s3 q3 => ?_)
    cases f with
    | next =>
      obtain ⟨σ3, H3, I3, n3⟩ := q3
      obtain ⟨m', hm, w3⟩ := hN σ3 H3 n3
      exact ⟨m', hm, σ3, H3, I3, w3⟩
    | cont =>
      obtain ⟨σ3, H3, I3, n3⟩ := q3
      obtain ⟨m', hm, w3⟩ := hN σ3 H3 n3
      exact ⟨m', hm, σ3, H3, I3, w3⟩
    | brk => exact q3
    | ret v => exact q3
  | false =>
    rw [if_neg Bool.false_ne_true]
    exact wpAny_execs_nil ⟨σ1, H2, I2, q2⟩
end

/-! ### what a loop or a comprehension walks -/
structure It where
  go : Nat → Hp → Prop
  yld : Nat → Hp → V → Hp → Prop
  stop : Nat → Hp → Prop
def FpOk (X : Cx) (pins : List (Addr × Obj)) (H : Hp) (b : Addr) : Prop :=
  H b = none ∧ b ≠ X.env.locals ∧ b ∉ X.fs ∧ (b ∈ X.ex ∨ X.s₀.heap.objs.size ≤ b) ∧ (∀ x c, X.env.cells.lookup x = some c → c ≠ b) ∧ ∀ p ∈ X.pn ++ pins, p.1 ≠ b
theorem Inv.fpOk {X : Cx} {pins : List (Addr × Obj)} {σ : St} {H H' : Hp} {s : Shared} {b : Addr} (I : Inv X pins σ H s) (hb : s.heap.objs.size ≤ b) (hn : H' b = none) : FpOk X pins H' b := by
  refine ⟨hn, Nat.ne_of_gt (Nat.lt_of_lt_of_le I.lt hb), I.nofs hb, .inr (Nat.le_trans I.sz hb), fun x c e z => ?_, fun p hp z => ?_⟩
  · obtain ⟨v, q⟩ := I.cell x c e
    exact absurd (Nat.lt_of_lt_of_le q.lt (by rw [z]; exact hb)) (Nat.lt_irrefl _)
  · exact absurd (Nat.lt_of_lt_of_le (Heap.lt_size (I.pin p hp).1) (by rw [z]; exact hb)) (Nat.lt_irrefl _)
structure Turn (P : Program) (w : World) (K : PySem.W.Frag) (tg : Expr) (J : It) (fp : List Addr) (it : Addr) (tn : Nat → Heap → Prop) : Prop where
  mem : it ∈ fp
  obj : ∀ i h, tn i h → ∀ b ∈ fp, ∃ o, h.get? b = some o ∧ ∀ v, o.data ≠ .cell v
  keep : ∀ i h h', tn i h → (∀ b ∈ fp, ∀ o, h.get? b = some o → h'.get? b = some o) → tn i h'
  item : ∀ (X : Cx), X.prog = P → X.w = w → X.K = K → X.calm = true → ∀ (i : Nat) (pins : List (Addr × Obj)) (s : Shared) (σ : St) (H : Hp) (E : Value → Shared → Prop), Inv X pins σ H s → (∀ b ∈ fp, FpOk X pins H b) → tn i s.heap → J.go i H →
    wpAny (model P w) X.A (pyNext (.ref it)) (fun r s1 => ∃ u, r = some u ∧
      wpAny (model P w) X.A (letOwnedTupleGo tg (.ref it) u) (fun _ s2 => ∃ x H', Inv X pins σ H' s2 ∧ RelV x u ∧ J.yld i H x H' ∧ tn (i + 1) s2.heap ∧ ∀ b ∈ fp, H' b = none) E s1) E s
  done : ∀ (X : Cx), X.prog = P → X.w = w → X.K = K → X.calm = true → ∀ (i : Nat) (pins : List (Addr × Obj)) (s : Shared) (σ : St) (H : Hp) (E : Value → Shared → Prop), Inv X pins σ H s → (∀ b ∈ fp, FpOk X pins H b) → tn i s.heap → J.stop i H →
    wpAny (model P w) X.A (pyNext (.ref it)) (fun r s1 => r = none ∧ Inv X pins σ H s1) E s
  self : ∀ (A : Around) (i : Nat) (s : Shared) (Q : Value → Shared → Prop) (E : Value → Shared → Prop), tn i s.heap → Q (.ref it) s → wpAny (model P w) A (pyIter (.ref it)) Q E s
abbrev TI := St → Hp → (It → Hp → Prop) → Prop
def PIE (X : Cx) (pins : List (Addr × Obj)) (σ : St) (tg : Expr) (R : It → Hp → Prop) (itv : Value) (s2 : Shared) : Prop :=
  ∃ (it : Addr) (fp : List Addr) (tn : Nat → Heap → Prop) (J : It) (H' : Hp), itv = .ref it ∧ Inv X pins σ H' s2 ∧ Turn X.prog X.w X.K tg J fp it tn ∧ tn 0 s2.heap ∧ (∀ b ∈ fp, FpOk X pins H' b) ∧ R J H'
def PI (X : Cx) (tg iter : Expr) (wi : TI) : Prop :=
  ∀ (pins : List (Addr × Obj)) (s : Shared) (σ : St) (H : Hp) (R : It → Hp → Prop), Inv X pins σ H s → wi σ H R →
    wpAny (model X.prog X.w) X.A (eval iter X.env) (fun v s1 => wpAny (model X.prog X.w) X.A (pyIter v) (PIE X pins σ tg R) X.xe s1) X.xe s

theorem go_of {M : Model} {A : Around} {E : Value → Shared → Prop} {s : Shared} {tg : Expr} {it : Addr} {u : Value} {o : Obj} {n : String} {vs : Array Value} {Q : Unit → Shared → Prop} (ho : s.heap.get? it = some o) (hc : o.cls = .type n) (hd : o.data = .fields vs)
    (hn : ["enumerate", "zip", "dict_itemiterator", "dict_reverseitemiterator", "odict_iterator", "itertools.zip_longest", "itertools.pairwise"].contains n = false) (hQ : Q () s) : wpAny M A (letOwnedTupleGo tg (.ref it) u) Q E s := by
  unfold letOwnedTupleGo
  cases tg <;> first
    | exact wpAny_pure hQ
    | (cases u <;> first
        | exact wpAny_pure hQ
        | (refine wpAny_bind (wpAny_load ho ?_)
           rw [hc, hd]
           show wpAny M A (if (["enumerate", "zip", "dict_itemiterator", "dict_reverseitemiterator", "odict_iterator", "itertools.zip_longest", "itertools.pairwise"].contains n && vs[0]? == some (rawInt _)) = true then _ else _) Q E s
           rw [if_neg (by intro h; rw [hn, Bool.false_and] at h; cases h)]
           exact wpAny_pure hQ))

def Itl (K : PySem.W.Frag) (a : Addr) : It :=
  ⟨fun i H => ∃ xs x, SqL K H a xs ∧ xs[i]? = some x, fun i H x H' => H' = H ∧ ∀ xs, SqL K H a xs → xs[i]? = some x, fun i H => ∃ xs, SqL K H a xs ∧ xs.length ≤ i⟩
def Itr (lo : Int) (n : Nat) : It := ⟨fun i _ => i < n, fun i H x H' => H' = H ∧ x = .int (lo + i), fun i _ => n ≤ i⟩
theorem turn_list {P : Program} {w : World} {K : PySem.W.Frag} {tg : Expr} (a it : Addr) : Turn P w K tg (Itl K a) [it] it (fun i h => h.IsListIter it a i) where
  mem := by simp
  obj := fun i h st b hb => by
    have e : b = it := by simpa using hb
    subst e
    obtain ⟨o, e, c, d⟩ := st
    exact ⟨o, e, fun v z => by rw [d] at z; cases z⟩
  keep := fun i h h' st k => st.at fun o e => k it (by simp) o e
  item := by
    intro X hP hw hK hc i pins s σ H E I hf st hg
    subst hP hw hK
    obtain ⟨xs, x, hq, hx⟩ := hg
    obtain ⟨its, rv, p, hz⟩ := I.list hq
    obtain ⟨u, hu, ru⟩ := rv.get hx
    obtain ⟨f0, f1, f2, f3, f4, f5⟩ := hf it (by simp)
    refine wpAny_pyNext_list_item st p.isList (x := u) (by simpa using hu) fun h' st' sb => ?_
    have I1 : Inv X pins σ H { s with heap := h' } := I.turned (t' := s.toks) (fun b o hb e => (sb.2 b hb).trans e) f0 f1 f3 f4 f5
    obtain ⟨o, e, c, d⟩ := id st'
    exact ⟨u, rfl, go_of (s := { s with heap := h' }) e c d (by decide) ⟨x, H, I1, ru, ⟨rfl, fun ys hy => by rw [I.list_inj hy hq]; exact hx⟩, st', fun b hb => (hf b hb).1⟩⟩
  done := by
    intro X hP hw hK hc i pins s σ H E I hf st hg
    subst hP hw hK
    obtain ⟨xs, hq, hx⟩ := hg
    obtain ⟨its, rv, p, hz⟩ := I.list hq
    obtain ⟨f0, f1, f2, f3, f4, f5⟩ := hf it (by simp)
    have hl := rv.length
    exact wpAny_pyNext_list_end (I.ok.hd hc) st p.isList (by simp; omega) fun h' eb => ⟨rfl, I.turned (t' := s.toks) (fun b o hb e => eb b o hb e) f0 f1 f3 f4 f5⟩
  self := fun _ _ _ _ _ st h => wpAny_pyIter_listiter st h
theorem turn_range {P : Program} {w : World} {K : PySem.W.Frag} {tg : Expr} (it : Addr) (lo : Int) (n : Nat) : Turn P w K tg (Itr lo n) [it] it (fun i h => IsRangeIter h it (lo + (i : Nat) * 1) ((n : Int) - (i : Nat)) 1) where
  mem := by simp
  obj := fun i h st b hb => by
    have e : b = it := by simpa using hb
    subst e
    exact ⟨_, st, fun v z => by
      have z' : Data.fields _ = Data.cell v := z
      cases z'⟩
  keep := fun i h h' st k => k it (by simp) _ st
  item := by
    intro X hP hw hK hc i pins s σ H E I hf st hg
    subst hP hw hK
    obtain ⟨f0, f1, f2, f3, f4, f5⟩ := hf it (by simp)
    have W := Walks.range (prog := X.prog) (w := X.w) (I.ok.hd hc) it lo 1 n
    refine W.item i s _ _ hg st fun v h' tk hv st' kk => ?_
    obtain ⟨t, rfl⟩ := hv
    have I1 : Inv X pins σ H { s with heap := h', toks := tk } := I.turned (fun b o hb e => kk b o (by simpa using hb) e) f0 f1 f3 f4 f5
    refine ⟨_, rfl, go_of (s := { s with heap := h', toks := tk }) (n := "range_iterator") st' rfl rfl (by decide) ⟨.int (lo + i), H, I1, ⟨t, ?_⟩, ⟨rfl, rfl⟩, st', fun b hb => (hf b hb).1⟩⟩
    rw [Int.mul_one]
  done := by
    intro X hP hw hK hc i pins s σ H E I hf st hg
    subst hP hw hK
    obtain ⟨f0, f1, f2, f3, f4, f5⟩ := hf it (by simp)
    exact wpAny_pyNext_range_end (I.ok.hd hc) st (by have : n ≤ i := hg; omega) fun h' eb => ⟨rfl, I.turned (t' := s.toks) (fun b o hb e => eb b o hb e) f0 f1 f3 f4 f5⟩
  self := fun _ _ _ _ _ st h => wpAny_pyIter_rangeiter st h
end L2

namespace L2
open PySem PySem.Spec PyProof.Rows
section
variable {X : Cx} {tg : Expr}
def iList (K : PySem.W.Frag) (tl : TE) : TI := fun σ H R => tl σ H fun x H1 => ∃ a, x = .ref a ∧ (∃ xs, SqL K H1 a xs) ∧ R (Itl K a) H1
theorem pi_list {l : Expr} {tl : TE} (hl : PE X l tl) : PI X tg l (iList X.K tl) := by
  intro pins s σ H R I h
  refine thn (hl pins s σ H _ I h) fun v s1 ⟨x, H1, I1, r1, q1⟩ => ?_
  obtain ⟨a, e, ⟨xs, hq⟩, q⟩ := q1
  subst e
  cases r1
  obtain ⟨its, rv, p, hz⟩ := I1.list hq
  refine wpAny_pyIter_list p.isList ?_
  refine ⟨s1.heap.objs.size, [s1.heap.objs.size], _, _, H1, rfl, I1.kept (t' := s1.toks) fun b o e => Heap.get?_push_of_some _ e, turn_list a _, ⟨_, Heap.get?_push_size _ rfl, rfl, rfl⟩, fun b hb => ?_, q⟩
  have e : b = s1.heap.objs.size := by simpa using hb
  subst e
  exact I1.fpOk (Nat.le_refl _) (I1.hok.fresh (Nat.le_refl _))
theorem range_it {pins : List (Addr × Obj)} {σ : St} {H : Hp} {s : Shared} {R : It → Hp → Prop} {E : Value → Shared → Prop} {lo hi : Int} {t u v : Tok} {tk : Nat} (I : Inv X pins σ H s) (h1 : -(2 ^ 62) ≤ lo) (h2 : lo < 2 ^ 62) (h3 : -(2 ^ 62) ≤ hi) (h4 : hi < 2 ^ 62)
    (q : R (Itr lo (hi - lo).toNat) H) : wpAny (model X.prog X.w) X.A (pyIter (.ref s.heap.objs.size)) (PIE X pins σ tg R) E { s with heap := s.heap.push { cls := .type "range", data := .fields #[.int lo t, .int hi u, .int 1 v] }, toks := tk } := by
  refine wpAny_pyIter_range (IsRange.new ..) (small_one h1 h2 h3 h4) ?_
  have I1 : Inv X pins σ H { s with heap := s.heap.push { cls := .type "range", data := .fields #[.int lo t, .int hi u, .int 1 v] }, toks := tk } := I.kept fun b o e => Heap.get?_push_of_some _ e
  refine ⟨(s.heap.push { cls := .type "range", data := .fields #[.int lo t, .int hi u, .int 1 v] }).objs.size, [(s.heap.push { cls := .type "range", data := .fields #[.int lo t, .int hi u, .int 1 v] }).objs.size], _, _, H, rfl,
    I1.kept (t' := tk) fun b o e => Heap.get?_push_of_some _ e, turn_range _ lo (hi - lo).toNat, ?_, fun b hb => ?_, q⟩
  · have e1 : lo + ((0 : Nat) : Int) * 1 = lo := by simp
    have e2 : (((hi - lo).toNat : Nat) : Int) - ((0 : Nat) : Int) = Builtin.Range.rangeSize lo hi 1 := by rw [rangeSize_one]; split <;> omega
    show IsRangeIter _ _ (lo + ((0 : Nat) : Int) * 1) ((((hi - lo).toNat : Nat) : Int) - ((0 : Nat) : Int)) 1
    rw [e1, e2]
    exact Heap.get?_push_size _ rfl
  · have e : b = (s.heap.push { cls := .type "range", data := .fields #[.int lo t, .int hi u, .int 1 v] }).objs.size := by simpa using hb
    subst e
    exact I1.fpOk (Nat.le_refl _) (I1.hok.fresh (Nat.le_refl _))
def iRng1 (ta : TA) : TI := fun σ H R => ta σ H fun vs H1 => ∃ j : Int, vs = [.int j] ∧ -(2 ^ 62) ≤ j ∧ j < 2 ^ 62 ∧ R (Itr 0 j.toNat) H1
theorem pi_range1 {a : Expr} {ta : TA} {p pos : Pos} (hg : Gl X "range") (hm : X.mg "range" = none) (ha : PA X [a] ta) (hs : starEach [a] X.env = [(false, eval a X.env)] := by rfl) : PI X tg (.Call (.Name "range" p) [a] [] pos) (iRng1 ta) := by
  intro pins s σ H R I h
  refine Call_ (ld_blt I hg hm boot_range (PyProof.Rows.callWith_type1 (thn (ha pos pins s σ H _ I h) fun us s1 ⟨vs, H1, I1, r1, q1⟩ => ?_) hs rfl))
  obtain ⟨j, e, q1, q2, q⟩ := q1
  subst e
  cases r1 with
  | cons r rr =>
    cases rr
    obtain ⟨t, rfl⟩ := r
    exact call_range_1 (range_it I1 (by omega) (by omega) q1 q2 (by simpa using q))
/-! ### for -/
def tFor (wi : TI) (g : TG) (tb : TS) : TS := fun D σ H => wi σ H fun J H1 => ∃ W : Nat → Nat → St → Hp → Prop, (∃ m, W 0 m σ H1) ∧ ∀ i m σ H, W i m σ H →
  (J.stop i H ∧ D.nx σ H) ∨ (J.go i H ∧ ∃ N : St → Hp → Prop, (∀ σ' H', N σ' H' → ∃ m', m' < m ∧ W (i + 1) m' σ' H') ∧ ∀ x H', J.yld i H x H' → g x σ H' fun σ2 H2 => tb { D with nx := N, ct := N, bk := D.nx } σ2 H2)
def pinsAt (fp : List Addr) (h : Heap) : List (Addr × Obj) := fp.filterMap fun b => (h.get? b).map fun o => (b, o)
theorem mem_pinsAt {fp : List Addr} {h : Heap} {b : Addr} {o : Obj} (hb : b ∈ fp) (e : h.get? b = some o) : (b, o) ∈ pinsAt fp h := List.mem_filterMap.mpr ⟨b, hb, by rw [e]; rfl⟩
theorem of_pinsAt {fp : List Addr} {h : Heap} {p : Addr × Obj} (hp : p ∈ pinsAt fp h) : p.1 ∈ fp ∧ h.get? p.1 = some p.2 := by
  obtain ⟨b, hb, e⟩ := List.mem_filterMap.mp hp
  cases q : h.get? b with
  | none => rw [q] at e; cases e
  | some o =>
    rw [q] at e
    have e' : (b, o) = p := Option.some.inj e
    subst e'
    exact ⟨hb, q⟩
theorem Inv.pinned {pins : List (Addr × Obj)} {σ : St} {H : Hp} {s : Shared} {fp : List Addr} (I : Inv X pins σ H s) (hf : ∀ b ∈ fp, FpOk X pins H b) (ho : ∀ b ∈ fp, ∃ o, s.heap.get? b = some o ∧ ∀ v, o.data ≠ .cell v) : Inv X (pins ++ pinsAt fp s.heap) σ H s :=
  I.pins_of fun p hp => (List.mem_append.mp hp).elim (fun z => I.pin p (List.mem_append_right _ z)) fun z => by
    obtain ⟨hb, e⟩ := of_pinsAt z
    obtain ⟨f0, f1, f2, _⟩ := hf p.1 hb
    obtain ⟨o, e', d⟩ := ho p.1 hb
    rw [e] at e'; cases e'
    exact ⟨e, f0, f1, f2, d⟩
theorem Inv.unpinned {pins pl : List (Addr × Obj)} {σ : St} {H : Hp} {s : Shared} (I : Inv X (pins ++ pl) σ H s) : Inv X pins σ H s := I.pins_of fun p hp => I.pin p (List.mem_append_right _ (List.mem_append_left _ hp))
theorem ps_for {iter : Expr} {body : List Stmt} {wi : TI} {g : TG} {tb : TS} {pos : Pos} (hp : PassesOwn (model X.prog X.w) X.A X.env X.xe) (hc : X.calm = true) (hi : PI X tg iter wi) (hg : PG X tg g) (hb : PSs X body tb)
    (hs : ∀ x, foldedSetIterable iter X.env x = pure x := by intro _; rfl) : PS X (.For tg iter body [] pos) (tFor wi g tb) := by
  intro pins s σ H D I h
  refine wpAny_For (thn (hi pins s σ H _ I h) fun v s1 h1 => thn h1 fun itv s2 h2 => ?_) hs
  obtain ⟨it, fp, tn, J, H2, e, I2, T, st2, f2, W, ⟨m0, w0⟩, turn⟩ := h2
  subst e
  -- what stays true of the iterator's objects through the loop
  have stat : ∀ {H' : Hp}, (∀ b ∈ fp, H' b = none) → ∀ b ∈ fp, FpOk X pins H' b := fun hn b hb => ⟨hn b hb, (f2 b hb).2⟩
  refine codeAny_forLoop_any (fun n s' => ∃ i σ' H', Inv X pins σ' H' s' ∧ tn i s'.heap ∧ (∀ b ∈ fp, H' b = none) ∧ W i n σ' H') ?_ m0 ⟨0, σ, H2, I2, st2, fun b hb => (f2 b hb).1, w0⟩
  rintro n s3 ⟨i, σ3, H3, I3, st3, fr3, w3⟩
  rcases turn i n σ3 H3 w3 with ⟨stop, qn⟩ | ⟨go, N, hN, step⟩
  · refine wpAny_passesOwn hp (thn (T.done X rfl rfl rfl hc i pins s3 σ3 H3 X.xe I3 (stat fr3) st3 stop) fun r s4 ⟨hr, I4⟩ => ?_)
    subst hr
    exact wpAny_execs_nil ⟨σ3, H3, I4, qn⟩
  · refine wpAny_passesOwn hp (thn (T.item X rfl rfl rfl hc i pins s3 σ3 H3 X.xe I3 (stat fr3) st3 go) fun r s4 ⟨u, hr, h4⟩ => ?_)
    subst hr
    refine wpAny_passesOwn hp (thn h4 fun _ s5 ⟨x, H5, I5, r5, y5, st5, fr5⟩ => ?_)
    have I5' := I5.pinned (stat fr5) (T.obj _ _ st5)
    refine wpAny_passesOwn hp (thn (hg _ s5 σ3 H5 x u _ I5' r5 (step x H5 y5)) fun _ s6 ⟨σ6, H6, I6, q6⟩ => ?_)
    refine wpAny_passesOwn hp (thn (hb _ s6 σ6 H6 _ I6 q6) fun f s7 q7 => ?_)
    have again : ∀ {σ7 : St} {H7 : Hp}, Inv X (pins ++ pinsAt fp s5.heap) σ7 H7 s7 → N σ7 H7 → ∃ m, m < n ∧ ∃ i σ' H', Inv X pins σ' H' s7 ∧ tn i s7.heap ∧ (∀ b ∈ fp, H' b = none) ∧ W i m σ' H' := fun {σ7 H7} I7 n7 => by
      obtain ⟨m', hm, w7⟩ := hN σ7 H7 n7
      refine ⟨m', hm, i + 1, σ7, H7, I7.unpinned, T.keep _ _ _ st5 fun b hb o e => (I7.pin (b, o) (List.mem_append_right _ (List.mem_append_right _ (mem_pinsAt hb e)))).1, fun b hb => ?_, w7⟩
      obtain ⟨o, e, d⟩ := T.obj _ _ st5 b hb
      exact (I7.pin (b, o) (List.mem_append_right _ (List.mem_append_right _ (mem_pinsAt hb e)))).2.1
    cases f with
    | next => obtain ⟨σ7, H7, I7, n7⟩ := q7; exact again I7 n7
    | cont => obtain ⟨σ7, H7, I7, n7⟩ := q7; exact again I7 n7
    | brk => obtain ⟨σ7, H7, I7, q7⟩ := q7; exact ⟨σ7, H7, I7.unpinned, q7⟩
    | ret v => obtain ⟨x7, σ7, H7, I7, r7, q7⟩ := q7; exact ⟨x7, σ7, H7, I7.unpinned, r7, q7⟩
end

/-! ### the forms one uses -/
theorem for_list {K : PySem.W.Frag} {a : Addr} {xs : List V} {g : TG} {tb : TS} {D : Ends} {σ : St} {H : Hp} (Pv : Nat → St → Hp → Prop) (h0 : Pv 0 σ H) (hl : ∀ i σ H, i ≤ xs.length → Pv i σ H → SqL K H a xs)
    (hs : ∀ i x σ H, xs[i]? = some x → Pv i σ H → g x σ H fun σ2 H2 => tb { D with nx := Pv (i + 1), ct := Pv (i + 1), bk := D.nx } σ2 H2) (hd : ∀ σ H, Pv xs.length σ H → D.nx σ H) :
    ∃ W : Nat → Nat → St → Hp → Prop, (∃ m, W 0 m σ H) ∧ ∀ i m σ H, W i m σ H →
      ((Itl K a).stop i H ∧ D.nx σ H) ∨ ((Itl K a).go i H ∧ ∃ N : St → Hp → Prop, (∀ σ' H', N σ' H' → ∃ m', m' < m ∧ W (i + 1) m' σ' H') ∧ ∀ x H', (Itl K a).yld i H x H' → g x σ H' fun σ2 H2 => tb { D with nx := N, ct := N, bk := D.nx } σ2 H2) := by
  refine ⟨fun i m σ H => m = xs.length - i ∧ i ≤ xs.length ∧ Pv i σ H, ⟨xs.length, by simp, Nat.zero_le _, h0⟩, ?_⟩
  rintro i m σ H ⟨rfl, hi, p⟩
  have q := hl i σ H hi p
  by_cases hlt : i < xs.length
  · refine .inr ⟨⟨xs, xs[i], q, by simp [hlt]⟩, Pv (i + 1), fun σ' H' p' => ⟨xs.length - (i + 1), by omega, rfl, hlt, p'⟩, fun x H' y => ?_⟩
    obtain ⟨e, y⟩ := y
    subst e
    exact hs i x σ _ (y xs q) p
  · have e : i = xs.length := by omega
    subst e
    exact .inl ⟨⟨xs, q, Nat.le_refl _⟩, hd σ H p⟩
theorem for_range {lo : Int} {n : Nat} {g : TG} {tb : TS} {D : Ends} {σ : St} {H : Hp} (Pv : Nat → St → Hp → Prop) (h0 : Pv 0 σ H)
    (hs : ∀ i σ H, i < n → Pv i σ H → g (.int (lo + i)) σ H fun σ2 H2 => tb { D with nx := Pv (i + 1), ct := Pv (i + 1), bk := D.nx } σ2 H2) (hd : ∀ σ H, Pv n σ H → D.nx σ H) :
    ∃ W : Nat → Nat → St → Hp → Prop, (∃ m, W 0 m σ H) ∧ ∀ i m σ H, W i m σ H →
      ((Itr lo n).stop i H ∧ D.nx σ H) ∨ ((Itr lo n).go i H ∧ ∃ N : St → Hp → Prop, (∀ σ' H', N σ' H' → ∃ m', m' < m ∧ W (i + 1) m' σ' H') ∧ ∀ x H', (Itr lo n).yld i H x H' → g x σ H' fun σ2 H2 => tb { D with nx := N, ct := N, bk := D.nx } σ2 H2) := by
  refine ⟨fun i m σ H => m = n - i ∧ i ≤ n ∧ Pv i σ H, ⟨n, by simp, Nat.zero_le _, h0⟩, ?_⟩
  rintro i m σ H ⟨rfl, hi, p⟩
  by_cases hlt : i < n
  · refine .inr ⟨hlt, Pv (i + 1), fun σ' H' p' => ⟨n - (i + 1), by omega, rfl, hlt, p'⟩, fun x H' y => ?_⟩
    obtain ⟨e, y⟩ := y
    subst e y
    exact hs i σ _ hlt p
  · have e : i = n := by omega
    subst e
    exact .inl ⟨Nat.le_refl _, hd σ H p⟩
end L2

namespace L2
open PySem PySem.Spec PyProof.Rows

abbrev R2 := V → V → Hp → VK → Prop
def OpR (X : Cx) (f : Value → Value → Sem Value) (r : R2) : Prop :=
  ∀ (pins : List (Addr × Obj)) (s : Shared) (σ : St) (H : Hp) (x y : V) (v u : Value) (Q : VK), Inv X pins σ H s → RelV x v → RelV y u → r x y H Q →
    wpAny (model X.prog X.w) X.A (f v u) (EP X pins σ Q) X.xe s
def UnR (X : Cx) (f : Value → Sem Value) (r : V → Hp → VK → Prop) : Prop :=
  ∀ (pins : List (Addr × Obj)) (s : Shared) (σ : St) (H : Hp) (x : V) (v : Value) (Q : VK), Inv X pins σ H s → RelV x v → r x H Q →
    wpAny (model X.prog X.w) X.A (f v) (EP X pins σ Q) X.xe s
def CallR (X : Cx) (f : Value) (r : List V → Hp → VK → Prop) : Prop :=
  ∀ (pins : List (Addr × Obj)) (s : Shared) (σ : St) (H : Hp) (xs : List V) (us : List Value) (Q : VK), Inv X pins σ H s → Vals xs us → r xs H Q →
    wpAny (model X.prog X.w) X.A (call f us) (EP X pins σ Q) X.xe s
def tOp (r : R2) (ta tb : TE) : TE := fun σ H Q => ta σ H fun x H1 => tb σ H1 fun y H2 => r x y H2 Q
def tUn (r : V → Hp → VK → Prop) (ta : TE) : TE := fun σ H Q => ta σ H fun x H1 => r x H1 Q
def rI (C : Int → Int → Prop) (g : Int → Int → V) : R2 := fun x y H Q => ∃ i j, x = .int i ∧ y = .int j ∧ C i j ∧ Q (g i j) H
def rI0 (g : Int → Int → V) : R2 := fun x y H Q => ∃ i j, x = .int i ∧ y = .int j ∧ Q (g i j) H
def rU (g : Int → V) : V → Hp → VK → Prop := fun x H Q => ∃ i, x = .int i ∧ Q (g i) H

section
variable {X : Cx} {a b c : Expr} {ta tb tc : TE} {pos : Pos}

theorem binT (ha : PE X a ta) (hb : PE X b tb) {pins : List (Addr × Obj)} {s : Shared} {σ : St} {H : Hp} {R : V → V → Hp → Prop} (I : Inv X pins σ H s)
    (h : ta σ H fun x H1 => tb σ H1 fun y H2 => R x y H2) {Q : Value → Shared → Prop} {f : Value → Value → Sem Value}
    (hf : ∀ v u s2 x y H2, Inv X pins σ H2 s2 → RelV x v → RelV y u → R x y H2 → wpAny (model X.prog X.w) X.A (f v u) Q X.xe s2) :
    wpAny (model X.prog X.w) X.A (eval a X.env) (fun v s₁ => wpAny (model X.prog X.w) X.A (eval b X.env) (fun u s₂ => wpAny (model X.prog X.w) X.A (f v u) Q X.xe s₂) X.xe s₁) X.xe s := by
  refine thn (ha pins s σ H _ I h) fun v s1 ⟨x, H1, I1, r1, q1⟩ => ?_
  refine thn (hb pins s1 σ H1 _ I1 q1) fun u s2 ⟨y, H2, I2, r2, q2⟩ => ?_
  exact hf v u s2 x y H2 I2 r1 r2 q2

theorem pe_op {op : Operator} {r : R2} (ho : OpR X (binaryOp op) r) (ha : PE X a ta) (hb : PE X b tb) : PE X (.BinOp a op b pos) (tOp r ta tb) := by
  intro pins s σ H Q I h
  exact wpAny_BinOp (binT ha hb I h fun v u s2 x y H2 I2 rx ry q => ho pins s2 σ H2 x y v u Q I2 rx ry q)
theorem pe_un {op : UnaryOp} {r : V → Hp → VK → Prop} (ho : UnR X (unaryOp op) r) (ha : PE X a ta) : PE X (.UnaryOp op a pos) (tUn r ta) := by
  intro pins s σ H Q I h
  exact UnaryOp_ (thn (ha pins s σ H _ I h) fun v s1 ⟨x, H1, I1, r1, q1⟩ => ho pins s1 σ H1 x v Q I1 r1 q1)
/-! ### ints -/
theorem opI {f : Value → Value → Sem Value} {C : Int → Int → Prop} {g : Int → Int → Int}
    (rule : ∀ (i j : Int) (t u : Tok) (s : Shared) (Q : Value → Shared → Prop) (E : Value → Shared → Prop), C i j → Q (.int (g i j) s.toks) { s with toks := s.toks + 1 } → wpAny (model X.prog X.w) X.A (f (.int i t) (.int j u)) Q E s) :
    OpR X f (rI C fun i j => .int (g i j)) := by
  intro pins s σ H x y v u Q I rx ry h
  obtain ⟨i, j, rfl, rfl, hc, q⟩ := h
  obtain ⟨t, rfl⟩ := rx
  obtain ⟨t', rfl⟩ := ry
  exact rule i j t t' s _ _ hc ⟨.int (g i j), H, I.tok _, ⟨_, rfl⟩, q⟩
theorem opI0 {f : Value → Value → Sem Value} {g : Int → Int → Int}
    (rule : ∀ (i j : Int) (t u : Tok) (s : Shared) (Q : Value → Shared → Prop) (E : Value → Shared → Prop), Q (.int (g i j) s.toks) { s with toks := s.toks + 1 } → wpAny (model X.prog X.w) X.A (f (.int i t) (.int j u)) Q E s) :
    OpR X f (rI0 fun i j => .int (g i j)) := by
  intro pins s σ H x y v u Q I rx ry h
  obtain ⟨i, j, rfl, rfl, q⟩ := h
  obtain ⟨t, rfl⟩ := rx
  obtain ⟨t', rfl⟩ := ry
  exact rule i j t t' s _ _ ⟨.int (g i j), H, I.tok _, ⟨_, rfl⟩, q⟩
theorem opB0 {f : Value → Value → Sem Value} {g : Int → Int → Bool}
    (rule : ∀ (i j : Int) (t u : Tok) (s : Shared) (Q : Value → Shared → Prop) (E : Value → Shared → Prop), Q (.bool (g i j)) s → wpAny (model X.prog X.w) X.A (f (.int i t) (.int j u)) Q E s) :
    OpR X f (rI0 fun i j => .bl (g i j)) := by
  intro pins s σ H x y v u Q I rx ry h
  obtain ⟨i, j, rfl, rfl, q⟩ := h
  obtain ⟨t, rfl⟩ := rx
  obtain ⟨t', rfl⟩ := ry
  exact rule i j t t' s _ _ ⟨.bl (g i j), H, I, rfl, q⟩

def CDiv (i j : Int) : Prop := 0 < j ∧ j < 1073741824
def CPow (i j : Int) : Prop := 0 ≤ j ∧ j ≤ 1000000 ∧ i.natAbs < 2 ^ 64
def CMul (i j : Int) : Prop := (-(2 ^ 64) < i ∧ i < 2 ^ 64) ∨ (-(2 ^ 64) < j ∧ j < 2 ^ 64)
theorem CMul.ok {i j : Int} (h : CMul i j) : IntMulOk i j := by
  rcases h with ⟨h1, h2⟩ | ⟨h1, h2⟩
  · exact .of_left (intBits_le_64 h1 h2)
  · exact .of_right (intBits_le_64 h1 h2)
theorem op_add : OpR X (binaryOp .Add) (rI0 fun i j => .int (i + j)) := opI0 fun _ _ _ _ _ _ _ q => add_int q
theorem op_sub : OpR X (binaryOp .Sub) (rI0 fun i j => .int (i - j)) := opI0 fun _ _ _ _ _ _ _ q => sub_int q
theorem op_mul : OpR X (binaryOp .Mult) (rI CMul fun i j => .int (i * j)) := opI fun _ _ _ _ _ _ _ hc q => mul_int q hc.ok
theorem op_fdiv : OpR X (binaryOp .FloorDiv) (rI CDiv fun i j => .int (i / j)) := opI fun i j _ _ _ _ _ hc q => by
  have h1 : (0 : Int) < j := hc.1
  have h2 : j < 1073741824 := hc.2
  exact floordiv_int (by omega) (by rw [Int.fdiv_eq_ediv_of_nonneg i (by omega)]; exact q) (.inl (PyProof.noPylong_small (by omega)))
theorem op_mod : OpR X (binaryOp .Mod) (rI (fun _ j => 0 < j) fun i j => .int (i % j)) := opI fun i j _ _ _ _ _ hc q => by
  have h1 : (0 : Int) < j := hc
  exact mod_int' (by omega) (by rw [Int.fmod_eq_emod_of_nonneg i (by omega)]; exact q)
theorem op_pow : OpR X (binaryOp .Pow) (rI CPow fun i j => .int (i ^ j.toNat)) := opI fun _ _ _ _ _ _ _ hc q => pow_int_small hc.1 hc.2.1 hc.2.2 q
theorem unI {f : Value → Sem Value} {g : Int → Int}
    (rule : ∀ (i : Int) (t : Tok) (s : Shared) (Q : Value → Shared → Prop) (E : Value → Shared → Prop), Q (.int (g i) s.toks) { s with toks := s.toks + 1 } → wpAny (model X.prog X.w) X.A (f (.int i t)) Q E s) :
    UnR X f (rU fun i => .int (g i)) := by
  intro pins s σ H x v Q I rx h
  obtain ⟨i, rfl, q⟩ := h
  obtain ⟨t, rfl⟩ := rx
  exact rule i t s _ _ ⟨.int (g i), H, I.tok _, ⟨_, rfl⟩, q⟩
theorem un_neg : UnR X (unaryOp .USub) (rU fun i => .int (-i)) := unI fun _ _ _ _ _ q => neg_int q
/-! ### bools among ints: n += (a < b) -/
end

/-! ### comparisons -/
def scal : V → V → Bool
  | .non, .non => true | .non, .int _ => true | .int _, .non => true | .non, .bl _ => true | .bl _, .non => true | .non, .str _ => true | .str _, .non => true
  | .int _, .int _ => true | .bl _, .bl _ => true | .str _, .str _ => true | .byt _, .byt _ => true
  | .int _, .str _ => true | .str _, .int _ => true | .bl _, .str _ => true | .str _, .bl _ => true
  | _, _ => false
def rEq : R2 := fun x y H Q => scal x y = true ∧ Q (.bl (decide (x = y))) H
def rNe : R2 := fun x y H Q => scal x y = true ∧ Q (.bl (!decide (x = y))) H

theorem dec_int {i j : Int} : decide (V.int i = V.int j) = (i == j) := by
  rw [Bool.eq_iff_iff]
  simp
theorem dec_bl {i j : Bool} : decide (V.bl i = V.bl j) = (i == j) := by
  rw [Bool.eq_iff_iff]
  simp
theorem dec_str {i j : Str} : decide (V.str i = V.str j) = (i == j) := by
  rw [Bool.eq_iff_iff]
  simp
theorem dec_byt {i j : Array UInt8} : decide (V.byt i = V.byt j) = (i.toList == j.toList) := by
  rw [Bool.eq_iff_iff]
  cases i
  cases j
  simp

section
variable {X : Cx} {a b c : Expr} {ta tb tc : TE} {pos : Pos}
theorem fin_bl {pins : List (Addr × Obj)} {σ : St} {H : Hp} {s : Shared} {Q : VK} {k k' : Bool} (I : Inv X pins σ H s) (q : Q (.bl k) H) (e : k = k') : EP X pins σ Q (.bool k') s := by
  subst e
  exact ⟨.bl k, H, I, rfl, q⟩
theorem op_eq : OpR X (compareOp .Eq) rEq := by
  intro pins s σ H x y v u Q I rx ry h
  obtain ⟨hs, q⟩ := h
  cases x with
  | non =>
    cases rx
    cases y with
    | non => cases ry; exact PySem.EqNone.eq_none_none (fin_bl I q (by simp))
    | bl j => cases ry; exact PySem.EqNone.eq_none_bool (fin_bl I q (by simp))
    | int j => obtain ⟨t', rfl⟩ := ry; exact PySem.EqNone.eq_none_int (fin_bl I q (by simp))
    | str j => obtain ⟨t', rfl⟩ := ry; exact PySem.EqNone.eq_none_str (fin_bl I q (by simp))
    | _ => exact absurd (show false = true from hs) Bool.false_ne_true
  | bl i =>
    cases rx
    cases y with
    | non => cases ry; exact PySem.EqNone.eq_bool_none (fin_bl I q (by simp))
    | bl j => cases ry; exact eq_bool (fin_bl I q dec_bl)
    | str j => obtain ⟨t', rfl⟩ := ry; exact PySem.EqMixed.eq_bool_str (fin_bl I q (by simp))
    | _ => exact absurd (show false = true from hs) Bool.false_ne_true
  | int i =>
    obtain ⟨t, rfl⟩ := rx
    cases y with
    | non => cases ry; exact PySem.EqNone.eq_int_none (fin_bl I q (by simp))
    | int j => obtain ⟨t', rfl⟩ := ry; exact eq_int (fin_bl I q dec_int)
    | str j => obtain ⟨t', rfl⟩ := ry; exact PySem.EqMixed.eq_int_str (fin_bl I q (by simp))
    | _ => exact absurd (show false = true from hs) Bool.false_ne_true
  | str i =>
    obtain ⟨t, rfl⟩ := rx
    cases y with
    | non => cases ry; exact PySem.EqNone.eq_str_none (fin_bl I q (by simp))
    | bl j => cases ry; exact PySem.EqMixed.eq_str_bool (fin_bl I q (by simp))
    | int j => obtain ⟨t', rfl⟩ := ry; exact PySem.EqMixed.eq_str_int (fin_bl I q (by simp))
    | str j => obtain ⟨t', rfl⟩ := ry; exact eq_str (fin_bl I q dec_str)
    | _ => exact absurd (show false = true from hs) Bool.false_ne_true
  | byt i =>
    obtain ⟨t, rfl⟩ := rx
    cases y with
    | byt j => obtain ⟨t', rfl⟩ := ry; exact PySem.W.eq_bytes (fin_bl I q dec_byt)
    | _ => exact absurd (show false = true from hs) Bool.false_ne_true
  | _ => cases y <;> exact absurd (show false = true from hs) Bool.false_ne_true
theorem op_ne : OpR X (compareOp .NotEq) rNe := by
  intro pins s σ H x y v u Q I rx ry h
  obtain ⟨hs, q⟩ := h
  cases x with
  | non =>
    cases rx
    cases y with
    | non => cases ry; exact PySem.EqNone.ne_none_none (fin_bl I q (by simp))
    | bl j => cases ry; exact PySem.EqNone.ne_none_bool (fin_bl I q (by simp))
    | int j => obtain ⟨t', rfl⟩ := ry; exact PySem.EqNone.ne_none_int (fin_bl I q (by simp))
    | str j => obtain ⟨t', rfl⟩ := ry; exact PySem.EqNone.ne_none_str (fin_bl I q (by simp))
    | _ => exact absurd (show false = true from hs) Bool.false_ne_true
  | bl i =>
    cases rx
    cases y with
    | non => cases ry; exact PySem.EqNone.ne_bool_none (fin_bl I q (by simp))
    | bl j => cases ry; exact ne_bool (fin_bl I q (congrArg not dec_bl))
    | str j => obtain ⟨t', rfl⟩ := ry; exact PySem.EqMixed.ne_bool_str (fin_bl I q (by simp))
    | _ => exact absurd (show false = true from hs) Bool.false_ne_true
  | int i =>
    obtain ⟨t, rfl⟩ := rx
    cases y with
    | non => cases ry; exact PySem.EqNone.ne_int_none (fin_bl I q (by simp))
    | int j => obtain ⟨t', rfl⟩ := ry; exact ne_int (fin_bl I q (congrArg not dec_int))
    | str j => obtain ⟨t', rfl⟩ := ry; exact PySem.EqMixed.ne_int_str (fin_bl I q (by simp))
    | _ => exact absurd (show false = true from hs) Bool.false_ne_true
  | str i =>
    obtain ⟨t, rfl⟩ := rx
    cases y with
    | non => cases ry; exact PySem.EqNone.ne_str_none (fin_bl I q (by simp))
    | bl j => cases ry; exact PySem.EqMixed.ne_str_bool (fin_bl I q (by simp))
    | int j => obtain ⟨t', rfl⟩ := ry; exact PySem.EqMixed.ne_str_int (fin_bl I q (by simp))
    | str j => obtain ⟨t', rfl⟩ := ry; exact ne_str (fin_bl I q (congrArg not dec_str))
    | _ => exact absurd (show false = true from hs) Bool.false_ne_true
  | byt i =>
    obtain ⟨t, rfl⟩ := rx
    cases y with
    | byt j => obtain ⟨t', rfl⟩ := ry; exact PySem.W.ne_bytes (fin_bl I q (congrArg not dec_byt))
    | _ => exact absurd (show false = true from hs) Bool.false_ne_true
  | _ => cases y <;> exact absurd (show false = true from hs) Bool.false_ne_true

theorem op_lt : OpR X (compareOp .Lt) (rI0 fun i j => .bl (decide (i < j))) := opB0 fun _ _ _ _ _ _ _ q => lt_int q
theorem op_le : OpR X (compareOp .LtE) (rI0 fun i j => .bl (decide (i ≤ j))) := opB0 fun _ _ _ _ _ _ _ q => le_int q
theorem op_gt : OpR X (compareOp .Gt) (rI0 fun i j => .bl (decide (j < i))) := opB0 fun _ _ _ _ _ _ _ q => gt_int q
theorem op_ge : OpR X (compareOp .GtE) (rI0 fun i j => .bl (decide (j ≤ i))) := opB0 fun _ _ _ _ _ _ _ q => ge_int q
theorem op_isN : OpR X (compareOp .Is) (fun x y H Q => y = .non ∧ Q (.bl (decide (x = .non))) H) := by
  intro pins s σ H x y v u Q I rx ry h
  obtain ⟨rfl, q⟩ := h
  cases ry
  refine is_none_gen (fin_bl I q ?_)
  cases x <;> first
    | (cases rx; rfl)
    | (obtain ⟨t, rfl⟩ := rx; rfl)
theorem nomark (b : Expr) {op : CmpOp} (h : op ≠ .In := by decide) (h2 : op ≠ .NotIn := by decide) : behindInMarks op b = false := by
  have e1 : (op == CmpOp.In) = false := by cases op <;> first | rfl | exact absurd rfl h
  have e2 : (op == CmpOp.NotIn) = false := by cases op <;> first | rfl | exact absurd rfl h2
  cases b <;> simp [behindInMarks, e1, e2]
theorem pe_cmpR {op : CmpOp} {r : R2} (ho : OpR X (compareOp op) r) (ha : PE X a ta) (hb : PE X b tb) (hm : behindInMarks op b = false) : PE X (.Compare a [op] [b] pos) (tOp r ta tb) := by
  intro pins s σ H Q I h
  exact wpAny_Compare1 (binT ha hb I h fun v u s2 x y H2 I2 rx ry q => ho pins s2 σ H2 x y v u Q I2 rx ry q) hm
def tTest (t : TE) : TT := fun σ H Q => t σ H fun x H' => ∃ k, x = .bl k ∧ Q k H'
theorem pt_cmpR {op : CmpOp} {r : R2} (ho : OpR X (compareOp op) r) (ha : PE X a ta) (hb : PE X b tb) (hm : behindInMarks op b = false) : PT X (.Compare a [op] [b] pos) (tTest (tOp r ta tb)) := by
  intro pins s σ H Q I h
  refine wpAny_isTrue_Compare1 (thn (ha pins s σ H _ I h) fun v s1 ⟨x, H1, I1, r1, q1⟩ => thn (hb pins s1 σ H1 _ I1 q1) fun u s2 ⟨y, H2, I2, r2, q2⟩ =>
    thn (ho pins s2 σ H2 x y v u _ I2 r1 r2 q2) fun c s3 ⟨z, H3, I3, r3, k, e, q3⟩ => ?_) hm
  subst e
  cases r3
  exact wpAny_truthy_bool ⟨H3, I3, q3⟩
def tChain (r r' : R2) (ta tb tc : TE) : TE := fun σ H Q => ta σ H fun x H1 => tb σ H1 fun y H2 => r x y H2 fun z H3 => ∃ k, z = .bl k ∧
  (if k = true then tc σ H3 fun w' H4 => r' y w' H4 Q else Q (.bl false) H3)
theorem pe_chain {op op' : CmpOp} {r r' : R2} (ho : OpR X (compareOp op) r) (ho' : OpR X (compareOp op') r') (ha : PE X a ta) (hb : PE X b tb) (hc : PE X c tc)
    (hm : lastMarks [op, op'] [b, c] = false := by with_unfolding_all rfl) : PE X (.Compare a [op, op'] [b, c] pos) (tChain r r' ta tb tc) := by
  intro pins s σ H Q I h
  refine Compare_chain (thn (ha pins s σ H _ I h) fun v s1 ⟨x, H1, I1, r1, q1⟩ => chain_link (thn (hb pins s1 σ H1 _ I1 q1) fun u s2 ⟨y, H2, I2, r2, q2⟩ =>
    thn (ho pins s2 σ H2 x y v u _ I2 r1 r2 q2) fun d s3 ⟨z, H3, I3, r3, k, e, q3⟩ => ?_)) hm
  subst e
  cases r3
  refine wpAny_truthy_bool ?_
  cases k with
  | false => exact ite_ff ⟨.bl false, H3, I3, rfl, q3⟩
  | true => exact ite_tt (chain_last (thn (hc pins s3 σ H3 _ I3 q3) fun w' s4 ⟨z', H4, I4, r4, q4⟩ => ho' pins s4 σ H4 y z' u w' Q I4 r2 r4 q4))
theorem pt_chain {op op' : CmpOp} {r r' : R2} (ho : OpR X (compareOp op) r) (ho' : OpR X (compareOp op') r') (ha : PE X a ta) (hb : PE X b tb) (hc : PE X c tc)
    (hm : lastMarks [op, op'] [b, c] = false := by with_unfolding_all rfl) : PT X (.Compare a [op, op'] [b, c] pos) (tTest (tChain r r' ta tb tc)) := by
  intro pins s σ H Q I h
  refine isTrue_chain (thn (ha pins s σ H _ I h) fun v s1 ⟨x, H1, I1, r1, q1⟩ => test_link (thn (hb pins s1 σ H1 _ I1 q1) fun u s2 ⟨y, H2, I2, r2, q2⟩ =>
    thn (ho pins s2 σ H2 x y v u _ I2 r1 r2 q2) fun d s3 ⟨z, H3, I3, r3, k, e, q3⟩ => ?_)) hm
  subst e
  cases r3
  refine wpAny_truthy_bool ?_
  cases k with
  | false =>
    obtain ⟨k', e', q'⟩ := q3
    cases e'
    exact ite_ff ⟨H3, I3, q'⟩
  | true =>
    refine ite_tt (test_last (thn (hc pins s3 σ H3 _ I3 q3) fun w' s4 ⟨z', H4, I4, r4, q4⟩ => thn (ho' pins s4 σ H4 y z' u w' _ I4 r2 r4 q4) fun d' s5 ⟨z2, H5, I5, r5, k2, e2, q5⟩ => ?_))
    subst e2
    cases r5
    exact wpAny_truthy_bool ⟨H5, I5, q5⟩

/-! ### truth -/
theorem line63 : (sizeLine : Nat) < 2 ^ 63 := by rw [sizeLine_eq]; decide
/-! ### strs and bytes -/
theorem op_add_str : OpR X (binaryOp .Add) (fun x y H Q => ∃ i j, x = .str i ∧ y = .str j ∧ i.length + j.length ≤ sizeLine ∧ Q (.str (i ++ j)) H) := by
  intro pins s σ H x y v u Q I rx ry h
  obtain ⟨i, j, rfl, rfl, hz, q⟩ := h
  obtain ⟨t, rfl⟩ := rx
  obtain ⟨t', rfl⟩ := ry
  exact add_str (fun t' tk => ⟨.str (i ++ j), H, I.tok _, ⟨_, rfl⟩, q⟩) hz
/-! ### scalar builtins, by CallR -/
theorem vals1 {x : V} {us : List Value} (r : Vals [x] us) : ∃ u, us = [u] ∧ RelV x u := by
  cases r with
  | cons r1 r2 => cases r2; exact ⟨_, rfl, r1⟩
theorem call_abs : CallR X (.builtin "abs") (fun xs H Q => ∃ i, xs = [.int i] ∧ Q (.int (if i < 0 then -i else i)) H) := by
  intro pins s σ H xs us Q I r h
  obtain ⟨i, rfl, q⟩ := h
  obtain ⟨u, rfl, t, rfl⟩ := vals1 r
  exact call_abs_int fun u tk => ⟨.int (if i < 0 then -i else i), H, I.tok _, ⟨_, rfl⟩, q⟩
end
end L2

namespace L2
open PySem PySem.Spec PyProof.Rows

/-! ### an instance, its attributes a map -/
structure ObjM (h : Heap) (x dx C : Addr) (mA : Str → Option Value) : Prop where
  obj : h.get? x = some (PySem.W.instObj C dx)
  ns : h.Ns1 dx mA
  ne : dx ≠ x

theorem lookIn_ns {h : Heap} {dx : Addr} {mA : Str → Option Value} (n : h.Ns1 dx mA) : ∃ od, h.get? dx = some od ∧ ∀ name, PySem.W.lookIn name od = some (mA name) := by
  obtain ⟨o, es, ep, ho, hd, hk, _, hm⟩ := n
  refine ⟨o, ho, fun name => ?_⟩
  have e := hm name
  unfold nsFind findBy at e
  rw [← Array.find?_toList] at e
  unfold PySem.W.lookIn
  rw [hd]
  dsimp only
  split
  · rename_i y q
    rw [q] at e
    exact congrArg some e
  · rename_i q
    rw [q] at e
    have a : es.toList.any (·.refKey) = false := by
      rw [List.any_eq_false]
      intro y hy
      obtain ⟨z, t, hkey⟩ := hk y (Array.mem_toList_iff.mp hy)
      simp [DictEntry.refKey, hkey]
    have a' : ¬ es.toList.any (·.refKey) = true := by rw [a]; exact Bool.false_ne_true
    rw [if_neg a']
    exact congrArg some e

theorem ObjM.look {h : Heap} {x dx C : Addr} {mA : Str → Option Value} (I : ObjM h x dx C mA) : ∃ od, PySem.W.InstAt h x (PySem.W.instObj C dx) C (some od) ∧ ∀ name, PySem.W.lookIn name od = some (mA name) :=
  let ⟨od, ho, hl⟩ := lookIn_ns I.ns
  ⟨od, ⟨I.obj, rfl, rfl, ho⟩, hl⟩

section
variable {prog : Program} {w : World} {A : Around} {E : Value → Shared → Prop} {s : Shared} {K : PySem.W.Frag} {x dx C f : Addr} {mA : Str → Option Value} {name : Str} {v : Value}

theorem get_map {expr : Bool} {Q : Value → Shared → Prop} (X : K.In s.heap) (I : ObjM s.heap x dx C mA) (hg : PySem.W.plainGet K C name = true) (hh : PySem.W.hasDictIn K C = true)
    (ha : PySem.W.findIn K (.ref C) name = some none) (hv : mA name = some v) (hv' : PySem.W.handedIn v = true) (h : Q v { s with toks := s.toks + 1 }) :
    wpAny (model prog w) A (getAttr (.ref x) name expr) Q E s := by
  obtain ⟨od, J, hl⟩ := I.look
  exact PySem.W.get_value X J (PySem.W.plainGet_of hg).1 (PySem.W.findObj_own hh ha rfl (by rw [hl, hv])) hv' h

theorem get_meth {pl : Sem Bool} {Q : Value × List Value → Shared → Prop} (X : K.In s.heap) (I : ObjM s.heap x dx C mA) (hg : PySem.W.plainGet K C name = true)
    (hf : PySem.W.findIn K (.ref C) name = some (some (.ref f))) (ht : PySem.W.isFn K (.ref f) = true) (hv : mA name = none) (h : Q (.ref f, [.ref x]) s) :
    wpAny (model prog w) A (getMethod (.ref x) name pl) Q E s := by
  obtain ⟨od, J, hl⟩ := I.look
  exact PySem.W.method_fn X J (PySem.W.plainGet_of hg).1 (PySem.W.plainGet_of hg).2 hf (beq_iff_eq.mp ht) (by show (PySem.W.lookIn name od).map (·.isSome) = some false; rw [hl, hv]; rfl) h

theorem set_map {ns : List Str} {Q : Unit → Shared → Prop} (X : K.In s.heap) (I : ObjM s.heap x dx C mA)
    (hs : PySem.W.findIn K (.ref C) "__setattr__" = some (some (.builtin "object.__setattr__"))) (hp : PySem.W.plainOver K C = true) (ht : PySem.W.takerIn K C name = some none) (hh : PySem.W.hasDictIn K C = true)
    (hw : PySem.Within mA ns) (hsz : ns.length ≤ sizeLine)
    (h : ∀ h', ObjM h' x dx C (fun y => if y = name then some v else mA y) → Heap.SameBut dx s.heap h' → Q () { s with heap := h', toks := s.toks + 2 }) :
    wpAny (model prog w) A (setAttr (.ref x) name v) Q E s := by
  obtain ⟨od, J, hl⟩ := I.look
  refine PySem.W.set_plain X J hs (PySem.W.osa_open (s := { s with toks := s.toks + 1 }) (r := none) X J hp ht fun b => ?_)
  obtain ⟨cd, hc, hd'⟩ := PySem.W.any_some hh
  have hx : s.heap.get? x = some ⟨.ref C, some dx, .plain, #[]⟩ := I.obj
  refine wpAny_bind (wpAny_pure (wpAny_bind (wpAny_bind (wpAny_loadPart hx (wpAny_bind (PySem.W.Looks.here (s := { s with toks := s.toks + 1 }) (PySem.W.looks_clsIn X hc) ?_))))))
  rw [hd']
  refine wpAny_pure (a := some dx) (wpAny_bind (wpAny_pure (wpAny_bind ?_)))
  refine wpAny_nsSet1 (s := { s with toks := s.toks + 1 }) I.ns fun h' hn2 hs2 => ?_
  obtain ⟨oD, esD, epD, hoD, hdD, hcD⟩ := hn2.count (PySem.Within.cons name v hw)
  refine wpAny_bind (wpAny_lookBehind hoD (by rw [hdD]; exact pastItsLine_dict (Nat.le_trans hcD (by rw [List.length_cons]; omega))) ?_)
  exact wpAny_pure (h _ ⟨(hs2.2 _ (Ne.symm I.ne)).trans I.obj, hn2, I.ne⟩ hs2)

theorem make_map {R : Result → Shared → Prop} {vs : List Value} {kw : List (Str × Value)} (X : K.In s.heap) (hm : PySem.W.makesIn K C = true)
    (hi : PySem.W.findIn K (.ref C) "__init__" = some (some (.ref f))) (hf : PySem.W.typeIn K (.ref f) = some (.type "function"))
    (h : codeAny (model prog w) (A.under (.builtin "type.__call__" ⟨.ref C :: vs, kw⟩)) (.call (.ref f) ⟨.ref (s.heap.objs.size + 1) :: vs, kw⟩) (PySem.W.InitBack (s.heap.objs.size + 1) R)
      { s with heap := (s.heap.push PySem.W.emptyDict).push (PySem.W.instObj C s.heap.objs.size) }) :
    codeAny (model prog w) A (.call (.ref C) ⟨vs, kw⟩) R s := by
  obtain ⟨hh, g, d, t, os⟩ := s
  exact PySem.W.make_core (PySem.W.makes_of X hm) (PySem.W.looks_findIn X hi) (fun self => PySem.W.bind_fn X self hf) (.inl rfl) h
end

/-! ### the attributes as a list of pairs -/
def putF (f : Str) (v : V) : List (Str × V) → List (Str × V)
  | [] => [(f, v)]
  | (g, x) :: r => if g = f then (g, v) :: r else (g, x) :: putF f v r
theorem lookup_putF (f g : Str) (v : V) : ∀ fs : List (Str × V), (putF f v fs).lookup g = if g = f then some v else fs.lookup g
  | [] => by
    show List.lookup g [(f, v)] = _
    by_cases h : g = f
    · have hb : (g == f) = true := beq_iff_eq.mpr h
      simp only [List.lookup, hb, if_pos h]
    · have hb : (g == f) = false := beq_eq_false_iff_ne.mpr h
      simp only [List.lookup, hb, if_neg h]
  | (k, x) :: r => by
    have ih := lookup_putF f g v r
    rw [show putF f v ((k, x) :: r) = (if k = f then (k, v) :: r else (k, x) :: putF f v r) from rfl]
    by_cases hk : k = f
    · rw [if_pos hk]
      by_cases h : g = k
      · have hb : (g == k) = true := beq_iff_eq.mpr h
        simp only [List.lookup, hb, if_pos (h.trans hk)]
      · have hb : (g == k) = false := beq_eq_false_iff_ne.mpr h
        simp only [List.lookup, hb, if_neg (fun e : g = f => h (e.trans hk.symm))]
    · rw [if_neg hk]
      by_cases h : g = k
      · have hb : (g == k) = true := beq_iff_eq.mpr h
        simp only [List.lookup, hb, if_neg (fun e : g = f => hk (h.symm.trans e))]
      · have hb : (g == k) = false := beq_eq_false_iff_ne.mpr h
        simp only [List.lookup, hb]
        exact ih
theorem keys_putF (f : Str) (v : V) : ∀ fs : List (Str × V), f ∈ (putF f v fs).map (·.1) ∧ ∀ g, g ∈ fs.map (·.1) → g ∈ (putF f v fs).map (·.1)
  | [] => ⟨by simp [putF], fun g h => by simp at h⟩
  | (k, x) :: r => by
    obtain ⟨i1, i2⟩ := keys_putF f v r
    rw [show putF f v ((k, x) :: r) = (if k = f then (k, v) :: r else (k, x) :: putF f v r) from rfl]
    by_cases hk : k = f
    · rw [if_pos hk]
      subst hk
      exact ⟨by simp, fun g h => by simpa using h⟩
    · rw [if_neg hk]
      refine ⟨?_, fun g h => ?_⟩
      · rw [List.map_cons]
        exact List.mem_cons_of_mem _ i1
      · rw [List.map_cons] at h ⊢
        rcases List.mem_cons.mp h with e | e
        · exact List.mem_cons.mpr (.inl e)
        · exact List.mem_cons_of_mem _ (i2 g e)
theorem length_putF (f : Str) (v : V) : ∀ fs : List (Str × V), (putF f v fs).length ≤ fs.length + 1
  | [] => by simp [putF]
  | (k, x) :: r => by
    have ih := length_putF f v r
    rw [show putF f v ((k, x) :: r) = (if k = f then (k, v) :: r else (k, x) :: putF f v r) from rfl]
    by_cases hk : k = f
    · rw [if_pos hk, List.length_cons, List.length_cons]; omega
    · rw [if_neg hk, List.length_cons, List.length_cons]; omega

theorem RelO.some_of {v : V} {o : Option Value} (r : RelO (some v) o) : ∃ u, o = some u ∧ RelV v u := by
  cases o with
  | none => exact (show False from r).elim
  | some u => exact ⟨u, rfl, r⟩
theorem RelO.none_of {o : Option Value} (r : RelO none o) : o = none := by
  cases o with
  | none => rfl
  | some u => exact (show False from r).elim
theorem handed_of {v : V} {u : Value} (r : RelV v u) : PySem.W.handedIn u = true := by
  cases v with
  | non => cases (show u = Value.none from r); rfl
  | bl b => cases (show u = Value.bool b from r); rfl
  | int i => obtain ⟨t, e⟩ := (show ∃ t, u = Value.int i t from r); cases e; rfl
  | str x => obtain ⟨t, e⟩ := (show ∃ t, u = Value.str x t from r); cases e; rfl
  | byt b => obtain ⟨t, e⟩ := (show ∃ t, u = Value.bytes b t from r); cases e; rfl
  | flt b => obtain ⟨t, e⟩ := (show ∃ t, u = Value.float b t from r); cases e; rfl
  | ref a => cases (show u = Value.ref a from r); rfl
  | ty n => cases (show u = Value.type n from r); rfl

section
variable {P : Program} {w : World} {H H' : Hp} {h h' : Heap} {a C dx : Addr} {fs fs' : List (Str × V)}
theorem ins_get (hok : HOk P w H h) (e : H a = some (.ins C dx fs)) : ∃ mA, ObjM h a dx C mA ∧ (∀ f, RelO (fs.lookup f) (mA f)) ∧ PySem.Within mA (fs.map (·.1)) ∧ fs.length ≤ 1000 ∧ H dx = some (.own a) := by
  obtain ⟨d, z, ne, ob, mA, n, r, q⟩ := (show ObjOk P w H h a (.ins C dx fs) from hok a _ e)
  exact ⟨mA, ⟨ob, n, ne⟩, r, q, z, d⟩
end

/-! ### what of the text a class must have -/
structure Cls (K : PySem.W.Frag) (C : Addr) : Prop where
  pg : PySem.W.plainGet K C Str.empty = true
  hd : PySem.W.hasDictIn K C = true
  po : PySem.W.plainOver K C = true
  sa : PySem.W.findIn K (.ref C) "__setattr__" = some (some (.builtin "object.__setattr__"))
theorem Cls.get {K : PySem.W.Frag} {C : Addr} (c : Cls K C) (f : Str) : PySem.W.plainGet K C f = true := c.pg
def NoAttr (K : PySem.W.Frag) (C : Addr) (f : Str) : Prop := PySem.W.findIn K (.ref C) f = some none
theorem NoAttr.taker {K : PySem.W.Frag} {C : Addr} {f : Str} (n : NoAttr K C f) : PySem.W.takerIn K C f = some none := by
  unfold PySem.W.takerIn
  rw [show PySem.W.findIn K (.ref C) f = some none from n]
  rfl
structure Meth (K : PySem.W.Frag) (C : Addr) (m : Str) (f : Addr) : Prop where
  at_ : PySem.W.findIn K (.ref C) m = some (some (.ref f))
  fn : PySem.W.isFn K (.ref f) = true
  kp : PySem.W.keepIn K (.ref f) = true

section
variable {X : Cx} {pins : List (Addr × Obj)} {σ : St} {H : Hp} {s : Shared} {a C dx : Addr} {fs : List (Str × V)} {f : Str} {v : V} {A : Around} {E : Value → Shared → Prop}

theorem getattr_ok {b : Bool} {Q : Value → Shared → Prop} (I : Inv X pins σ H s) (e : H a = some (.ins C dx fs)) (c : Cls X.K C) (n : NoAttr X.K C f) (l : fs.lookup f = some v)
    (h : ∀ u s', Inv X pins σ H s' → RelV v u → Q u s') : wpAny (model X.prog X.w) A (getAttr (.ref a) f b) Q E s := by
  obtain ⟨mA, O, r, _, _, _⟩ := ins_get I.hok e
  obtain ⟨u, hu, ru⟩ := RelO.some_of (v := v) (o := mA f) (by rw [← l]; exact r f)
  exact get_map I.kIn O (c.get f) c.hd n hu (handed_of ru) (h u _ (I.tok _) ru)

theorem getmeth_ok {m : Str} {g : Addr} {pl : Sem Bool} {Q : Value × List Value → Shared → Prop} (I : Inv X pins σ H s) (e : H a = some (.ins C dx fs)) (c : Cls X.K C) (k : Meth X.K C m g) (l : fs.lookup m = none)
    (h : Q (.ref g, [.ref a]) s) : wpAny (model X.prog X.w) A (getMethod (.ref a) m pl) Q E s := by
  obtain ⟨mA, O, r, _, _, _⟩ := ins_get I.hok e
  have hn : mA m = none := RelO.none_of (by rw [← l]; exact r m)
  exact get_meth I.kIn O (c.get m) k.at_ k.fn hn h

theorem setattr_ok {y : V} {u : Value} {Q : Unit → Shared → Prop} (I : Inv X pins σ H s) (e : H a = some (.ins C dx fs)) (c : Cls X.K C) (n : NoAttr X.K C f) (hl : fs.length < 1000) (ry : RelV y u)
    (h : ∀ s', Inv X pins σ (upd H a (.ins C dx (putF f y fs))) s' → Q () s') : wpAny (model X.prog X.w) A (setAttr (.ref a) f u) Q E s := by
  obtain ⟨mA, O, r, wi, _, ho⟩ := ins_get I.hok e
  have hz : (fs.map (·.1)).length ≤ sizeLine := by rw [List.length_map, sizeLine_eq]; omega
  refine set_map I.kIn O c.sa c.po n.taker c.hd wi hz fun h' O' sb => h _ ?_
  have hd : ∃ o, h'.get? dx = some o := let ⟨o, _, _, e', _⟩ := O'.ns; ⟨o, e'⟩
  refine I.write (x := a) (e := dx) (by rw [e]; exact True.intro) (.inr ho) (fun b q hb z => (sb.2 b hb).trans z) hd ?_
  refine ⟨by rw [upd_ne O.ne]; exact ho, ?_, O.ne, O'.obj, _, O'.ns, fun g => ?_, fun g hg => ?_⟩
  · have := length_putF f y fs; omega
  · show RelO ((putF f y fs).lookup g) (if g = f then some u else mA g)
    rw [lookup_putF]
    by_cases q : g = f
    · rw [if_pos q, if_pos q]; exact ry
    · rw [if_neg q, if_neg q]; exact r g
  · by_cases q : g = f
    · rw [q]; exact (keys_putF f y fs).1
    · refine (keys_putF f y fs).2 g (wi g fun z => hg ?_)
      show (if g = f then some u else mA g) = none
      rw [if_neg q]; exact z

theorem Inv.made (I : Inv X pins σ H s) : Inv X pins σ (upd (upd H s.heap.objs.size (.own (s.heap.objs.size + 1))) (s.heap.objs.size + 1) (.ins C s.heap.objs.size []))
    { s with heap := (s.heap.push PySem.W.emptyDict).push (PySem.W.instObj C s.heap.objs.size) } := by
  have e1 : (s.heap.push PySem.W.emptyDict).get? s.heap.objs.size = some PySem.W.emptyDict := Heap.get?_push_size s.heap rfl
  have e2 : ((s.heap.push PySem.W.emptyDict).push (PySem.W.instObj C s.heap.objs.size)).get? (s.heap.objs.size + 1) = some (PySem.W.instObj C s.heap.objs.size) := by
    have := Heap.get?_push_size (s.heap.push PySem.W.emptyDict) (o := PySem.W.instObj C s.heap.objs.size) rfl
    rwa [Heap.size_push] at this
  have e3 : (s.heap.push PySem.W.emptyDict).Ns s.heap.objs.size (fun _ => none) := ⟨PySem.W.emptyDict, #[], _, e1, rfl, (fun e he => absurd he (by simp)), fun _ => rfl⟩
  have I1 := I.laid (a := s.heap.objs.size) (o := .own (s.heap.objs.size + 1)) (h' := s.heap.push PySem.W.emptyDict) (t' := s.toks) (fun b u q => Heap.get?_push_of_some _ q) (Nat.le_refl _) ⟨_, e1⟩
  refine I1.laid (a := s.heap.objs.size + 1) (o := .ins C s.heap.objs.size []) (t' := s.toks) (fun b u q => Heap.get?_push_of_some _ q) (Nat.le_of_eq (Heap.size_push _ _)) ?_
  have ne : s.heap.objs.size ≠ s.heap.objs.size + 1 := Nat.ne_of_lt (Nat.lt_succ_self _)
  refine ⟨by rw [upd_ne ne, upd_same], Nat.zero_le _, ne, e2, fun _ => none, (Heap.Ns1.of_empty e3).at fun o q => Heap.get?_push_of_some _ q, fun _ => True.intro, fun y hy => absurd rfl hy⟩

theorem attr_of {prog : Program} {w : World} {env : Env} {e : Expr} {f : Str} {pos : Pos} {s : Shared} {Q : Value → Shared → Prop} (hb : attributeBase e f env (eval e env) = eval e env)
    (h : wpAny (model prog w) A (eval e env) (fun o s₁ => wpAny (model prog w) A (getAttr o f true) Q E s₁) E s) : wpAny (model prog w) A (eval (.Attribute e f pos) env) Q E s :=
  Attribute_any_ h (by rw [arm_eval_Attribute, hb])
end

/-! ### readings and rules -/
def tFld (K : PySem.W.Frag) (ta : TE) (f : Str) : TE := fun σ H Q => ta σ H fun x H1 => ∃ a C dx fs v, x = .ref a ∧ H1 a = some (.ins C dx fs) ∧ Cls K C ∧ NoAttr K C f ∧ fs.lookup f = some v ∧ Q v H1
def sFld (K : PySem.W.Frag) (ta tv : TE) (f : Str) : TS := fun D σ H => tv σ H fun y H1 => ta σ H1 fun x H2 => ∃ a C dx fs, x = .ref a ∧ H2 a = some (.ins C dx fs) ∧ Cls K C ∧ NoAttr K C f ∧ fs.length < 1000 ∧
  D.nx σ (upd H2 a (.ins C dx (putF f y fs)))
section
variable {X : Cx} {o e value : Expr} {f : Str} {pos pos' tpos : Pos} {ta tv : TE}
theorem pe_fld (he : PE X e ta) (hb : attributeBase e f X.env (eval e X.env) = eval e X.env) : PE X (.Attribute e f pos) (tFld X.K ta f) := by
  intro pins s σ H Q I h
  refine attr_of hb (thn (he pins s σ H _ I h) fun u s1 ⟨x, H1, I1, rx, a, C, dx, fs, v, ex, ea, c, n, l, q⟩ => ?_)
  subst ex
  obtain rfl : u = Value.ref a := rx
  exact getattr_ok I1 ea c n l fun u' s2 I2 ru => ⟨v, H1, I2, ru, q⟩
theorem ps_fld (ha : PE X o ta) (hv : PE X value tv) (hs : swapsWith value (some (.Attribute o f pos')) pos.line X.env = pure false) : PS X (.Assign [.Attribute o f pos'] value pos) (sFld X.K ta tv f) := by
  intro pins s σ H D I h
  refine plainObj_wpAny_Assign_Attribute (thn (hv pins s σ H _ I h) fun u s1 ⟨y, H1, I1, ry, q⟩ => thn (ha pins s1 σ H1 _ I1 q) fun ov s2 ⟨x, H2, I2, rx, a, C, dx, fs, ex, ea, c, n, l, q2⟩ => ?_) hs
  subst ex
  obtain rfl : ov = Value.ref a := rx
  exact setattr_ok I2 ea c n l ry fun s3 I3 => ⟨σ, _, I3, q2⟩
end

/-! ### isinstance -/
section
variable {X : Cx} {pins : List (Addr × Obj)} {σ : St} {H : Hp} {s : Shared} {A : Around} {E : Value → Shared → Prop} {Q : Value → Shared → Prop} {c : Value} {b : Bool}
inductive TyOf (K : PySem.W.Frag) (H : Hp) : V → Value → Prop where
  | non : TyOf K H .non (.type "NoneType")
  | bl (x : Bool) : TyOf K H (.bl x) (.type "bool")
  | int (i : Int) : TyOf K H (.int i) (.type "int")
  | str (x : Str) : TyOf K H (.str x) (.type "str")
  | flt (x : UInt64) : TyOf K H (.flt x) (.type "float")
  | lst {a : Addr} {xs : List V} (e : H a = some (.lst xs)) : TyOf K H (.ref a) (.type "list")
  | frz {a : Addr} {o : Obj} {xs : List V} (e : H a = some (.frz o (.lst xs))) : TyOf K H (.ref a) (.type "list")
  | tup {a : Addr} {xs : List V} (e : H a = some (.tup xs)) : TyOf K H (.ref a) (.type "tuple")
  | dK {a : Addr} {kvs : List (Key × V)} (e : H a = some (.dK kvs)) : TyOf K H (.ref a) (.type "dict")
  | dT {a : Addr} {kvs : List (List Key × V)} (e : H a = some (.dT kvs)) : TyOf K H (.ref a) (.type "dict")
  | ins {a C dx : Addr} {fs : List (Str × V)} (e : H a = some (.ins C dx fs)) (cl : Cls K C) (ha : PySem.W.findIn K (.ref C) "__class__" = some (some (.builtin "object.__class__")))
      (hn : PySem.W.specialIn K (.builtin "object.__class__") "__get__" = some (some (.builtin "getset_descriptor.__get__"))) (htk : PySem.W.takesIn K (.builtin "object.__class__") = some true)
      (hm : PySem.W.mroIn K C (.type "object") = some true) : TyOf K H (.ref a) (.ref C)
theorem isinst_ok {x : V} {u t : Value} (I : Inv X pins σ H s) (rx : RelV x u) (ty : TyOf X.K H x t) (e : PySem.W.kitOne X.K t c = some b) (h : ∀ tk, Q (.bool b) { s with toks := tk }) :
    wpAny (model X.prog X.w) A (call (.builtin "isinstance") [u, c]) Q E s := by
  cases ty with
  | non => cases (show u = Value.none from rx); exact PySem.W.kia_one PySem.W.kitx_none I.kIn True.intro e (fun z => nomatch z) h
  | bl y => cases (show u = Value.bool y from rx); exact PySem.W.kia_one PySem.W.kitx_bool I.kIn True.intro e (fun z => nomatch z) h
  | int i => obtain ⟨t, q⟩ := (show ∃ t, u = Value.int i t from rx); cases q; exact PySem.W.kia_one PySem.W.kitx_int I.kIn True.intro e (fun z => nomatch z) h
  | str y => obtain ⟨t, q⟩ := (show ∃ t, u = Value.str y t from rx); cases q; exact PySem.W.kia_one PySem.W.kitx_str I.kIn True.intro e (fun z => nomatch z) h
  | flt y => obtain ⟨t, q⟩ := (show ∃ t, u = Value.float y t from rx); cases q; exact PySem.W.kia_one PySem.W.kitx_float I.kIn True.intro e (fun z => nomatch z) h
  | @lst a xs ea =>
    cases (show u = Value.ref a from rx)
    obtain ⟨_, _, n, _, h1⟩ := (show ObjOk X.prog X.w H s.heap a (.lst xs) from I.hok a _ ea)
    exact PySem.W.kia_one PySem.W.kitx_list I.kIn ⟨_, h1, rfl⟩ e (fun z => nomatch z) h
  | @frz a ob xs ea =>
    cases (show u = Value.ref a from rx)
    obtain ⟨_, _, _, n, _, h1⟩ := (show ObjOk X.prog X.w H s.heap a (.frz ob (.lst xs)) from I.hok a _ ea)
    exact PySem.W.kia_one PySem.W.kitx_list I.kIn ⟨_, h1, rfl⟩ e (fun z => nomatch z) h
  | @tup a xs ea =>
    cases (show u = Value.ref a from rx)
    obtain ⟨_, _, _, p⟩ := (show ObjOk X.prog X.w H s.heap a (.tup xs) from I.hok a _ ea)
    obtain ⟨o, h1, h2, _⟩ := p
    exact PySem.W.kia_one PySem.W.kitx_tuple I.kIn ⟨o, h1, h2⟩ e (fun z => nomatch z) h
  | @dK a kvs ea =>
    cases (show u = Value.ref a from rx)
    obtain ⟨_, _, vs, _, p⟩ := (show ObjOk X.prog X.w H s.heap a (.dK kvs) from I.hok a _ ea)
    obtain ⟨o, es, ep, h1, h2, _⟩ := p
    exact PySem.W.kia_one PySem.W.kitx_dict I.kIn ⟨o, h1, h2.1⟩ e (fun z => nomatch z) h
  | @dT a kvs ea =>
    cases (show u = Value.ref a from rx)
    obtain ⟨_, _, xs, _, o, es, ep, h1, h2, _⟩ := (show ObjOk X.prog X.w H s.heap a (.dT kvs) from I.hok a _ ea)
    exact PySem.W.kia_one PySem.W.kitx_dict I.kIn ⟨o, h1, h2.1⟩ e (fun z => nomatch z) h
  | @ins a C dx fs ea cl ha hn htk hm =>
    cases (show u = Value.ref a from rx)
    obtain ⟨mA, O, _⟩ := ins_get I.hok ea
    obtain ⟨od, J, _⟩ := O.look
    exact PySem.W.kia_one (PySem.W.kitx_own (cl.get _) cl.hd ha hn htk hm) I.kIn J e (fun z => nomatch z) h
end
end L2

namespace L2
open PySem PySem.Spec PyProof.Rows

/-! ### room -/
structure Room (k : Nat) (A : Around) : Prop where
  hd : A.handled = none
  dp : A.depth + 3 * k + 5 < recursionLimit
  un : A.units + 16 * k + 200 < cLine
theorem Room.mono {j k : Nat} {A : Around} (r : Room k A) (h : j ≤ k) : Room j A := ⟨r.hd, by have := r.dp; omega, by have := r.un; omega⟩
theorem Room.deeper {k : Nat} {A : Around} (r : Room (k + 1) A) (env : Env) : Room k (A.deeper env) :=
  ⟨r.hd, by have := r.dp; show A.depth + 1 + 3 * k + 5 < _; omega, by have := r.un; show A.units + 3 + 16 * k + 200 < _; omega⟩
theorem make_depth {A : Around} {C : Addr} {us : List Value} {kw : List (Str × Value)} : (A.under (.builtin "type.__call__" ⟨.ref C :: us, kw⟩)).depth = A.depth + 1 := by
  first | rfl | simp [Around.under, Code.weight, Code.isCreation, Code.isGuard, Code.isCaller, Code.frames, Code.isFrame, guardIds]
theorem make_units {A : Around} {C : Addr} {us : List Value} {kw : List (Str × Value)} : (A.under (.builtin "type.__call__" ⟨.ref C :: us, kw⟩)).units = A.units + 1 := by
  first | rfl | simp [Around.under, Code.cUnits, Code.frames, Code.isFrame]
theorem Room.make {k : Nat} {A : Around} (r : Room (k + 1) A) (C : Addr) (us : List Value) (kw : List (Str × Value)) : Room k (A.under (.builtin "type.__call__" ⟨.ref C :: us, kw⟩)) :=
  ⟨r.hd, by have := r.dp; rw [make_depth]; omega, by have := r.un; rw [make_units]; omega⟩
theorem Room.depth {k : Nat} {A : Around} (r : Room k A) : A.depth < recursionLimit := by have := r.dp; omega
theorem Room.units {k : Nat} {A : Around} (r : Room k A) : A.units + 64 < cLine := by have := r.un; omega
theorem Room.units0 {k : Nat} {A : Around} (r : Room k A) : A.units < cLine := by have := r.un; omega

/-! ### argument lists and displays -/
def tNil : TA := fun _ H Q => Q [] H
def tCons (ta : TE) (tr : TA) : TA := fun σ H Q => ta σ H fun x H1 => tr σ H1 fun xs H2 => Q (x :: xs) H2
section
variable {X : Cx} {e : Expr} {es : List Expr} {te : TE} {t : TA} {pos : Pos}
theorem pa_nil : PA X [] tNil := fun _ _ _ _ H Q I h => Calls.spliced_nil ⟨[], H, I, .nil, h⟩
theorem pa_cons (ha : PE X e te) (hr : PA X es t) (hs : starEach (e :: es) X.env = (false, eval e X.env) :: starEach es X.env := by rfl) : PA X (e :: es) (tCons te t) := by
  intro pos pins s σ H Q I h
  rw [hs]
  show wpAny _ _ (spliced ((false, eval e X.env) :: backTo pos (starEach es X.env))) _ _ s
  refine Calls.spliced_cons (thn (ha pins s σ H _ I h) fun u s1 ⟨x, H1, I1, r1, q1⟩ => ?_)
  exact thn (hr pos pins s1 σ H1 _ I1 q1) fun us s2 ⟨xs, H2, I2, r2, q2⟩ => ⟨x :: xs, H2, I2, .cons r1 r2, q2⟩

def tTup (t : TA) : TE := fun σ H Q => t σ H fun xs H1 => xs.length ≤ sizeLine ∧ ∀ p, H1 p = none → Q (.ref p) (upd H1 p (.tup xs))
def tLst (t : TA) : TE := fun σ H Q => t σ H fun xs H1 => xs.length ≤ sizeLine ∧ ∀ p, H1 p = none → Q (.ref p) (upd H1 p (.lst xs))
theorem pe_tup {x1} (h : PA X es t) : PE X (.Tuple es x1 pos) (tTup t) := by
  intro pins s σ H Q I hq
  refine wpAny_Tuple_spliced (thn (h pos pins s σ H _ I hq) fun us s1 ⟨xs, H1, I1, r, z, q⟩ => ⟨by rw [← r.length]; exact z, ?_⟩)
  have hf : H1 s1.heap.objs.size = none := I1.hok.fresh (Nat.le_refl _)
  refine ⟨.ref s1.heap.objs.size, upd H1 s1.heap.objs.size (.tup xs), I1.laid (t' := s1.toks) (fun b u e => Heap.get?_push_of_some _ e) (Nat.le_refl _) ?_, rfl, q _ hf⟩
  exact ⟨z, us, r, ⟨_, Heap.get?_push_size _ rfl, rfl, _, rfl⟩⟩
theorem pe_lst (h : PA X es t) : PE X (.List es pos) (tLst t) := by
  intro pins s σ H Q I hq
  refine wpAny_List_spliced (thn (h pos pins s σ H _ I hq) fun us s1 ⟨xs, H1, I1, r, z, q⟩ => ⟨by rw [← r.length]; exact z, ?_⟩)
  have hf : H1 s1.heap.objs.size = none := I1.hok.fresh (Nat.le_refl _)
  refine ⟨.ref s1.heap.objs.size, upd H1 s1.heap.objs.size (.lst xs), I1.laid (t' := s1.toks) (fun b u e => Heap.get?_push_of_some _ e) (Nat.le_refl _) ?_, rfl, q _ hf⟩
  exact ⟨z, us, 0, r, Heap.get?_push_size _ rfl⟩
end

/-! ### what a def promises -/
abbrev Sp := List V → Hp → VK → XK → Prop
abbrev CXT := List Env → Hp → Shared → XK → Value → Shared → Prop

structure Env0 (P : Program) (w : World) (K : PySem.W.Frag) (mg : Str → Option Value) (base : Heap) (A : Around) (outer : List Env) (s : Shared) (H : Hp) : Prop where
  frames : A.frames = some outer
  mod : Mod K mg base
  bs : ∀ b o, base.get? b = some o → s.heap.get? b = some o ∧ H b = none
  bsz : base.objs.size ≤ s.heap.objs.size
  funs : s.heap.FunFrames base outer
  frf : ∀ b ∈ frs outer, H b = none
  hok : HOk P w H s.heap
  bare : AllBare s.gens
def CE (outer : List Env) (P : Program) (w : World) (H : Hp) (s : Shared) (Q : VK) (u : Value) (s' : Shared) : Prop :=
  ∃ v H', s'.os = s.os ∧ AllBare s'.gens ∧ Un (frs outer) [] H H' s.heap s'.heap ∧ HOk P w H' s'.heap ∧ RelV v u ∧ Q v H'
def CR (CX : CXT) (outer : List Env) (P : Program) (w : World) (H : Hp) (s : Shared) (Q : VK) (E : XK) (r : Result) (s' : Shared) : Prop :=
  match r with
  | .ok (.ret u) => CE outer P w H s Q u s'
  | .ok _ => False
  | .error e => CX outer H s E e s'
structure FnOk (P : Program) (w : World) (K : PySem.W.Frag) (mg : Str → Option Value) (base : Heap) (CX : CXT) (k : Nat) (f : Addr) (fd : FuncData) (ps : List Str) (sp : Sp) : Prop where
  len : ∀ vs H Q E, sp vs H Q E → vs.length = ps.length
  run : ∀ (A : Around) (outer : List Env) (s : Shared) (H : Hp) (args : Args) (us : List Value) (vs : List V) (Q : VK) (E : XK), Room k A → Env0 P w K mg base A outer s H → BindsTo s fd args (ps.zip us) → Vals vs us → sp vs H Q E →
    codeAny (model P w) A (.call (.ref f) args) (CR CX outer P w H s Q E) s
theorem Env0.make {P : Program} {w : World} {K : PySem.W.Frag} {mg : Str → Option Value} {base : Heap} {A : Around} {outer : List Env} {s : Shared} {H : Hp} (e : Env0 P w K mg base A outer s H) (C : Addr) (us : List Value) (kw : List (Str × Value)) :
    Env0 P w K mg base (A.under (.builtin "type.__call__" ⟨.ref C :: us, kw⟩)) outer s H := ⟨by first | exact e.frames | (simpa [Around.under, Code.envs, Code.isFrame, pushEnvs] using e.frames), e.mod, e.bs, e.bsz, e.funs, e.frf, e.hok, e.bare⟩
section
variable {X : Cx} {pins : List (Addr × Obj)} {σ : St} {H : Hp} {s s' : Shared}
theorem Inv.env0 (I : Inv X pins σ H s) : Env0 X.prog X.w X.K X.mg X.base X.A X.stack s H :=
  ⟨I.ok.frames, I.ok.mod, I.bs, Nat.le_trans I.ok.bsz I.sz, I.stack, I.stkFree, I.hok, I.bare⟩
theorem Inv.after {Q : VK} {u : Value} (I : Inv X pins σ H s) (h : CE X.stack X.prog X.w H s Q u s') : EP X pins σ Q u s' := by
  obtain ⟨v, H', os, bare, un, hok, r, q⟩ := h
  obtain ⟨hh, g, d, t, os'⟩ := s'
  obtain rfl : os' = s.os := os
  exact ⟨v, H', I.call (h' := hh) (g' := g) (d' := d) (t' := t) (ch := []) un hok bare (fun b z => absurd z (by simp)), r, q⟩
end

/-! ### calls -/
def tCall (sp : Sp) (dvs : List V) (E : XK) (t : TA) : TE := fun σ H Q => t σ H fun vs H1 => sp (vs ++ dvs) H1 Q E
def tMeth (C : Addr) (m : Str) (sp : Sp) (dvs : List V) (E : XK) (ta : TE) (t : TA) : TE := fun σ H Q => ta σ H fun x H1 => ∃ a dx fs, x = .ref a ∧ H1 a = some (.ins C dx fs) ∧ fs.lookup m = none ∧
  t σ H1 fun vs H2 => sp (x :: (vs ++ dvs)) H2 Q E
def tMake (C : Addr) (sp : Sp) (dvs : List V) (E : XK) (t : TA) : TE := fun σ H Q => t σ H fun vs H1 => ∀ x dx, H1 x = none → H1 dx = none → dx ≠ x →
  sp (.ref x :: (vs ++ dvs)) (upd (upd H1 dx (.own x)) x (.ins C dx [])) (fun v H2 => v = .non ∧ Q (.ref x) H2) E

def Binds (K : PySem.W.Frag) (fd : FuncData) (ps : List Str) (ds : List Value) : Prop :=
  ∀ (s : Shared) (us : List Value), K.In s.heap → (us ++ ds).length = ps.length → BindsTo s fd ⟨us, []⟩ (ps.zip (us ++ ds))
theorem Binds.all {K : PySem.W.Frag} {fd : FuncData} {ps : List Str} (h : ∀ us : List Value, us.length = ps.length → bindArgs fd ⟨us, []⟩ = pure (ps.zip us)) : Binds K fd ps [] := fun s us _ hl => by
  rw [List.append_nil] at hl ⊢
  exact .of_eq (h us hl)

def Passes (CX : CXT) (X : Cx) (E : XK) : Prop := ∀ (pins : List (Addr × Obj)) (σ : St) (H : Hp) (s : Shared) (e : Value) (s' : Shared), Inv X pins σ H s → CX X.stack H s E e s' → X.xe e s'

section
variable {X : Cx} {CX : CXT} {k : Nat} {f C : Addr} {fd : FuncData} {ps : List Str} {sp : Sp} {dvs : List V} {ds : List Value} {E : XK} {x m : Str} {p pos apos : Pos} {e o : Expr} {es : List Expr} {ta : TE} {t : TA}

theorem run_fn {pins : List (Addr × Obj)} {σ : St} {H : Hp} {s : Shared} {Q : VK} {us : List Value} {vs : List V} (F : FnOk X.prog X.w X.K X.mg X.base CX k f fd ps sp) (hr : Room k X.A) (hb : Binds X.K fd ps ds) (hd : Vals dvs ds) (hx : Passes CX X E)
    (I : Inv X pins σ H s) (r : Vals vs us) (h : sp (vs ++ dvs) H Q E) : wpAny (model X.prog X.w) X.A (call (.ref f) us) (EP X pins σ Q) X.xe s := by
  have r2 : Vals (vs ++ dvs) (us ++ ds) := r.append hd
  have hl : (us ++ ds).length = ps.length := by rw [← r2.length]; exact F.len _ _ _ _ h
  refine wpAny_call (codeAny_mono (F.run X.A X.stack s H ⟨us, []⟩ (us ++ ds) (vs ++ dvs) Q E hr I.env0 (hb s us I.kIn hl) r2 h) fun r s' hq => ?_)
  cases r with
  | error e => exact hx pins σ H s e s' I hq
  | ok fl =>
    cases fl with
    | ret u => exact I.after hq
    | next => exact False.elim hq
    | brk => exact False.elim hq
    | cont => exact False.elim hq

theorem pe_call (F : FnOk X.prog X.w X.K X.mg X.base CX k f fd ps sp) (hr : Room k X.A) (hg : Gl X x) (hm : X.mg x = some (.ref f)) (hk : PySem.W.keepIn X.K (.ref f) = true) (hb : Binds X.K fd ps ds) (hd : Vals dvs ds) (hx : Passes CX X E)
    (ha : PA X (e :: es) t) (hdb : (x == ("__debug__" : Str)) = false := by decide) (he : starEach (e :: es) X.env = (false, eval e X.env) :: starEach es X.env := by rfl) (hpl : (backTo pos (starEach es X.env)).any (·.1) = false := by rfl) :
    PE X (.Call (.Name x p) (e :: es) [] pos) (tCall sp dvs E t) := by
  intro pins s σ H Q I h
  refine wpAny_Call_Name_kw (ld_glob I hg hm ?_ hdb)
  refine PySem.W.callWith_K (h₀ := X.base) I.ok.mod.kin hk (thn (ha pos pins s σ H _ I h) fun us s1 ⟨vs, H1, I1, r, q⟩ => ⟨I1.kIn, ?_⟩) he hpl
  exact run_fn F hr hb hd hx I1 r q
theorem pe_meth {pl : Sem Bool} (he : PE X o ta) (c : Cls X.K C) (hm : Meth X.K C m f) (F : FnOk X.prog X.w X.K X.mg X.base CX k f fd ps sp) (hr : Room k X.A) (hb : Binds X.K fd ps ds) (hd : Vals dvs ds) (hx : Passes CX X E) (ha : PA X (e :: es) t)
    (hst : starEach (e :: es) X.env = (false, eval e X.env) :: starEach es X.env := by rfl) (hpl : (backTo pos (starEach es X.env)).any (·.1) = false := by rfl)
    (ht : eval (.Call (.Attribute o m apos) (e :: es) [] pos) X.env = (do
      let ov ← eval o X.env
      standAt apos.atName
      let (f, first) ← holding [ov] (getMethod ov m pl)
      callWith pos f first (backTo pos (starEach (e :: es) X.env)) (backToKw pos (keywordEach [] X.env))) := by rfl) :
    PE X (.Call (.Attribute o m apos) (e :: es) [] pos) (tMeth C m sp dvs E ta t) := by
  intro pins s σ H Q I h
  refine PySem.W.methodCall_KW (pl := pl) (thn (he pins s σ H _ I h) fun u s1 ⟨x, H1, I1, rx, a, dx, fs, ex, ea, l, q⟩ => ?_) ht
  subst ex
  obtain rfl : u = Value.ref a := rx
  refine getmeth_ok I1 ea c hm l ?_
  refine PySem.W.callWith_K (first := [.ref a]) (h₀ := X.base) I.ok.mod.kin hm.kp (thn (ha pos pins s1 σ H1 _ I1 q) fun us s2 ⟨vs, H2, I2, r, q2⟩ => ⟨I2.kIn, ?_⟩) hst hpl
  exact run_fn (us := .ref a :: us) (vs := .ref a :: vs) F hr hb hd hx I2 (.cons rfl r) q2
theorem pe_meth0 {pl : Sem Bool} (he : PE X o ta) (c : Cls X.K C) (hm : Meth X.K C m f) (F : FnOk X.prog X.w X.K X.mg X.base CX k f fd ps sp) (hr : Room k X.A) (hb : Binds X.K fd ps ds) (hd : Vals dvs ds) (hx : Passes CX X E)
    (ht : eval (.Call (.Attribute o m apos) [] [] pos) X.env = (do
      let ov ← eval o X.env
      standAt apos.atName
      let (f, first) ← holding [ov] (getMethod ov m pl)
      callWith pos f first (backTo pos (starEach [] X.env)) (backToKw pos (keywordEach [] X.env))) := by rfl) :
    PE X (.Call (.Attribute o m apos) [] [] pos) (tMeth C m sp dvs E ta tNil) := by
  intro pins s σ H Q I h
  refine PySem.W.methodCall_KW (pl := pl) (thn (he pins s σ H _ I h) fun u s1 ⟨x, H1, I1, rx, a, dx, fs, ex, ea, l, q⟩ => ?_) ht
  subst ex
  obtain rfl : u = Value.ref a := rx
  refine getmeth_ok I1 ea c hm l ?_
  exact PySem.W.callWith_K0 (first := [.ref a]) I1.kIn hm.kp (run_fn (us := [.ref a]) (vs := [.ref a]) F hr hb hd hx I1 (.cons rfl .nil) q)

structure Mk (K : PySem.W.Frag) (C f : Addr) : Prop where
  makes : PySem.W.makesIn K C = true
  init : PySem.W.findIn K (.ref C) "__init__" = some (some (.ref f))
  fn : PySem.W.isFn K (.ref f) = true
  kp : PySem.W.keepIn K (.ref C) = true

theorem run_make {pins : List (Addr × Obj)} {σ : St} {H : Hp} {s : Shared} {Q : VK} {us : List Value} {vs : List V} (M : Mk X.K C f) (F : FnOk X.prog X.w X.K X.mg X.base CX k f fd ps sp) (hr : Room (k + 1) X.A) (hb : Binds X.K fd ps ds) (hd : Vals dvs ds)
    (hx : Passes CX X E) (I : Inv X pins σ H s) (r : Vals vs us)
    (h : ∀ x dx, H x = none → H dx = none → dx ≠ x → sp (.ref x :: (vs ++ dvs)) (upd (upd H dx (.own x)) x (.ins C dx [])) (fun v H2 => v = .non ∧ Q (.ref x) H2) E) :
    wpAny (model X.prog X.w) X.A (call (.ref C) us) (EP X pins σ Q) X.xe s := by
  have hq := h (s.heap.objs.size + 1) s.heap.objs.size (I.hok.fresh (Nat.le_succ _)) (I.hok.fresh (Nat.le_refl _)) (Nat.ne_of_lt (Nat.lt_succ_self _))
  have I2 := Inv.made (C := C) I
  have r2 : Vals (V.ref (s.heap.objs.size + 1) :: (vs ++ dvs)) (Value.ref (s.heap.objs.size + 1) :: (us ++ ds)) := .cons rfl (r.append hd)
  have hl : (Value.ref (s.heap.objs.size + 1) :: us ++ ds).length = ps.length := by
    have e := r2.length
    rw [F.len _ _ _ _ hq] at e
    exact e.symm
  refine wpAny_call (make_map (f := f) I.kIn M.makes M.init (beq_iff_eq.mp M.fn) (codeAny_mono (F.run _ X.stack _ _ ⟨Value.ref (s.heap.objs.size + 1) :: us, []⟩ (Value.ref (s.heap.objs.size + 1) :: (us ++ ds)) _ _ E (hr.make C us [])
    (I2.env0.make C us []) (hb _ (Value.ref (s.heap.objs.size + 1) :: us) I2.kIn hl) r2 hq) fun r s' hq' => ?_))
  cases r with
  | error e => exact hx pins σ _ _ e s' I2 hq'
  | ok fl =>
    cases fl with
    | ret u =>
      obtain ⟨v, H', I3, rv, ev, q3⟩ := I2.after hq'
      subst ev
      exact ⟨rv, ⟨V.ref (s.heap.objs.size + 1), H', I3, rfl, q3⟩⟩
    | next => exact False.elim hq'
    | brk => exact False.elim hq'
    | cont => exact False.elim hq'
theorem pe_make (M : Mk X.K C f) (F : FnOk X.prog X.w X.K X.mg X.base CX k f fd ps sp) (hr : Room (k + 1) X.A) (hg : Gl X x) (hm : X.mg x = some (.ref C)) (hb : Binds X.K fd ps ds) (hd : Vals dvs ds) (hx : Passes CX X E)
    (ha : PA X (e :: es) t) (hdb : (x == ("__debug__" : Str)) = false := by decide) (he : starEach (e :: es) X.env = (false, eval e X.env) :: starEach es X.env := by rfl) (hpl : (backTo pos (starEach es X.env)).any (·.1) = false := by rfl) :
    PE X (.Call (.Name x p) (e :: es) [] pos) (tMake C sp dvs E t) := by
  intro pins s σ H Q I h
  refine wpAny_Call_Name_kw (ld_glob I hg hm ?_ hdb)
  refine PySem.W.callWith_K (h₀ := X.base) I.ok.mod.kin M.kp (thn (ha pos pins s σ H _ I h) fun us s1 ⟨vs, H1, I1, r, q⟩ => ⟨I1.kIn, ?_⟩) he hpl
  exact run_make M F hr hb hd hx I1 r q
end

/-! ### keywords -/
section
variable {X : Cx} {CX : CXT} {k : Nat} {f C : Addr} {fd : FuncData} {ps ks : List Str} {sp : Sp} {E : XK} {x m : Str} {p pos apos kpos : Pos} {e o : Expr} {es : List Expr} {kws : List Keyword} {te ta : TE} {t tk : TA} {nm : Option Str}
variable {g : List Value → List Value → List Value} {gV : List V → List V → List V}
end

/-! ### a def's body keeps its promise -/
structure FnScope (N P : List Str) (sc : Scope) : Prop where
  kind : sc.kind = .function
  co : sc.isCoroutine = false
  gen : sc.isGenerator = false
  nd : N.Nodup
  pre : N.take P.length = P
  par : ∀ x ∈ P, sc.names.lookup x = some .local ∨ sc.names.lookup x = some .cell
  nofree : ∀ y ∈ sc.names, y.2 ≠ .free

theorem bindL_out {kindOf : Str → Option NameKind} {x : Str} : ∀ {binds : List (Str × Value)} {m : Str → Option Value}, (∀ v, (x, v) ∉ binds) → bindL kindOf binds m x = m x
  | [], _, _ => rfl
  | (n, v) :: r, m, h => by
    unfold bindL
    rw [bindL_out fun w hw => h w (List.mem_cons_of_mem _ hw)]
    split
    · have : x ≠ n := by rintro rfl; exact h v List.mem_cons_self
      simp [this]
    · rfl
theorem bindC_out {kindOf : Str → Option NameKind} {x : Str} : ∀ {binds : List (Str × Value)} {m : Str → Option Value}, (∀ v, (x, v) ∉ binds) → bindC kindOf binds m x = m x
  | [], _, _ => rfl
  | (n, v) :: r, m, h => by
    unfold bindC
    rw [bindC_out fun w hw => h w (List.mem_cons_of_mem _ hw)]
    split
    · rfl
    · have : x ≠ n := by rintro rfl; exact h v List.mem_cons_self
      simp [this]
theorem bindL_get {kindOf : Str → Option NameKind} {x : Str} {v : Value} : ∀ {P : List Str} {vs : List Value} {i : Nat} {m : Str → Option Value}, P.Nodup → P[i]? = some x → vs[i]? = some v → kindOf x = some .local →
    bindL kindOf (P.zip vs) m x = some v
  | [], _, _, _, _, h, _, _ => by simp at h
  | _ :: _, [], _, _, _, _, h, _ => by simp at h
  | p :: P, w :: vs, 0, m, nd, h1, h2, hk => by
    simp at h1 h2; subst h1; subst h2
    show bindL kindOf ((p, w) :: P.zip vs) m p = _
    unfold bindL
    rw [bindL_out fun v hv => (List.nodup_cons.mp nd).1 (List.of_mem_zip hv).1, if_pos hk]
    simp
  | p :: P, w :: vs, i + 1, m, nd, h1, h2, hk => by
    show bindL kindOf ((p, w) :: P.zip vs) m x = _
    unfold bindL
    exact bindL_get (i := i) (List.nodup_cons.mp nd).2 (by simpa using h1) (by simpa using h2) hk
theorem bindC_get {kindOf : Str → Option NameKind} {x : Str} {v : Value} : ∀ {P : List Str} {vs : List Value} {i : Nat} {m : Str → Option Value}, P.Nodup → P[i]? = some x → vs[i]? = some v → kindOf x ≠ some .local →
    bindC kindOf (P.zip vs) m x = some v
  | [], _, _, _, _, h, _, _ => by simp at h
  | _ :: _, [], _, _, _, _, h, _ => by simp at h
  | p :: P, w :: vs, 0, m, nd, h1, h2, hk => by
    simp at h1 h2; subst h1; subst h2
    show bindC kindOf ((p, w) :: P.zip vs) m p = _
    unfold bindC
    rw [bindC_out fun v hv => (List.nodup_cons.mp nd).1 (List.of_mem_zip hv).1, if_neg hk]
    simp
  | p :: P, w :: vs, i + 1, m, nd, h1, h2, hk => by
    show bindC kindOf ((p, w) :: P.zip vs) m x = _
    unfold bindC
    exact bindC_get (i := i) (List.nodup_cons.mp nd).2 (by simpa using h1) (by simpa using h2) hk

def start (N : List Str) (vs : List V) : St := vs.map some ++ List.replicate (N.length - vs.length) none

def cxOf (CX : CXT) (P : Program) (w : World) (K : PySem.W.Frag) (mg : Str → Option Value) (base : Heap) (N : List Str) (qual : Str) (scope : Scope) (f : Addr) (cd : Value) (A : Around) (outer : List Env) (s : Shared) (H : Hp) (E : XK) : Cx where
  prog := P
  w := w
  K := K
  mg := mg
  base := base
  A := A.deeper (envOfC qual scope s.heap.objs.size f cd)
  N := N
  s₀ := s
  H₀ := H
  env := envOfC qual scope s.heap.objs.size f cd
  outer := outer
  stack := envOfC qual scope s.heap.objs.size f cd :: outer
  ex := []
  calm := true
  fn := fun _ => true
  pn := []
  xe := fun e s' => wpAny (model P w) (A.deeper (envOfC qual scope s.heap.objs.size f cd)) (leaving (envOfC qual scope s.heap.objs.size f cd) e) (fun _ s'' => CX outer H s E e s'') (fun e' s'' => CX outer H s E e' s'') s'

theorem cell_has {sc : Scope} {n : Nat} {x : Str} (h : sc.names.lookup x = some .cell) : ∃ c, (cellsFrom n sc.names []).lookup x = some c := by
  have q := PySem.W.cellsFrom_some sc.names n [] (.inl h)
  exact Option.isSome_iff_exists.mp q

theorem inv_start {CX : CXT} {P : Program} {w : World} {K : PySem.W.Frag} {mg : Str → Option Value} {base : Heap} {N ps : List Str} {qual : Str} {scope : Scope} {f : Addr} {cd : Value} {A : Around} {outer : List Env} {s s1 : Shared} {H : Hp} {E : XK} {us : List Value} {vs : List V}
    (S : FnScope N ps scope) (hd : A.handled = none) (e0 : Env0 P w K mg base A outer s H) (hl : vs.length = ps.length) (r : Vals vs us)
    (x : InCallC s s.heap.objs.size (bindL (envOfC qual scope s.heap.objs.size f cd).kindOf (ps.zip us) fun _ => none) (cellsFrom (s.heap.objs.size + 1) scope.names []) (bindC (envOfC qual scope s.heap.objs.size f cd).kindOf (ps.zip us) fun _ => none) s1) :
    Inv (cxOf CX P w K mg base N qual scope f cd A outer s H E) [] (start N vs) H s1 := by
  have hpl : ps.length ≤ N.length := by have := congrArg List.length S.pre; rw [List.length_take] at this; omega
  obtain ⟨h1, tk, rfl, hk⟩ := x.done
  have noA : ∀ b : Addr, b ∉ (cxOf CX P w K mg base N qual scope f cd A outer s H E).ex := fun b z => absurd (show b ∈ ([] : List Addr) from z) (by simp)
  refine ⟨⟨e0.mod, S.kind, rfl, rfl, Nat.le_refl _, fun y z c h1 h2 => ?_, fun y hy => ?_, fun y c _ h => ?_, fun _ => hd, Around.frames_deeper e0.frames, .inr ⟨rfl, rfl⟩, fun b z => absurd z (noA b), e0.bs, e0.bsz, fun b _ _ => noA b, fun b z => absurd z (noA b), e0.funs, e0.frf⟩,
    rfl, e0.bare, Un.kept hk, ⟨_, x.toInCall.ns, fun i y v h1 h2 h3 => ?_⟩, fun y c h => ⟨_, x.cell y c h⟩, e0.hok.fresh (Nat.le_refl _), fun y c h => ?_, fun p hp => absurd (show p ∈ ([] : List (Addr × Obj)) from hp) (by simp), e0.hok.kept hk, ?_⟩
  · exact name_of_addr x.apart (PySem.mem_of_lookup h1) (PySem.mem_of_lookup h2)
  · have hy : scope.names.lookup y = some .cell ∨ scope.names.lookup y = some .free := hy
    rcases hy with hy | hy
    · exact cell_has hy
    · exact absurd rfl (S.nofree _ (PySem.mem_of_lookup hy))
  · exact Nat.le_of_lt (x.above y c (PySem.mem_of_lookup h))
  · have hi : i < vs.length := by
      unfold start at h2
      by_cases hi : i < vs.length
      · exact hi
      · rw [List.getElem?_append_right (by simpa using hi)] at h2
        rw [List.getElem?_replicate] at h2
        split at h2 <;> cases h2
    have ha : vs[i]? = some v := by
      unfold start at h2
      rw [List.getElem?_append_left (by simpa using hi), List.getElem?_map] at h2
      cases e : vs[i]? with
      | none => rw [e] at h2; cases h2
      | some a => rw [e] at h2; cases h2; rfl
    obtain ⟨u, hu, rv⟩ := r.get ha
    have hp : ps[i]? = some y := by
      rw [← S.pre, List.getElem?_take_of_lt (by omega)]; exact h1
    have ndP : ps.Nodup := by rw [← S.pre]; exact S.nd.sublist (List.take_sublist _ _)
    refine ⟨u, rv, ?_⟩
    rcases S.par y (List.mem_of_getElem? hp) with k | k
    · exact .inl ⟨k, bindL_get ndP hp hu k⟩
    · obtain ⟨c, e⟩ := cell_has (n := s.heap.objs.size + 1) k
      refine .inr ⟨.inl k, c, e, ?_⟩
      have q := x.cell y c e
      rw [bindC_get ndP hp hu (by show scope.names.lookup y ≠ _; rw [k]; decide)] at q
      exact q
  · exact e0.hok.fresh (Nat.le_of_lt (x.above y c (PySem.mem_of_lookup h)))
  · unfold start
    show _ = N.length
    rw [List.length_append, List.length_map, List.length_replicate]
    omega

theorem fn_of {CX : CXT} {P : Program} {w : World} {K : PySem.W.Frag} {mg : Str → Option Value} {base : Heap} {k : Nat} {f : Addr} {name qual : Str} {params : Arguments} {body : List Stmt} {scope : Scope} {dV kV doc pm cdv ct oc : Value} {an od : Option Addr}
    {osl : Array (Option Value)} {N ps : List Str} {sp : Sp} (lk : K.lookup f = some ⟨oc, od, .func (PySem.W.fnOf name qual params body scope dV kV doc pm an cdv ct), osl⟩) (hcd : PySem.W.codeIn K cdv qual = true) (S : FnScope N ps scope)
    (len : ∀ vs H Q E, sp vs H Q E → vs.length = ps.length)
    (hbody : ∀ (A : Around) (outer : List Env) (s : Shared) (H : Hp) (vs : List V) (Q : VK) (E : XK), Room k (A.deeper (envOfC qual scope s.heap.objs.size f cdv)) → sp vs H Q E →
      ∃ t, PSs (cxOf CX P w K mg base N qual scope f cdv A outer s H E) body t ∧ t { nx := fun _ H' => Q .non H', rt := Q } (start N vs) H) :
    FnOk P w K mg base CX (k + 1) f (PySem.W.fnOf name qual params body scope dV kV doc pm an cdv ct) ps sp := by
  refine ⟨len, fun A outer s H args us vs Q E hr e0 hb r hsp => ?_⟩
  have hl := len _ _ _ _ hsp
  have KX : K.In s.heap := e0.mod.kin.keeps fun b o e => (e0.bs b o e).1
  have lim : s.heap.NoLimit := e0.mod.nolimit.keeps fun b o e => (e0.bs b o e).1
  have hkind : ∀ y ∈ ps.zip us, scope.names.lookup y.1 = some .local ∨ (scope.names.lookup y.1 = some .cell ∧ ((cellsFrom (s.heap.objs.size + 1) scope.names []).lookup y.1).isSome = true) := fun ⟨n, v⟩ hy => by
    rcases S.par n (List.of_mem_zip hy).1 with q | q
    · exact .inl q
    · exact .inr ⟨q, PySem.W.cellsFrom_some _ _ _ (.inl q)⟩
  refine codeAny_call_function hr.depth (KX _ _ lk) rfl S.co S.gen rfl (PySem.W.codeRec_of KX hcd) (hb _ _ _ _ ?_)
  refine wpAny_newFunctionEnv_cells S.kind hkind fun env he s1 x => ?_
  subst he
  refine ⟨lim.keeps x.toInCall.keep, codeAny_func ?_⟩
  obtain ⟨t, ht, hq⟩ := hbody A outer s H vs Q E (hr.deeper _) hsp
  have I : Inv (cxOf CX P w K mg base N qual scope f cdv A outer s H E) [] (start N vs) H s1 := inv_start S hr.hd e0 hl r x
  refine wpAny_mono (ht [] s1 (start N vs) H _ I hq) (fun fl s' hs => ?_) fun e s' hs => hs
  have fin : ∀ {σ' : St} {H' : Hp} {v : V} {u : Value}, Inv (cxOf CX P w K mg base N qual scope f cdv A outer s H E) [] σ' H' s' → RelV v u → Q v H' → CE outer P w H s Q u s' :=
    fun {σ' H' v u} J rv q => ⟨v, H', J.os, J.bare, J.base, J.hok, rv, q⟩
  cases fl with
  | ret u =>
    obtain ⟨v, σ', H', J, rv, q⟩ := hs
    exact fin J rv q
  | next =>
    obtain ⟨σ', H', J, q⟩ := hs
    exact fin (v := V.non) (u := Value.none) J rfl q
  | brk =>
    obtain ⟨_, _, _, q⟩ := hs
    exact False.elim q
  | cont =>
    obtain ⟨_, _, _, q⟩ := hs
    exact False.elim q
end L2

namespace L2
open PySem PySem.Spec PyProof.Rows
section
variable {X : Cx} {x : Str} {p pos : Pos} {e : Expr} {es : List Expr} {t : TA} {id T : String} {r : List V → Hp → VK → Prop}

def tCB (r : List V → Hp → VK → Prop) (t : TA) : TE := fun σ H Q => t σ H fun vs H1 => r vs H1 Q
theorem pe_callB (hc : CallR X (.builtin id) r) (hg : Gl X x) (hm : X.mg x = none) (hv : bootBuiltins x = some (.builtin id)) (ha : PA X (e :: es) t) (hn : x ≠ "__name__" := by decide) (hdb : (x == ("__debug__" : Str)) = false := by decide)
    (he : starEach (e :: es) X.env = (false, eval e X.env) :: starEach es X.env := by rfl) (hpl : (backTo pos (starEach es X.env)).any (·.1) = false := by rfl) : PE X (.Call (.Name x p) (e :: es) [] pos) (tCB r t) := by
  intro pins s σ H Q I h
  refine wpAny_Call_Name_kw (ld_blt I hg hm hv ?_ hn hdb)
  exact PyProof.Rows.callWith_builtin1 (thn (ha pos pins s σ H _ I h) fun us s1 ⟨vs, H1, I1, r1, q1⟩ => hc pins s1 σ H1 vs us Q I1 r1 q1) he hpl
theorem pe_callTy (hc : CallR X (.type T) r) (hg : Gl X x) (hm : X.mg x = none) (hv : bootBuiltins x = some (.type T)) (ha : PA X (e :: es) t) (hn : x ≠ "__name__" := by decide) (hdb : (x == ("__debug__" : Str)) = false := by decide)
    (he : starEach (e :: es) X.env = (false, eval e X.env) :: starEach es X.env := by rfl) (hpl : (backTo pos (starEach es X.env)).any (·.1) = false := by rfl) : PE X (.Call (.Name x p) (e :: es) [] pos) (tCB r t) := by
  intro pins s σ H Q I h
  refine wpAny_Call_Name_kw (ld_blt I hg hm hv ?_ hn hdb)
  exact PyProof.Rows.callWith_type1 (thn (ha pos pins s σ H _ I h) fun us s1 ⟨vs, H1, I1, r1, q1⟩ => hc pins s1 σ H1 vs us Q I1 r1 q1) he hpl
end
end L2

namespace HT
open PySem PyProof.Rows

section
open PySem.SeqAt
open PySem.AutoSeq1 (wpAny_loadPart')
open PySem.MeetsSeq PySem.MeetsSeq2 PySem.MeetsSeq3

end

section
variable {prog : Program} {w : World} {A : Around} {E : Value → Shared → Prop} {s : Shared}

/-! ### t[a:b], not the whole -/
def sIx (n d : Nat) : Option Int → Nat
  | none => d
  | some v => if v < 0 then (v + (n : Int)).toNat else min v.toNat n
theorem sIx_none (n d : Nat) : sIx n d none = d := rfl
theorem sIx_nat (n d k : Nat) : sIx n d (some (k : Int)) = min k n := by
  show (if (k : Int) < 0 then ((k : Int) + (n : Int)).toNat else min (k : Int).toNat n) = min k n
  rw [if_neg (by omega), Int.toNat_natCast]
theorem sIx_le (n d : Nat) (hd : d ≤ n) (o : Option Int) : sIx n d o ≤ n := by
  cases o with
  | none => exact hd
  | some v =>
    show (if v < 0 then (v + (n : Int)).toNat else min v.toNat n) ≤ n
    by_cases hv : v < 0
    · rw [if_pos hv]; omega
    · rw [if_neg hv]; exact Nat.min_le_right _ _
end
end HT

namespace L2
open PySem PySem.Spec PyProof.Rows

/-! ### the parts of a slice -/
abbrev TO := St → Hp → (Option Int → Hp → Prop) → Prop
def PO (X : Cx) (e : Option Expr) (t : TO) : Prop :=
  ∀ (pins : List (Addr × Obj)) (s : Shared) (σ : St) (H : Hp) (Q : Option Int → Hp → Prop), Inv X pins σ H s → t σ H Q →
    wpAny (model X.prog X.w) X.A (evalPart e X.env) (fun u s' => ∃ o H', Inv X pins σ H' s' ∧ IsPart u o ∧ Q o H') X.xe s
def tNoPart : TO := fun _ H Q => Q none H
def tPart (t : TE) : TO := fun σ H Q => t σ H fun x H1 => ∃ i, x = .int i ∧ Q (some i) H1

section
variable {X : Cx} {e : Expr} {te : TE} {lo hi : Option Expr} {tl th : TO} {pos p2 : Pos}

theorem po_none : PO X none tNoPart := by
  intro pins s σ H Q I h
  rw [evalPart_none]
  exact wpAny_pure ⟨none, H, I, .none, h⟩
theorem po_some (h : PE X e te) : PO X (some e) (tPart te) := by
  intro pins s σ H Q I hw
  rw [evalPart_some]
  refine thn (h pins s σ H _ I hw) fun u s1 ⟨x, H1, I1, r1, q1⟩ => ?_
  obtain ⟨i, rfl, q⟩ := q1
  obtain ⟨t, rfl⟩ := r1
  exact ⟨some i, H1, I1, .int i t, q⟩

def SlR (X : Cx) (r : V → Option Int → Option Int → Hp → VK → Prop) : Prop :=
  ∀ (pins : List (Addr × Obj)) (s : Shared) (σ : St) (H : Hp) (x : V) (v vl vu : Value) (lo hi : Option Int) (sl : Addr) (Q : VK), Inv X pins σ H s → RelV x v → s.heap.IsSliceOf sl vl vu .none → IsPart vl lo → IsPart vu hi → r x lo hi H Q →
    ∃ T id, typeLookup (.type T) "__getitem__" = pure (some (.builtin id)) ∧ s.TypeIs v T ∧ wpAny (model X.prog X.w) X.A (getItem v (.ref sl)) (EP X pins σ Q) X.xe s
def tSl (r : V → Option Int → Option Int → Hp → VK → Prop) (te : TE) (tl th : TO) : TE := fun σ H Q => te σ H fun x H1 => tl σ H1 fun l H2 => th σ H2 fun u H3 => r x l u H3 Q
theorem pe_slice {r : V → Option Int → Option Int → Hp → VK → Prop} (hr : SlR X r) (he : PE X e te) (hl : PO X lo tl) (hu : PO X hi th) : PE X (.Subscript e (.Slice lo hi none p2) pos) (tSl r te tl th) := by
  intro pins s σ H Q I h
  refine Subscript_ (thn (he pins s σ H _ I h) fun v s1 ⟨x, H1, I1, r1, q1⟩ => ?_)
  refine wpAny_Slice (thn (hl pins s1 σ H1 _ I1 q1) fun vl s2 ⟨l, H2, I2, pl, q2⟩ => thn (hu pins s2 σ H2 _ I2 q2) fun vu s3 ⟨u, H3, I3, pu, q3⟩ => ?_)
  rw [evalPart_none]
  refine wpAny_pure ?_
  have I4 : Inv X pins σ H3 { s3 with heap := s3.heap.push { cls := .type "slice", data := .fields #[vl, vu, .none] } } := I3.kept (t' := s3.toks) fun b ob q => Heap.get?_push_of_some _ q
  obtain ⟨T, id, hT, ht, hg⟩ := hr pins { s3 with heap := s3.heap.push { cls := .type "slice", data := .fields #[vl, vu, .none] } } σ H3 x v vl vu l u s3.heap.objs.size Q I4 r1 (Heap.IsSliceOf.new ..) pl pu q3
  show wpAny (model X.prog X.w) X.A (subscriptTail e (.Slice lo hi none p2) v (.ref s3.heap.objs.size)) (EP X pins σ Q) X.xe { s3 with heap := s3.heap.push { cls := .type "slice", data := .fields #[vl, vu, .none] } }
  exact tail_any (ops := [.ref s3.heap.objs.size, v]) ht hT hg (by with_unfolding_all rfl)

/-! ### t < u, t + u -/
end
end L2

namespace L2
open PySem PySem.Spec PyProof.Rows

/-! ### places -/
def ixN (n : Nat) (i : Int) : Option Nat := if 0 ≤ i then (if i < n then some i.toNat else none) else if -(n : Int) ≤ i then some (i + n).toNat else none
def atI {α : Type} (xs : List α) (i : Int) : Option α := (ixN xs.length i).bind fun j => xs[j]?
theorem ixN_seq {n : Nat} {i : Int} {j : Nat} (h : ixN n i = some j) : seqIndex? i n = some j ∧ j < n ∧ -(n : Int) ≤ i ∧ i < n := by
  unfold ixN at h
  by_cases h0 : 0 ≤ i
  · rw [if_pos h0] at h
    by_cases h1 : i < n
    · rw [if_pos h1] at h
      have e : i.toNat = j := Option.some.inj h
      exact ⟨by rw [seqIndex_of h0 h1, e], by omega, by omega, h1⟩
    · rw [if_neg h1] at h; cases h
  · rw [if_neg h0] at h
    by_cases h1 : -(n : Int) ≤ i
    · rw [if_pos h1] at h
      have e : (i + n).toNat = j := Option.some.inj h
      exact ⟨by rw [seqIndex_neg (by omega) h1, e], by omega, h1, by omega⟩
    · rw [if_neg h1] at h; cases h
theorem atI_get {α : Type} {xs : List α} {i : Int} {v : α} (h : atI xs i = some v) : ∃ j, seqIndex? i xs.length = some j ∧ xs[j]? = some v ∧ j < xs.length ∧ -(xs.length : Int) ≤ i ∧ i < xs.length := by
  unfold atI at h
  cases e : ixN xs.length i with
  | none => rw [e] at h; cases h
  | some j =>
    rw [e] at h
    obtain ⟨h1, h2, h3, h4⟩ := ixN_seq e
    exact ⟨j, h1, h, h2, h3, h4⟩
theorem atI_nat {α : Type} {xs : List α} {j : Nat} {v : α} (h : xs[j]? = some v) : atI xs (j : Int) = some v := by
  have hj : j < xs.length := (List.getElem?_eq_some_iff.mp h).1
  have e : ixN xs.length (j : Int) = some j := by
    unfold ixN
    rw [if_pos (by omega), if_pos (by omega)]; simp
  unfold atI; rw [e]; exact h
/-! ### what may be subscripted -/
def PlainIx (b : Expr) : Prop := ∀ o i, subscripted b false o i = operate [o, i] (getItem o i)
def IxR (X : Cx) (r : R2) : Prop :=
  ∀ (value slice : Expr) (pins : List (Addr × Obj)) (s : Shared) (σ : St) (H : Hp) (x y : V) (v u : Value) (Q : VK), Inv X pins σ H s → RelV x v → RelV y u → r x y H Q →
    subscripted slice false v u = operate [v, u] (getItem v u) → wpAny (model X.prog X.w) X.A (subscriptTail value slice v u) (EP X pins σ Q) X.xe s
def MtR (X : Cx) (id : String) (r : V → List V → Hp → VK → Prop) : Prop :=
  ∀ (pins : List (Addr × Obj)) (s : Shared) (σ : St) (H : Hp) (x : V) (xs : List V) (v : Value) (us : List Value) (Q : VK), Inv X pins σ H s → RelV x v → Vals xs us → r x xs H Q →
    wpAny (model X.prog X.w) X.A (call (.builtin id) (v :: us)) (EP X pins σ Q) X.xe s
section
variable {X : Cx} {a b : Expr} {ta tb : TE} {pos : Pos}
theorem pe_ix {r : R2} (hr : IxR X r) (ha : PE X a ta) (hb : PE X b tb) (hs : PlainIx b) : PE X (.Subscript a b pos) (tOp r ta tb) := by
  intro pins s σ H Q I h
  exact Subscript_ (binT ha hb I h fun v u s2 x y H2 I2 rx ry q => hr a b pins s2 σ H2 x y v u Q I2 rx ry q (hs _ _))

def rIxL (K : PySem.W.Frag) : R2 := fun x y H Q => ∃ p xs i v, x = .ref p ∧ y = .int i ∧ SqL K H p xs ∧ atI xs i = some v ∧ Q v H
def rIxT (K : PySem.W.Frag) : R2 := fun x y H Q => ∃ p xs i v, x = .ref p ∧ y = .int i ∧ SqT K H p xs ∧ atI xs i = some v ∧ Q v H
def rIxS : R2 := fun x y H Q => ∃ z i c, x = .str z ∧ y = .int i ∧ z.length ≤ sizeLine ∧ atI z.cps.toList i = some c ∧ Q (.str ⟨#[c]⟩) H
theorem ix_list : IxR X (rIxL X.K) := by
  intro value slice pins s σ H x y v u Q I rx ry h hs
  obtain ⟨p, xs, i, z, rfl, rfl, hq, he, q⟩ := h
  cases rx
  obtain ⟨t, rfl⟩ := ry
  obtain ⟨its, r, pl, hz⟩ := I.list hq
  obtain ⟨j, h1, h2, h3, h4, h5⟩ := atI_get he
  obtain ⟨w, ew, rw'⟩ := r.get h2
  have hl := r.length
  have hn := line63
  have fin : EP X pins σ Q w s := ⟨z, H, I, rw', q⟩
  by_cases h0 : 0 ≤ i
  · have hj : i.toNat = j := by
      rw [seqIndex_of h0 h5] at h1
      exact Option.some.inj h1
    exact item_listR pl.isList h0 (by omega) (by rw [hj]; simpa using ew) fin hs
  · have hj : (i + (its.toArray.size : Int)).toNat = j := by
      rw [seqIndex_neg (by omega) h4] at h1
      rw [List.size_toArray, ← hl]
      exact Option.some.inj h1
    exact subscriptTail_builtinR (x := w) pl.isList.typeIs slot_list_getitem.lookup
      (wpAny_getItem_list_neg (Q := fun r s' => r = w ∧ EP X pins σ Q r s') pl.isList (by omega) (by rw [List.size_toArray] <;> omega) (by omega) (by rw [hj]; simpa using ew) ⟨rfl, fin⟩) hs
theorem ix_tup : IxR X (rIxT X.K) := by
  intro value slice pins s σ H x y v u Q I rx ry h hs
  obtain ⟨p, xs, i, z, rfl, rfl, hq, he, q⟩ := h
  cases rx
  obtain ⟨t, rfl⟩ := ry
  obtain ⟨its, r, pl, hz⟩ := I.tuple hq
  obtain ⟨j, h1, h2, h3, h4, h5⟩ := atI_get he
  obtain ⟨w, ew, rw'⟩ := r.get h2
  have hl := r.length
  have hn := line63
  have fin : EP X pins σ Q w s := ⟨z, H, I, rw', q⟩
  exact subscriptTail_builtinR (x := w) pl.typeIs slot_tuple_getitem.lookup
    (getItem_tuple (j := j) (Q := fun r s' => r = w ∧ EP X pins σ Q r s') pl (by omega) (by omega) (by rw [List.size_toArray, ← hl]; exact h1) (by simpa using ew) ⟨rfl, fin⟩) hs
theorem ix_str : IxR X rIxS := by
  intro value slice pins s σ H x y v u Q I rx ry h hs
  obtain ⟨z, i, c, rfl, rfl, hz, he, q⟩ := h
  obtain ⟨t, rfl⟩ := rx
  obtain ⟨t', rfl⟩ := ry
  obtain ⟨j, h1, h2, h3, h4, h5⟩ := atI_get he
  have hl : z.cps.toList.length = z.length := by simp [Str.length]
  rw [hl] at h1 h4 h5
  have hn := line63
  exact tail_any (typeIs_str s z t) slot_str_getitem.lookup (getItem_str (c := c) (by
    have e1 : decide (i < -(2 ^ 63 : Int)) = false := decide_eq_false (by omega)
    have e2 : decide (i ≥ 2 ^ 63) = false := decide_eq_false (by omega)
    rw [e1, e2, Bool.or_false]) (by rw [h1]; simpa using h2) ⟨.str ⟨#[c]⟩, H, I.tok _, ⟨_, rfl⟩, q⟩) hs
/-! ### xs[i] = v, any sign -/
theorem mapSeq_set (its : List Value) (n j : Nat) (u : Value) : Obj.mapSeq (·.setIfInBounds j u) { cls := .type "list", data := .seq its.toArray n } = { cls := .type "list", data := .seq (its.set j u).toArray n } := by
  simp [Obj.mapSeq]
theorem Inv.lst {pins : List (Addr × Obj)} {σ : St} {H : Hp} {s : Shared} {p : Addr} {xs : List V} (I : Inv X pins σ H s) (h : H p = some (.lst xs)) :
    ∃ (its : List Value) (n : Nat), Vals xs its ∧ s.heap.get? p = some { cls := .type "list", data := .seq its.toArray n } ∧ xs.length ≤ sizeLine := by
  obtain ⟨z, its, n, r, e⟩ := I.hok p _ h
  exact ⟨its, n, r, e, z⟩
theorem Inv.lstUpd {pins : List (Addr × Obj)} {σ : St} {H : Hp} {s : Shared} {p : Addr} {xs ys : List V} {its its' : List Value} {n n' : Nat} {f : Obj → Obj} (I : Inv X pins σ H s) (h : H p = some (.lst xs))
    (ho : s.heap.get? p = some { cls := .type "list", data := .seq its.toArray n }) (hf : f { cls := .type "list", data := .seq its.toArray n } = { cls := .type "list", data := .seq its'.toArray n' }) (r : Vals ys its') (hz : ys.length ≤ sizeLine) (t : Nat) :
    Inv X pins σ (upd H p (.lst ys)) { s with heap := s.heap.update p f, toks := t } := by
  have e : (s.heap.update p f).get? p = some { cls := .type "list", data := .seq its'.toArray n' } := by
    rw [Heap.get?_update_self f ho (by rw [hf] <;> rfl), hf]
  refine I.write (x := p) (e := p) (by rw [h]; trivial) (.inl rfl) (fun b u hb q => (Heap.get?_update_other _ _ (Ne.symm hb)).trans q) ⟨_, e⟩ ?_
  exact ⟨hz, its', n', r, e⟩
def rSetL : V → V → V → Hp → (Hp → Prop) → Prop := fun o i v H Q => ∃ p xs k j, o = .ref p ∧ i = .int k ∧ H p = some (.lst xs) ∧ ixN xs.length k = some j ∧ Q (upd H p (.lst (xs.set j v)))
theorem set_list : PSet X rSetL := by
  intro pins s σ H o i v ov iv u Q I ro ri rv h
  obtain ⟨p, xs, k, j, rfl, rfl, hp, hj, q⟩ := h
  cases ro
  obtain ⟨t, rfl⟩ := ri
  obtain ⟨its, n, r, ho, hz⟩ := I.lst hp
  obtain ⟨h1, h2, h3, h4⟩ := ixN_seq hj
  have hl := r.length
  have hn := line63
  have I' : Inv X pins σ (upd H p (.lst (xs.set j v))) { s with heap := s.heap.update p (Obj.mapSeq (·.setIfInBounds j u)) } :=
    I.lstUpd hp ho (mapSeq_set its n j u) (r.set rv j) (by rw [List.length_set]; exact hz) s.toks
  by_cases h0 : 0 ≤ k
  · have hk : k.toNat = j := by
      rw [seqIndex_of h0 h4] at h1
      exact Option.some.inj h1
    exact PySem.W.ki_setAt ho h0 (by omega) (by rw [List.size_toArray, ← hl]; exact h4) (by rw [hk]; exact ⟨_, I', q⟩)
  · have hk : (k + (its.toArray.size : Int)).toNat = j := by
      rw [seqIndex_neg (by omega) h3] at h1
      rw [List.size_toArray, ← hl]
      exact Option.some.inj h1
    exact PySem.W.ki_setBack ho (by omega) (by rw [List.size_toArray, ← hl]; exact h3) (by omega) (by rw [hk]; exact ⟨_, I', q⟩)

/-! ### slices -/
/-! ### in, not in: flat items -/
def flatV : V → Bool
  | .non => true
  | .bl _ => true
  | .int _ => true
  | .str _ => true
  | _ => false
def eqV : V → V → Bool
  | .non, .non => true
  | .bl a, .bl b => a == b
  | .bl a, .int b => (if a then 1 else 0) == b
  | .int a, .bl b => a == (if b then 1 else 0)
  | .int a, .int b => a == b
  | .str a, .str b => a == b
  | _, _ => false
theorem eqAt_V {A : Around} {s : Shared} {y x : V} {u v : Value} (ry : RelV y u) (rx : RelV x v) (fy : flatV y = true) (fx : flatV x = true) : SeqAt.EqAt A s u v (eqV y x) := by
  cases y with
  | non =>
    cases ry
    cases x with
    | non => cases rx; exact SeqAt.EqAt.same _
    | bl b => cases rx; exact SeqAt.EqAt.none_bool b
    | int b => obtain ⟨t, rfl⟩ := rx; exact SeqAt.EqAt.none_int b t
    | str b => obtain ⟨t, rfl⟩ := rx; exact SeqAt.EqAt.none_str b t
    | _ => exact absurd (show false = true from fx) Bool.false_ne_true
  | bl a =>
    cases ry
    cases x with
    | non => cases rx; exact SeqAt.EqAt.bool_none a
    | bl b => cases rx; exact SeqAt.EqAt.bool_bool a b
    | int b => obtain ⟨t, rfl⟩ := rx; exact SeqAt.EqAt.bool_int a b t
    | str b => obtain ⟨t, rfl⟩ := rx; exact SeqAt.EqAt.bool_str a b t
    | _ => exact absurd (show false = true from fx) Bool.false_ne_true
  | int a =>
    obtain ⟨t', rfl⟩ := ry
    cases x with
    | non => cases rx; exact SeqAt.EqAt.int_none a t'
    | bl b => cases rx; exact SeqAt.EqAt.int_bool a t' b
    | int b => obtain ⟨t, rfl⟩ := rx; exact SeqAt.EqAt.int_int a t' b t
    | str b => obtain ⟨t, rfl⟩ := rx; exact SeqAt.EqAt.int_str a t' b t
    | _ => exact absurd (show false = true from fx) Bool.false_ne_true
  | str a =>
    obtain ⟨t', rfl⟩ := ry
    cases x with
    | non => cases rx; exact SeqAt.EqAt.str_none a t'
    | bl b => cases rx; exact SeqAt.EqAt.str_bool a t' b
    | int b => obtain ⟨t, rfl⟩ := rx; exact SeqAt.EqAt.str_int a t' b t
    | str b => obtain ⟨t, rfl⟩ := rx; exact SeqAt.EqAt.str_str a t' b t
    | _ => exact absurd (show false = true from fx) Bool.false_ne_true
  | _ => exact absurd (show false = true from fy) Bool.false_ne_true
/-! ### len, list(x), tuple(x) of any list or tuple that is read -/
theorem call_len_seq : CallR X (.builtin "len") (fun xs H Q => ∃ p ys, xs = [.ref p] ∧ (SqL X.K H p ys ∨ SqT X.K H p ys) ∧ Q (.int ys.length) H) := by
  intro pins s σ H xs us Q I r h
  obtain ⟨p, ys, rfl, hq, q⟩ := h
  obtain ⟨u, rfl, rx⟩ := vals1 r
  cases rx
  have hn := line63
  rcases hq with hq | hq
  · obtain ⟨its, r', pl, hz⟩ := I.list hq
    have hlen := r'.length
    exact Calls.call_len_list pl.isList (by simp only [List.size_toArray] <;> omega) ⟨.int ys.length, H, I.tok _, ⟨s.toks + 1, by rw [List.size_toArray, hlen]⟩, q⟩
  · obtain ⟨its, r', pl, hz⟩ := I.tuple hq
    have hlen := r'.length
    exact len_tuple pl (by simp only [List.size_toArray] <;> omega) ⟨.int ys.length, H, I.tok _, ⟨s.toks + 1, by rw [List.size_toArray, hlen]⟩, q⟩
theorem call_len_str : CallR X (.builtin "len") (fun xs H Q => ∃ z, xs = [.str z] ∧ z.length ≤ sizeLine ∧ Q (.int z.length) H) := by
  intro pins s σ H xs us Q I r h
  obtain ⟨z, rfl, hz, q⟩ := h
  obtain ⟨u, rfl, t, rfl⟩ := vals1 r
  have hn := line63
  exact len_str (by omega) ⟨.int z.length, H, I.tok _, ⟨_, rfl⟩, q⟩
theorem call_list_of : CallR X (.type "list") (fun xs H Q => ∃ p ys, xs = [.ref p] ∧ (SqL X.K H p ys ∨ SqT X.K H p ys) ∧ ∀ l, H l = none → Q (.ref l) (upd H l (.lst ys))) := by
  intro pins s σ H xs us Q I r h
  obtain ⟨p, ys, rfl, hq, q⟩ := h
  obtain ⟨u, rfl, rx⟩ := vals1 r
  cases rx
  have fin : ∀ (its : List Value), Vals ys its → ys.length ≤ sizeLine → ∀ (h' : Heap) (c' : Nat), (∀ b o', s.heap.get? b = some o' → h'.get? b = some o') →
      h'.get? s.heap.objs.size = some { cls := .type "list", dict := none, data := .seq its.toArray c', slots := #[] } → EP X pins σ Q (.ref s.heap.objs.size) { s with heap := h' } := fun its r' hz h' c' kp e =>
    ⟨.ref s.heap.objs.size, _, I.laid (t' := s.toks) kp (Nat.le_refl _) (show ObjOk X.prog X.w _ h' _ (.lst ys) from ⟨hz, its, c', r', e⟩), rfl, q _ (I.hok.fresh (Nat.le_refl _))⟩
  rcases hq with hq | hq
  · obtain ⟨its, r', pl, hz⟩ := I.list hq
    have hlen := r'.length
    obtain ⟨o, ho, hc, n, hd⟩ := pl.isList
    exact call_list_seq p (.inl rfl) ho hc hd (fun h' c' kp e => fin its r' hz h' c' kp e) (by simp only [List.size_toArray] <;> omega)
  · obtain ⟨its, r', pl, hz⟩ := I.tuple hq
    have hlen := r'.length
    obtain ⟨o, ho, hc, n, hd⟩ := pl
    exact call_list_seq p (.inr rfl) ho hc hd (fun h' c' kp e => fin its r' hz h' c' kp e) (by simp only [List.size_toArray] <;> omega)
theorem call_tuple_of : CallR X (.type "tuple") (fun xs H Q => ∃ p ys, xs = [.ref p] ∧ ((SqL X.K H p ys ∧ ∀ l, H l = none → Q (.ref l) (upd H l (.tup ys))) ∨ (SqT X.K H p ys ∧ Q (.ref p) H))) := by
  intro pins s σ H xs us Q I r h
  obtain ⟨p, ys, rfl, h⟩ := h
  obtain ⟨u, rfl, rx⟩ := vals1 r
  cases rx
  rcases h with ⟨hq, q⟩ | ⟨hq, q⟩
  · obtain ⟨its, r', pl, hz⟩ := I.list hq
    have hlen := r'.length
    refine call_tuple_list pl.isList (fun h' kp => ?_) (by simp only [List.size_toArray] <;> omega)
    have I1 : Inv X pins σ H { s with heap := h' } := I.kept (t' := s.toks) kp
    have I2 : Inv X pins σ (upd H h'.objs.size (.tup ys)) { s with heap := h'.push { cls := .type "tuple", data := .seq its.toArray } } :=
      I1.laid (t' := s.toks) (fun b o e => Heap.get?_push_of_some _ e) (Nat.le_refl _) (show ObjOk X.prog X.w _ _ _ (.tup ys) from ⟨hz, its, r', IsTup.new _ _⟩)
    exact ⟨.ref h'.objs.size, _, I2, rfl, q _ (I1.hok.fresh (Nat.le_refl _))⟩
  · obtain ⟨its, r', pl, hz⟩ := I.tuple hq
    exact call_tuple_same pl ⟨.ref p, H, I, rfl, q⟩

/-! ### the call of a builtin's method: o.m(..) -/
def tyV (K : PySem.W.Frag) (T : String) (x : V) (H : Hp) : Prop := match x with
  | .str _ => T = "str"
  | .int _ => T = "int"
  | .ref p => (T = "list" ∧ ∃ xs, SqL K H p xs) ∨ (T = "tuple" ∧ ∃ o, K.lookup p = some o ∧ o.cls = .type "tuple" ∧ o.dict = none) ∨
      (T = "dict" ∧ ((∃ kvs, H p = some (.dK kvs)) ∨ ∃ kvs, H p = some (.dT kvs))) ∨ (T = "set" ∧ ∃ S n, H p = some (.set S n))
  | _ => False
theorem tyV_is {pins : List (Addr × Obj)} {σ : St} {H : Hp} {s : Shared} {T : String} {x : V} {v : Value} (I : Inv X pins σ H s) (r : RelV x v) (ty : tyV X.K T x H) :
    s.TypeIs v T ∧ ∀ a, v = .ref a → ∃ ob, s.heap.get? a = some ob ∧ ob.dict = none := by
  cases x with
  | str z =>
    obtain ⟨t, rfl⟩ := r
    cases (show T = "str" from ty)
    exact ⟨typeIs_str s z t, fun _ e => nomatch e⟩
  | int i =>
    obtain ⟨t, rfl⟩ := r
    cases (show T = "int" from ty)
    exact ⟨typeIs_int s i t, fun _ e => nomatch e⟩
  | ref p =>
    cases r
    rcases ty with ⟨rfl, xs, hq⟩ | ⟨rfl, o, hk, hc, hd⟩ | ⟨rfl, hk⟩ | ⟨rfl, S, n, hk⟩
    · obtain ⟨its, _, pl, _⟩ := I.list hq
      refine ⟨pl.isList.typeIs, fun a e => ?_⟩
      cases e
      obtain ⟨o, n, e, c, hd, _⟩ := pl
      exact ⟨o, e, hd⟩
    · refine ⟨⟨o, I.kIn p o hk, hc⟩, fun a e => ?_⟩
      cases e
      exact ⟨o, I.kIn _ o hk, hd⟩
    · have z : ∃ o, s.heap.get? p = some o ∧ o.ExactDict := by
        rcases hk with ⟨kvs, hk⟩ | ⟨kvs, hk⟩
        · obtain ⟨_, _, _, _, o, _, _, e, ex, _⟩ := I.hok p _ hk
          exact ⟨o, e, ex⟩
        · obtain ⟨_, _, _, _, o, _, _, e, ex, _⟩ := I.hok p _ hk
          exact ⟨o, e, ex⟩
      obtain ⟨o, e, ex⟩ := z
      refine ⟨⟨o, e, ex.1⟩, fun a e2 => ?_⟩
      cases e2
      exact ⟨o, e, ex.2.1⟩
    · obtain ⟨o, _, _, _, e, ex, _⟩ := I.hok p _ hk
      refine ⟨⟨o, e, ex.1⟩, fun a e2 => ?_⟩
      cases e2
      exact ⟨o, e, ex.2.1⟩
  | _ => exact False.elim ty
def tBM0 (K : PySem.W.Frag) (T : String) (r : V → List V → Hp → VK → Prop) (to : TE) : TE := fun σ H Q => to σ H fun x H1 => tyV K T x H1 ∧ r x [] H1 Q
def tBM (K : PySem.W.Frag) (T : String) (r : V → List V → Hp → VK → Prop) (to : TE) (t : TA) : TE := fun σ H Q => to σ H fun x H1 => tyV K T x H1 ∧ t σ H1 fun xs H2 => r x xs H2 Q
variable {o e : Expr} {es : List Expr} {to : TE} {t : TA} {name : Str} {apos cpos : Pos} {T id : String} {r : V → List V → Hp → VK → Prop}
theorem pe_bm0 (pa : PlainAttrs T) (slot : Slot T name id) (hty : typeOf (.builtin id) = pure (.type "method_descriptor")) (hm : MtR X id r) (ho : PE X o to)
    (hbase : attributeBase o name X.env (eval o X.env) = eval o X.env := by rfl) (hline : (apos.endLine == cpos.line) = true := by rfl) : PE X (.Call (.Attribute o name apos) [] [] cpos) (tBM0 X.K T r to) := by
  intro pins s σ H Q I h
  refine wpAny_Call_method0_late hbase hline (thn (ho pins s σ H _ I h) fun v s1 ⟨x, H1, I1, r1, ty, q1⟩ => ?_)
  obtain ⟨h1, h2⟩ := tyV_is I1 r1 ty
  exact ⟨T, id, pa, slot, hty, h1, h2, Calls.callWith_builtin rfl (PySem.evalArgs_none (hm pins s1 σ H1 x [] v [] Q I1 r1 .nil q1))⟩
theorem pe_bm (pa : PlainAttrs T) (slot : Slot T name id) (hty : typeOf (.builtin id) = pure (.type "method_descriptor")) (hm : MtR X id r) (ho : PE X o to) (ha : PA X (e :: es) t)
    (hbase : attributeBase o name X.env (eval o X.env) = eval o X.env := by rfl)
    (hfew : ((backTo cpos (starEach (e :: es) X.env)).all (fun x => !x.1) && (backToKw cpos (keywordEach [] X.env)).all (fun x => x.1.isSome)
      && decide ((e :: es).length + ([] : List Keyword).length + (if ([] : List Keyword).isEmpty then 0 else 1) < 30)) = true := by rfl)
    (hline : (apos.endLine == cpos.line) = true := by rfl) (hs : starEach (e :: es) X.env = (false, eval e X.env) :: starEach es X.env := by rfl) (hplain : (backTo cpos (starEach es X.env)).any (·.1) = false := by rfl) :
    PE X (.Call (.Attribute o name apos) (e :: es) [] cpos) (tBM X.K T r to t) := by
  intro pins s σ H Q I h
  refine wpAny_Call_method_late hbase hfew hline rfl (thn (ho pins s σ H _ I h) fun v s1 ⟨x, H1, I1, r1, ty, q1⟩ => ?_)
  obtain ⟨h1, h2⟩ := tyV_is I1 r1 ty
  refine ⟨T, id, pa, slot, hty, h1, h2, ?_⟩
  have hA := ha cpos pins s1 σ H1 _ I1 q1
  rw [hs] at hA ⊢
  refine Calls.callWith_builtin (by show (false || (backTo cpos (starEach es X.env)).any (·.1)) = false; rw [hplain] <;> rfl) (Calls.evalArgs_plain ?_)
  exact thn hA fun us s2 ⟨vs, H2, I2, r2, q2⟩ => hm pins s2 σ H2 x vs v us Q I2 r1 r2 q2
/- xs.append(e), list.index on a module's tuple .. are MtR facts of 06m -/
end
end L2

namespace L2
open PySem PySem.Spec PyProof.Rows

def MtM (X : Cx) (id : String) (r : V → List V → Hp → VK → Prop) : Prop :=
  ∀ (pins : List (Addr × Obj)) (s : Shared) (σ : St) (H : Hp) (x : V) (xs : List V) (v : Value) (us : List Value) (Q : VK), Inv X pins σ H s → RelV x v → Vals xs us → r x xs H Q →
    wpAny (model X.prog X.w) X.A (call (.builtin id) (v :: us)) (EP X pins σ Q) X.xe s

/-! ### lists of values -/
theorem Vals.one : ∀ {x : V} {us : List Value}, Vals [x] us → ∃ u, us = [u] ∧ RelV x u
  | _, _, .cons r .nil => ⟨_, rfl, r⟩
theorem Vals.two : ∀ {x y : V} {us : List Value}, Vals [x, y] us → ∃ u v, us = [u, v] ∧ RelV x u ∧ RelV y v
  | _, _, _, .cons r (.cons q .nil) => ⟨_, _, rfl, r, q⟩
theorem Vals.zero : ∀ {us : List Value}, Vals [] us → us = []
  | _, .nil => rfl
section
variable {X : Cx} {pins : List (Addr × Obj)} {σ : St} {H : Hp} {s : Shared} {l b : Addr} {xs ys zs : List V}

/-! ### the two steps: a tracked list is rewritten, a new list is laid -/
theorem Inv.lset {its its' : List Value} {n : Nat} {f : Array Value → Array Value} {t' : Nat} (I : Inv X pins σ H s) (hH : H l = some (.lst xs))
    (e : s.heap.get? l = some { cls := .type "list", data := .seq its.toArray n }) (hf : f its.toArray = its'.toArray) (hv : Vals ys its') (hz : ys.length ≤ sizeLine) :
    Inv X pins σ (upd H l (.lst ys)) { s with heap := s.heap.update l (Obj.mapSeq f), toks := t' } := by
  have q := PySem.IsL.update e f
  rw [hf] at q
  refine I.write (x := l) (e := l) (by rw [hH]; exact trivial) (.inl rfl) (fun b' u hb hu => (Heap.get?_update_other s.heap (Obj.mapSeq f) (Ne.symm hb)).trans hu) ⟨_, q⟩ ?_
  exact ⟨hz, its', _, hv, q⟩
theorem Inv.lnew {its : List Value} {t' : Nat} (I : Inv X pins σ H s) (hv : Vals ys its) (hz : ys.length ≤ sizeLine) :
    Inv X pins σ (upd H s.heap.objs.size (.lst ys)) { s with heap := s.heap.push { cls := .type "list", data := .seq its.toArray }, toks := t' } :=
  I.laid (fun _ _ q => Heap.get?_push_of_some _ q) (Nat.le_refl _) ⟨hz, its, 0, hv, Heap.get?_push_size _ rfl⟩
theorem Inv.fresh (I : Inv X pins σ H s) : H s.heap.objs.size = none := I.hok.fresh (Nat.le_refl _)
theorem Inv.lstM (I : Inv X pins σ H s) (hH : H l = some (.lst xs)) : xs.length ≤ sizeLine ∧ ∃ (its : List Value) (n : Nat), Vals xs its ∧ xs.length = its.length ∧ s.heap.get? l = some { cls := .type "list", data := .seq its.toArray n } := by
  obtain ⟨z, its, n, r, e⟩ := I.hok l _ hH
  exact ⟨z, its, n, r, r.length, e⟩

theorem notLongL {n : Nat} (h : n ≤ sizeLine) : Builtin.List.listTooLong n = false := by
  unfold Builtin.List.listTooLong
  exact decide_eq_false (by omega)
end

section
variable {X : Cx}

/-! ### methods -/
def rAppend : V → List V → Hp → VK → Prop := fun x vs H Q => ∃ l xs y, x = .ref l ∧ vs = [y] ∧ H l = some (.lst xs) ∧ xs.length < sizeLine ∧ Q .non (upd H l (.lst (xs ++ [y])))
theorem mt_append : MtM X "list.append" rAppend := by
  intro pins s σ H x vs v us Q I rx rv h
  obtain ⟨l, xs, y, rfl, rfl, hH, hz, q⟩ := h
  cases rx
  obtain ⟨u, rfl, ru⟩ := rv.one
  obtain ⟨z, its, n, r, hl, e⟩ := I.lstM hH
  refine call_meets F.slot_list_append ⟨_, e, rfl⟩ F.entry_list_append (F.args_list_append_2 _ _) (PySem.list_append l its.toArray n u (by rw [List.size_toArray]; omega)) ⟨e, ?_⟩
  refine ⟨.non, _, I.lset (its' := its ++ [u]) hH e (by simp) (r.append (.cons ru .nil)) ?_, rfl, q⟩
  rw [List.length_append, List.length_singleton]
  omega

def rExtend : V → List V → Hp → VK → Prop := fun x vs H Q => ∃ l b xs zs, x = .ref l ∧ vs = [.ref b] ∧ H l = some (.lst xs) ∧ H b = some (.lst zs) ∧ xs.length + zs.length ≤ sizeLine ∧ Q .non (upd H l (.lst (xs ++ zs)))
theorem mt_extend : MtM X "list.extend" rExtend := by
  intro pins s σ H x vs v us Q I rx rv h
  obtain ⟨l, b, xs, zs, rfl, rfl, hH, hB, hz, q⟩ := h
  cases rx
  obtain ⟨u, rfl, ru⟩ := rv.one
  cases ru
  obtain ⟨z, its, n, r, hl, e⟩ := I.lstM hH
  obtain ⟨z2, its2, n2, r2, hl2, e2⟩ := I.lstM hB
  have hsz : its.toArray.size + its2.toArray.size ≤ sizeLine := by rw [List.size_toArray, List.size_toArray]; omega
  have hlong : ¬ (!its.toArray.isEmpty && Builtin.List.listTooLong (its.toArray.size + its2.toArray.size)) = true := by
    rw [notLongL hsz, Bool.and_false]
    exact Bool.false_ne_true
  refine call_meets F.slot_list_extend ⟨_, e, rfl⟩ F.entry_list_extend (F.args_list_extend_2 _ _)
    (AutoSeq1.list_extend_list_list_0 l its.toArray n b its2.toArray n2 hlong (by rw [List.size_toArray]; omega) (by omega)) ⟨e, e2, ?_⟩
  refine ⟨.non, _, I.lset (its' := its ++ its2) hH e (by simp) (r.append r2) ?_, rfl, q⟩
  rw [List.length_append]
  omega

def rClear : V → List V → Hp → VK → Prop := fun x vs H Q => ∃ l xs, x = .ref l ∧ vs = [] ∧ H l = some (.lst xs) ∧ Q .non (upd H l (.lst []))
theorem mt_clear : MtM X "list.clear" rClear := by
  intro pins s σ H x vs v us Q I rx rv h
  obtain ⟨l, xs, rfl, rfl, hH, q⟩ := h
  cases rx
  have hus := rv.zero
  subst hus
  obtain ⟨z, its, n, r, hl, e⟩ := I.lstM hH
  refine call_meets F.slot_list_clear ⟨_, e, rfl⟩ F.entry_list_clear (F.args_list_clear_1 _) (AutoSeq1.list_clear_list_0 l its.toArray n (by rw [List.size_toArray]; omega)) ⟨e, ?_⟩
  exact ⟨.non, _, I.lset (its' := []) (ys := []) hH e rfl .nil (Nat.zero_le _), rfl, q⟩

/-! ### list + list, list += list, list * int -/
def rCat : R2 := fun x y H Q => ∃ l b xs zs, x = .ref l ∧ y = .ref b ∧ H l = some (.lst xs) ∧ H b = some (.lst zs) ∧ xs.length + zs.length ≤ sizeLine ∧ ∀ p, H p = none → Q (.ref p) (upd H p (.lst (xs ++ zs)))
theorem op_cat : OpR X (binaryOp .Add) rCat := by
  intro pins s σ H x y v u Q I rx ry h
  obtain ⟨l, b, xs, zs, rfl, rfl, hH, hB, hz, q⟩ := h
  cases rx
  cases ry
  obtain ⟨z, its, n, r, hl, e⟩ := I.lstM hH
  obtain ⟨z2, its2, n2, r2, hl2, e2⟩ := I.lstM hB
  refine PySem.P.add_list e e2 ?_ (by rw [List.size_toArray, List.size_toArray]; omega)
  have ea : its.toArray ++ its2.toArray = (its ++ its2).toArray := by simp
  rw [ea]
  exact ⟨.ref _, _, I.lnew (t' := s.toks) (r.append r2) (by rw [List.length_append]; omega), rfl, q _ I.fresh⟩
/-! ### del xs[i] -/
end

/-! ### xs[a:b] = ys -/
section
variable {prog : Program} {w : World} {A : Around} {E : Value → Shared → Prop} {s : Shared}
set_option maxRecDepth 100000 in
end

section
variable {X : Cx}
end
end L2

namespace Att
open PySem PySem.W PySem.Calls PyProof.Rows

/-! ### the script -/
theorem ints_of_wellAll {P : Params} {h : Heap} : ∀ (ns : List Int) (vs : List Value), WellAll P h vs (ns.map WData.int) → IntsAre vs ns := by
  intro ns
  induction ns with
  | nil =>
    intro vs w
    rw [List.map_nil] at w
    cases w
    exact .nil
  | cons n ns ih =>
    intro vs w
    rw [List.map_cons] at w
    cases w with
    | cons a b =>
      cases a
      exact .cons _ _ (ih _ b)

theorem script_of {l : OpenLaw} {n : Nat} (hn : l.most = some n) {P : Params} {h : Heap} {args : List WData} {vals : List Value}
    (hpre : l.row.toRowW.claim.pre args = true) (hwl : WellAll P h vals args) :
    ∃ a vs ns, vals = [Value.ref a] ∧ args = [WData.list (ns.map WData.int)] ∧ h.get? a = some { cls := .type "list", data := .seq vs.toArray } ∧ IntsAre vs ns ∧ ns.length ≤ n := by
  have hsh : WShape.hasAll [] args [.list .int] = true := (pre_splitW hpre).1
  have hc : l.pre.holds [] { args := args } = true := (pre_splitW hpre).2
  obtain ⟨d, r, rfl, h1, h2⟩ := hasAllW_cons hsh
  obtain rfl := hasAllW_nil h2
  obtain ⟨xs, rfl, h3⟩ := hasW_list h1
  obtain ⟨ns, rfl⟩ := items_int h3
  have hlen : ns.length ≤ n := by
    unfold OpenLaw.pre at hc
    have h4 : (WTm.not (.lt (.lit (.int (n : Int))) (.len (.arg 0)))).holds [] { args := [.list (ns.map .int)] } = true := by
      have h4 := (holds_andW hc).1
      rw [hn] at h4
      exact h4
    have h5 := condW_of h4 (w_not (w_lt w_lit (w_len_list (w_arg rfl))))
    rw [List.length_map] at h5
    refine Nat.le_of_not_lt fun q => ?_
    have q' : (n : Int) < ((ns.length : Nat) : Int) := by omega
    first
      | (rw [decide_eq_true q'] at h5; exact absurd h5 (by decide))
      | (simp at h5; omega)
  cases hwl with
  | cons w1 w2 =>
    cases w2
    cases w1 with
    | list ho hall => exact ⟨_, _, ns, rfl, rfl, ho, ints_of_wellAll ns _ hall, hlen⟩

theorem post_true (l : OpenLaw) (args : List WData) : l.row.toRowW.claim.post args (.bool true) args = true :=
  postW_of (r := l.row.toRowW) (X := (true == true))
    (show WShape.has [] (.bool true) .bool = true by first | rfl | decide | simp [WShape.has, WShape.arms, WShape.armsAll])
    (show (WTm.eq .res (.lit (.bool true))).value [] { args := args, res := some (.bool true), after := args } = some (.bool (true == true)) from w_eq_bool (w_res rfl) w_lit) rfl

/-! ### the attachment: holds_open's last premise (the goal 'hc' behind k_head) from a wpAny of the law's body -/
theorem attach_call {l : OpenLaw} {n : Nat} {q : Program} {loose : List Str} {XP : (Str → Option Value) → Heap → Prop} {YP : World → Heap → Prop} {d : DefRec}
    (hn : l.most = some n) (hdf : d.params.defaults = [])
    (call : ∀ (w : World) (s₀ s₁ : Shared) (mg mb : Str → Option Value) (fa : Addr) (o : Obj) (pm cd doc : Value) (a : Addr) (vs : List Value) (ns : List Int),
      Ground q loose [] XP w s₀ mg mb s₁.heap → YP w s₁.heap →
      s₁.heap.get? fa = some o → o.data = .func (docDef d.name d.params d.body d.scope pm cd doc) → s₁.heap.CodeRec cd d.name → mg d.name = some (.ref fa) →
      s₁.heap.get? a = some { cls := .type "list", data := .seq vs.toArray } → IntsAre vs ns → ns.length ≤ n → s₁.gens = #[] →
      codeAny (model l.prog w) callerA (.call (.ref fa) ⟨[.ref a], []⟩) (fun r s' => r = .ok (.ret (.bool true)) ∧ OldK s₁.heap s'.heap ∧ s'.os = s₁.os ∧ AllBare s'.gens) s₁) :
    WalkO q loose XP YP l.row.toRowW d [] (fun f vs => PySem.call f vs) := by
  intro w s₀ s₁ mg mb G Y fa o pm cd doc dV kV ho hd hcd hD hmg hg args vals as hpre hlay hrd hwl hlo
  obtain rfl : dV = .none := Dflts.none hD hdf
  obtain rfl : kV = .none := Dflts.noKw hD
  obtain ⟨a, vs, ns, rfl, rfl, hobj, hints, hlen⟩ := script_of hn hpre hwl
  refine enter_call (codeAny_mono (call w s₀ s₁ mg mb fa o pm cd doc a vs ns G Y ho (fd_plain hd) hcd hmg hobj hints hlen hg) fun r s' hq => ?_)
  obtain ⟨rfl, h2, h3, h4⟩ := hq
  exact ⟨.inl ⟨.bool true, .bool true, [], rfl, fun _ => rfl, .bool true, post_true l _, fun _ => ⟨List.Pairwise.nil, fun _ hm => (nomatch hm)⟩⟩, h2, h3, h4⟩

/-! ### rules over ANY heap (no ledger) from facts about the written part K: the library's own take a ledger (News) for what they write -/
section
variable {prog : Program} {w : World} {A : Around} {E : Value → Shared → Prop} {s : Shared} {K : Frag}

/-! the whole heap as the ledger: makes every rule that writes through a ledger a rule over any heap -/
end
end Att

namespace L2
open PySem PySem.Spec PyProof.Rows

theorem vals_ints : ∀ {vs : List Value} {ns : List Int}, IntsAre vs ns → Vals (ns.map V.int) vs
  | _, _, .nil => .nil
  | _, _, .cons n t h => .cons ⟨t, rfl⟩ (vals_ints h)

def Only (H : Hp) : Prop := ∀ b, H b = none ∨ ∃ o xs, H b = some (.frz o (.lst xs))

theorem law_call {P : Program} {w : World} {K : PySem.W.Frag} {mg mb : Str → Option Value} {CX : CXT} {k : Nat} {fa a : Addr} {fd : FuncData} {x : Str} {sp : Sp} {s₁ : Shared} {vs : List Value} {ns : List Int}
    (KX : K.In s₁.heap) (hns : s₁.heap.Ns mainGlobals mg) (hb : s₁.heap.Ns builtinsNs mb) (hbb : ∀ x : Str, x ≠ "__name__" → mb x = bootBuiltins x) (hlim : s₁.heap.NoLimit) (hg : s₁.gens = #[])
    (ha : s₁.heap.get? a = some { cls := .type "list", data := .seq vs.toArray }) (hi : IntsAre vs ns) (hl : ns.length ≤ sizeLine) (hr : Room k callerA)
    (F : ∀ base : Heap, K.In base → base.Ns mainGlobals mg → FnOk P w K mg base CX k fa fd [x] sp) (hbind : ∀ (s : Shared) (u : Value), BindsTo s fd ⟨[u], []⟩ [(x, u)])
    (hsp : ∀ H : Hp, Only H → SqL K H a (ns.map V.int) → sp [.ref a] H (fun v _ => v = .bl true) fun _ _ _ => False)
    (hCX : ∀ H e s', CX [] H s₁ (fun _ _ _ => False) e s' → False) :
    codeAny (model P w) callerA (.call (.ref fa) ⟨[.ref a], []⟩) (fun r s' => r = .ok (.ret (.bool true)) ∧ OldK s₁.heap s'.heap ∧ s'.os = s₁.os ∧ AllBare s'.gens) s₁ := by
  have rv := vals_ints hi
  have lenV := hi.length
  -- from an abstract heap in which nothing but the script may be tracked
  have core : ∀ H : Hp, Only H → SqL K H a (ns.map V.int) → HOk P w H s₁.heap → (∀ b, H b ≠ none → b = a) → (H a ≠ none → K.lookup a = none) →
      codeAny (model P w) callerA (.call (.ref fa) ⟨[.ref a], []⟩) (fun r s' => r = .ok (.ret (.bool true)) ∧ OldK s₁.heap s'.heap ∧ s'.os = s₁.os ∧ AllBare s'.gens) s₁ := by
    intro H hO hS hok hA hK
    have base_of : ∀ {b : Addr} {o : Obj}, s₁.heap.get? b = some o → H b = none → (hidT s₁.heap H).get? b = some o := fun e n => hidT_get e n
    have noA : ∀ {b : Addr} {o : Obj} {es : Array DictEntry} {ep : Nat}, s₁.heap.get? b = some o → o.data = .dict es ep → H b = none := fun {b o es ep} e d => by
      cases q : H b with
      | none => rfl
      | some u =>
        have e' : b = a := hA b (by rw [q]; simp)
        subst e'
        rw [ha] at e; cases e
        have d' : Data.seq vs.toArray _ = Data.dict es ep := d
        cases d'
    have nsK : ∀ {b : Addr} {m : Str → Option Value}, s₁.heap.Ns b m → (hidT s₁.heap H).Ns b m := fun {b m} ⟨o, es, ep, e, d, r⟩ => ⟨o, es, ep, base_of e (noA e d), d, r⟩
    have hKb : K.In (hidT s₁.heap H) := fun b o e => base_of (KX b o e) (by
      cases q : H b with
      | none => rfl
      | some u =>
        have e' : b = a := hA b (by rw [q]; simp)
        subst e'
        rw [hK (by rw [q]; simp)] at e; cases e)
    have hM : Mod K mg (hidT s₁.heap H) := ⟨hKb, nsK hns, ⟨mb, nsK hb, hbb⟩, let ⟨mc, h1, h2⟩ := hlim; ⟨mc, nsK h1, h2⟩⟩
    have e0 : Env0 P w K mg (hidT s₁.heap H) callerA [] s₁ H := ⟨rfl, hM, fun b o e => of_hidT e, Nat.le_of_eq (hidT_size _ _), trivial, fun b hb => absurd (show b ∈ ([] : List Addr) from hb) (by simp), hok, .of_eq hg⟩
    refine codeAny_mono ((F _ hKb (nsK hns)).run callerA [] s₁ H ⟨[.ref a], []⟩ [.ref a] [.ref a] _ _ hr e0 (hbind s₁ (.ref a)) (.cons rfl .nil) (hsp H hO hS)) fun r s' h => ?_
    cases r with
    | error e => exact (hCX H e s' h).elim
    | ok fl =>
      cases fl with
      | next => exact False.elim h
      | brk => exact False.elim h
      | cont => exact False.elim h
      | ret u =>
        obtain ⟨v, H', os, bare, un, hok', r', q⟩ := h
        have q' : v = .bl true := q
        subst q'
        obtain rfl : u = Value.bool true := r'
        refine ⟨rfl, OldK.of_keep fun b o e => ?_, os, bare⟩
        cases q : H b with
        | none => exact un.keep b o e q (by intro z; exact absurd (show b ∈ ([] : List Addr) from z) (by simp)) (by simp)
        | some u =>
          rcases hO b with z | ⟨ob, xs, z⟩
          · rw [q] at z; cases z
          · have z2 := un.frzs b ob _ z
            obtain ⟨e1, _⟩ := hok b _ z
            obtain ⟨e2, _⟩ := hok' b _ z2
            rw [e] at e1; cases e1
            exact e2
  cases hk : K.lookup a with
  | some o =>
    -- the script is one of the module's own objects
    have e := KX a o hk
    rw [ha] at e
    cases e
    refine core (fun _ => none) (fun _ => .inl rfl) (.inr ⟨_, vs.toArray, _, hk, rfl, rfl, rfl, by rw [List.size_toArray, lenV]; exact hl, by simpa using rv⟩) (fun b u z => by have z' : (none : Option HO) = some u := z; cases z') (fun b z => absurd rfl z) fun z => absurd rfl z
  | none =>
    refine core (fun b => if b = a then some (.frz { cls := .type "list", data := .seq vs.toArray } (.lst (ns.map V.int))) else none) (fun b => ?_) (.inl (.inr ⟨{ cls := .type "list", data := .seq vs.toArray }, if_pos rfl⟩)) (fun b u z => ?_) (fun b z => ?_) fun _ => hk
    · by_cases hb : b = a
      · exact .inr ⟨_, _, if_pos hb⟩
      · exact .inl (if_neg hb)
    · by_cases hb : b = a
      · have z' := (if_pos hb).symm.trans z
        cases z'
        subst hb
        exact ⟨ha, by rw [List.length_map]; exact hl, vs, _, rv, ha⟩
      · have z' := (if_neg hb).symm.trans z
        cases z'
    · by_cases hb : b = a
      · exact hb
      · exact absurd (if_neg hb) z
end L2

namespace L2
open PySem PySem.Spec PyProof.Rows

theorem walk_of {l : PySem.W.OpenLaw} {n k : Nat} {q : Program} {loose : List Str} {XP : (Str → Option Value) → Heap → Prop} {YP : World → Heap → Prop} {d : DefRec} {K : Params → PySem.W.Frag} {CX : World → CXT} {sp : World → Sp} {x : Str}
    (hn : l.most = some n) (hn2 : n ≤ sizeLine) (hdf : d.params.defaults = []) (hr : Room k callerA)
    (hY : ∀ (w : World) (h : Heap), YP w h → (K w.params).In h)
    (F : ∀ (w : World) (mg : Str → Option Value) (fa : Addr) (h : Heap), (K w.params).In h → h.Ns mainGlobals mg → mg d.name = some (.ref fa) →
      ∃ fd : FuncData, (∀ (s : Shared) (u : Value), BindsTo s fd ⟨[u], []⟩ [(x, u)]) ∧
        ∀ base : Heap, (K w.params).In base → base.Ns mainGlobals mg → FnOk l.prog w (K w.params) mg base (CX w) k fa fd [x] (sp w))
    (hsp : ∀ (w : World) (H : Hp) (a : Addr) (ns : List Int), ns.length ≤ n → Only H → SqL (K w.params) H a (ns.map V.int) → sp w [.ref a] H (fun v _ => v = .bl true) fun _ _ _ => False)
    (hCX : ∀ (w : World) (H : Hp) (s : Shared) (e : Value) (s' : Shared), CX w [] H s (fun _ _ _ => False) e s' → False) :
    PySem.W.WalkO q loose XP YP l.row.toRowW d [] (fun f vs => PySem.call f vs) := by
  refine Att.attach_call hn hdf fun w s₀ s₁ mg mb fa o pm cd doc a vs ns G Y ho hd hcd hmg hobj hints hlen hg => ?_
  have KX := hY w _ Y
  obtain ⟨fd, hb, hF⟩ := F w mg fa _ KX G.T.g hmg
  exact law_call KX G.T.g G.T.b G.T.builtins G.T.nolimit hg hobj hints (Nat.le_trans hlen hn2) hr hF hb (fun H hO hS => hsp w H a ns hlen hO hS) fun H e s' => hCX w H s₁ e s'
end L2

/- THE LAST THEOREM (shape; LID, My.* are yours):
   My.Adr: a structure of the addresses that your layer names (classes, functions); My.Txt K t: a structure (Prop) of the equations over K;
   My.txt_mk : {K} {implicit addresses ..} (e1 : nsIn K mainGlobals "law" = some (some (.ref f))) (e2 : K.lookup f = some ⟨oc, od, .func (fnOf "law" "law" params body scope dV kV doc pm an cdv ct), sl⟩) (e3 : codeIn K cdv "law" = true) .. : ∃ t, My.Txt K t

set_option maxRecDepth 100000 in
set_option maxHeartbeats 0 in
theorem PySem.Challenge.cw_LID_holds : PySem.Challenge.rw_LID.Holds := by
  w_on; o_law; k_head; (case hw => w_witness2)
  k_fill
  refine L2.walk_of (l := PySem.Challenge.rw_LID) (n := 63) (k := 40) (x := "script") (CX := fun w => ..) (sp := fun _ => My.sp_law) rfl (by decide) rfl ⟨rfl, by decide, by decide⟩ (fun w h Y => PySem.W.kIn_of Y) ?F ?S ?C
  case F =>
    intro w mg fa h KX G hmg
    have T : ∃ t, My.Txt (L2.KOf KX) t := by
      dsimp only [L2.KOf]                          -- K must stand as «<heap const> w.params» for k_is
      refine' My.txt_mk ?e1 ?e2 ?e3 ..
      (case e1 => PySem.W.k_is)                    -- in the order: a name -> its address -> its object -> its parts
      (case e2 => PySem.W.k_is)
      ..
    obtain ⟨t, T⟩ := T
    have e0 := hmg.symm.trans (PySem.W.mg_of KX G T.law)
    cases e0                                       -- fa is the law's own address
    exact ⟨_, fun s u => .of_eq rfl, fun base kb nb => My.law_fn T kb nb⟩     -- if «.of_eq rfl» comes too early: refine' ⟨_, ?b, fun base kb nb => My.law_fn T kb nb⟩; exact fun s u => .of_eq rfl
  case S => exact fun w H a ns hl hO hS => ..
  case C => exact ..
(the tactic k_is has no namespace: write k_is) -/

/-! SHORT WORDS over the layer: a def of the text, its body, what a loop and a test want. -/
namespace L2
open PySem PySem.Spec PyProof.Rows

/-! ### the text by places -/
def inClass (s : Stmt) (j : Nat) : Stmt := match s with
  | .ClassDef _ _ _ body _ _ _ _ _ _ _ => body.getD j (.Pass ⟨0, 0, 0, 0⟩)
  | _ => .Pass ⟨0, 0, 0, 0⟩
def defArgs (s : Stmt) : Arguments := match s with
  | .FunctionDef _ a _ _ _ _ _ _ _ _ => a
  | _ => { posonlyargs := [], args := [], vararg := none, kwonlyargs := [], kw_defaults := [], kwarg := none, defaults := [] }
def defBody (s : Stmt) : List Stmt := match s with
  | .FunctionDef _ _ b _ _ _ _ _ _ _ => b
  | _ => []
def defScope (s : Stmt) : Scope := match s with
  | .FunctionDef _ _ _ _ _ _ sc _ _ _ => sc
  | _ => { kind := .function, names := [], isGenerator := false, isCoroutine := false }

/-! ### no exception leaves a def -/
abbrev CX0 : CXT := fun _ _ _ _ _ _ => False
abbrev E0 : XK := fun _ _ _ => False
theorem pass0 {X : Cx} : Passes CX0 X E0 := fun _ _ _ _ _ _ _ h => h.elim

/-! ### a def (or method) of the text as it stands behind the top -/
structure Fun (K : PySem.W.Frag) (x qual : Str) (st : Stmt) (f : Addr) (fd : FuncData) : Prop where
  ex : ∃ (oc : Value) (od : Option Addr) (kV doc pm : Value) (an : Option Addr) (cdv ct : Value) (osl : Array (Option Value)),
    fd = PySem.W.fnOf x qual (defArgs st) (defBody st) (defScope st) .none kV doc pm an cdv ct ∧ K.lookup f = some ⟨oc, od, .func fd, osl⟩ ∧ PySem.W.codeIn K cdv qual = true
  kp : PySem.W.keepIn K (.ref f) = true
section
variable {P : Program} {w : World} {K : PySem.W.Frag} {mg : Str → Option Value} {base : Heap}
theorem Fun.ok {x qual : Str} {st : Stmt} {f : Addr} {fd : FuncData} {N ps : List Str} {k : Nat} {sp : Sp} (F : Fun K x qual st f fd) (S : FnScope N ps (defScope st)) (len : ∀ vs H Q E, sp vs H Q E → vs.length = ps.length)
    (hbody : ∀ (cdv : Value) (A : Around) (outer : List Env) (s : Shared) (H : Hp) (vs : List V) (Q : VK) (E : XK), Room k (A.deeper (envOfC qual (defScope st) s.heap.objs.size f cdv)) → sp vs H Q E →
      ∃ t, PSs (cxOf CX0 P w K mg base N qual (defScope st) f cdv A outer s H E).nox (defBody st) t ∧ t { nx := fun _ H' => Q .non H', rt := Q } (start N vs) H) : FnOk P w K mg base CX0 (k + 1) f fd ps sp := by
  obtain ⟨oc, od, kV, doc, pm, an, cdv, ct, osl, rfl, lk, hcd⟩ := F.ex
  refine fn_of lk hcd S len fun A outer s H vs Q E hr hsp => ?_
  obtain ⟨t, h, q⟩ := hbody cdv A outer s H vs Q E hr hsp
  exact ⟨t, h.nox, q⟩
theorem Fun.binds {x qual : Str} {st : Stmt} {f : Addr} {fd : FuncData} {ps : List Str} (F : Fun K x qual st f fd)
    (h : ∀ (kV doc pm : Value) (an : Option Addr) (cdv ct : Value) (us : List Value), us.length = ps.length → bindArgs (PySem.W.fnOf x qual (defArgs st) (defBody st) (defScope st) .none kV doc pm an cdv ct) ⟨us, []⟩ = pure (ps.zip us)) : Binds K fd ps [] := by
  obtain ⟨oc, od, kV, doc, pm, an, cdv, ct, osl, rfl, lk, hcd⟩ := F.ex
  exact .all (h kV doc pm an cdv ct)
theorem fun_mk {x qual : Str} {st : Stmt} {f : Addr} {oc : Value} {od an : Option Addr} {osl : Array (Option Value)} {kV doc pm cdv ct : Value} (l : K.lookup f = some ⟨oc, od, .func (PySem.W.fnOf x qual (defArgs st) (defBody st) (defScope st) .none kV doc pm an cdv ct), osl⟩)
    (c : PySem.W.codeIn K cdv qual = true) (k : PySem.W.keepIn K (.ref f) = true) : Fun K x qual st f (PySem.W.fnOf x qual (defArgs st) (defBody st) (defScope st) .none kV doc pm an cdv ct) := ⟨⟨oc, od, kV, doc, pm, an, cdv, ct, osl, rfl, l, c⟩, k⟩
end
/-! ### expressions in short: the name that stands in the i-th slot -/
section
variable {X : Cx}
theorem pv (i : Nat) {x : Str} {pos : Pos} (hN : X.N[i]? = some x := by rfl) (hv : Vis X.env.scope x := by first | exact Or.inl rfl | exact Or.inr (Or.inl rfl) | exact Or.inr (Or.inr rfl)) (hd : (x == ("__debug__" : Str)) = false := by decide)
    (hcd : (x == ("__classdict__" : Str)) = false := by decide) : PE X (.Name x pos) (tVar i) := pe_var hN hv hd hcd
end

/-! ### tests -/
theorem iteF {A B : Prop} (h : B) : if false = true then A else B := by
  rw [if_neg Bool.false_ne_true]
  exact h
theorem iteT {A B : Prop} (h : A) : if true = true then A else B := by
  rw [if_pos rfl]
  exact h
theorem ite2 {c A B : Prop} [Decidable c] (h1 : c → A) (h2 : ¬ c → B) : if c then A else B := by
  by_cases h : c
  · rw [if_pos h]
    exact h1 h
  · rw [if_neg h]
    exact h2 h
theorem iteNS {c A B : Prop} [Decidable c] (hc : c) (h : B) : if (!decide c) = true then A else B := by
  rw [decide_eq_true hc]
  exact iteF h

/-! ### heaps -/
def Same (H H' : Hp) : Prop := ∀ b o, H b = some o → H' b = some o
theorem Same.refl (H : Hp) : Same H H := fun _ _ h => h
theorem Same.trans {H H1 H2 : Hp} (a : Same H H1) (b : Same H1 H2) : Same H H2 := fun c o h => b c o (a c o h)
theorem Same.free {H H' : Hp} (e : Same H H') {l : Addr} (h : H' l = Option.none) : H l = Option.none := by
  cases q : H l with
  | none => rfl
  | some o =>
    rw [e l o q] at h
    cases h
theorem Same.seq {K : PySem.W.Frag} {H H' : Hp} {a : Addr} {xs : List V} (e : Same H H') (h : SqL K H a xs) : SqL K H' a xs := by
  rcases h with (h | ⟨o, h⟩) | h
  · exact .inl (.inl (e _ _ h))
  · exact .inl (.inr ⟨o, e _ _ h⟩)
  · exact .inr h

end L2

set_option Elab.async false
set_option linter.all false
set_option maxRecDepth 100000
set_option maxHeartbeats 4000000
namespace L2
open PySem PySem.Spec PyProof.Rows
/-! texts as lists of codes -/
abbrev S (l : List Nat) : Str := ⟨⟨l⟩⟩
theorem S_len (l : List Nat) : (S l).length = l.length := rfl
theorem S_app (a b : List Nat) : S a ++ S b = S (a ++ b) := by
  refine PyProof.Rows.ext_toList ?_
  rw [PySem.W.KT.app_list]
theorem S_inj {a b : List Nat} (h : S a = S b) : a = b := congrArg (fun x : Str => x.cps.toList) h
theorem S_dec (a b : List Nat) : decide (V.str (S a) = V.str (S b)) = decide (a = b) := by
  by_cases e : a = b
  · subst e; simp
  · have h : ¬ (V.str (S a) = V.str (S b)) := fun q => e (S_inj (V.str.inj q))
    rw [decide_eq_false h, decide_eq_false e]
def cutL {α : Type} (l : List α) (lo hi : Option Int) : List α := (l.drop (HT.sIx l.length 0 lo)).take (HT.sIx l.length l.length hi - HT.sIx l.length 0 lo)
theorem clipS (v : Int) (n : Nat) : max 0 (min (if v < 0 then v + (n : Int) else v) (n : Int)) = ((HT.sIx n 0 (some v) : Nat) : Int) := by
  show _ = (((if v < 0 then (v + (n : Int)).toNat else min v.toNat n) : Nat) : Int)
  by_cases hv : v < 0
  · simp only [if_pos hv]; omega
  · simp only [if_neg hv]; omega
theorem strIx_eq (lo hi : Option Int) (n : Nat) : Builtin.Str.strSliceIndices lo hi 1 n = (List.range (HT.sIx n n hi - HT.sIx n 0 lo)).map (HT.sIx n 0 lo + ·) := by
  rw [← sliceRange_one]
  unfold Builtin.Str.strSliceIndices
  simp only [show (1 : Int) > 0 by decide, if_true]
  cases lo with
  | none =>
    cases hi with
    | none => rfl
    | some v => dsimp only; rw [clipS]; rfl
  | some u =>
    cases hi with
    | none => dsimp only; rw [clipS]; rfl
    | some v => dsimp only; rw [clipS, clipS]; rfl
theorem slice_S (l : List Nat) (lo hi : Option Int) : Txt.slice (S l) lo hi = S (cutL l lo hi) := by
  unfold Txt.slice
  rw [strIx_eq, pick_run]
  split
  · rename_i h
    have e : (List.map (HT.sIx (S l).length 0 lo + ·) (List.range (HT.sIx (S l).length (S l).length hi - HT.sIx (S l).length 0 lo))).length = (S l).length := by
      simpa using h
    rw [List.length_map, List.length_range, S_len] at e
    have h1 : HT.sIx l.length l.length hi ≤ l.length := HT.sIx_le _ _ (Nat.le_refl _) _
    have h0 : HT.sIx l.length 0 lo ≤ l.length := HT.sIx_le _ _ (Nat.zero_le _) _
    have z : l.length = 0 ∨ HT.sIx l.length 0 lo = 0 := by omega
    unfold cutL
    rcases z with z | z
    · have : l = [] := List.length_eq_zero_iff.mp z
      subst this
      simp
    · rw [z, List.drop_zero, List.take_of_length_le (by omega)]
  · rfl
section
variable {X : Cx}
theorem sl_str : SlR X (fun x lo hi H Q => ∃ l, x = .str (S l) ∧ l.length ≤ sizeLine ∧ Q (.str (S (cutL l lo hi))) H) := by
  intro pins s σ H x v vl vu lo hi sl Q I rx hs pl pu h
  obtain ⟨l, rfl, hz, q⟩ := h
  obtain ⟨t, rfl⟩ := rx
  refine ⟨"str", _, F.slot_str_getitem.lookup, typeIs_str _ _ _, ?_⟩
  have fin : ∀ t' k, EP X pins σ Q (.str (Txt.slice (S l) lo hi) t') { s with toks := k } := fun t' k => ⟨.str (S (cutL l lo hi)), H, I.tok _, ⟨t', by rw [slice_S]⟩, q⟩
  have hz' : ∀ lo hi, (Txt.slice (S l) lo hi).length ≤ sizeLine := fun lo hi => Nat.le_trans (Txt.slice_le _ _ _) hz
  cases pl with
  | none =>
    cases pu with
    | none => exact wpAny_getItem_str_slice (l := none) (u := none) (st := none) hs rfl (post_val_or_str ⟨hz' _ _, fin⟩)
    | int j tj => exact wpAny_getItem_str_slice (l := none) (u := some (j, tj)) (st := none) hs rfl (post_val_or_str ⟨hz' _ _, fin⟩)
  | int i ti =>
    cases pu with
    | none => exact wpAny_getItem_str_slice (l := some (i, ti)) (u := none) (st := none) hs rfl (post_val_or_str ⟨hz' _ _, fin⟩)
    | int j tj => exact wpAny_getItem_str_slice (l := some (i, ti)) (u := some (j, tj)) (st := none) hs rfl (post_val_or_str ⟨hz' _ _, fin⟩)
theorem op_adS : OpR X (binaryOp .Add) (fun x y H Q => ∃ a b, x = .str (S a) ∧ y = .str (S b) ∧ a.length + b.length ≤ sizeLine ∧ Q (.str (S (a ++ b))) H) := by
  intro pins s σ H x y v u Q I rx ry h
  obtain ⟨a, b, rfl, rfl, hz, q⟩ := h
  exact op_add_str pins s σ H _ _ v u Q I rx ry ⟨S a, S b, rfl, rfl, hz, by rw [S_app]; exact q⟩
theorem call_lenS : CallR X (.builtin "len") (fun xs H Q => ∃ l, xs = [.str (S l)] ∧ l.length ≤ sizeLine ∧ Q (.int l.length) H) := by
  intro pins s σ H xs us Q I r h
  obtain ⟨l, rfl, hz, q⟩ := h
  exact call_len_str pins s σ H _ us Q I r ⟨S l, rfl, hz, q⟩
theorem ix_S : IxR X (fun x y H Q => ∃ l i c, x = .str (S l) ∧ y = .int i ∧ l.length ≤ sizeLine ∧ atI l i = some c ∧ Q (.str (S [c])) H) := by
  intro value slice pins s σ H x y v u Q I rx ry h hs
  obtain ⟨l, i, c, rfl, rfl, hz, he, q⟩ := h
  exact ix_str value slice pins s σ H _ _ v u Q I rx ry ⟨S l, i, c, rfl, rfl, hz, he, q⟩ hs
def clsV : V → Value
  | .ty n => .type n
  | .ref a => .ref a
  | _ => .none
theorem call_isi : CallR X (.builtin "isinstance") (fun xs H Q => ∃ x c t b, xs = [x, c] ∧ (∃ n, c = .ty n ∨ ∃ a, c = .ref a) ∧ TyOf X.K H x t ∧ PySem.W.kitOne X.K t (clsV c) = some b ∧ Q (.bl b) H) := by
  intro pins s σ H xs us Q I r h
  obtain ⟨x, c, t, b, rfl, hc, ty, e, q⟩ := h
  obtain ⟨u, w, rfl, ru, rw'⟩ := r.two
  have ew : w = clsV c := by
    obtain ⟨n, rfl | ⟨a, rfl⟩⟩ := hc
    · exact rw'
    · exact rw'
  subst ew
  exact isinst_ok I ru ty e fun tk => ⟨.bl b, H, I.tok _, rfl, q⟩
end
/-! an own def, bundled -/
structure Own (P : Program) (w : World) (K : PySem.W.Frag) (mg : Str → Option Value) (base : Heap) (CX : CXT) (k : Nat) (x : Str) (ps : List Str) (sp : Sp) : Prop where
  ex : ∃ f fd, FnOk P w K mg base CX k f fd ps sp ∧ Binds K fd ps [] ∧ PySem.W.keepIn K (.ref f) = true ∧ mg x = some (.ref f)
section
variable {X : Cx} {CX : CXT} {j k : Nat} {ps : List Str} {sp : Sp} {E : XK} {x : Str} {p pos : Pos} {e : Expr} {es : List Expr} {t : TA}
theorem pe_own (O : Own X.prog X.w X.K X.mg X.base CX j x ps sp) (hr : Room k X.A) (hg : Gl X x) (hx : Passes CX X E) (ha : PA X (e :: es) t) (hj : j ≤ k := by decide) (hdb : (x == ("__debug__" : Str)) = false := by decide)
    (he : starEach (e :: es) X.env = (false, eval e X.env) :: starEach es X.env := by rfl) (hpl : (backTo pos (starEach es X.env)).any (·.1) = false := by rfl) : PE X (.Call (.Name x p) (e :: es) [] pos) (tCall sp [] E t) := by
  obtain ⟨f, fd, F, b, kp, m⟩ := O.ex
  exact pe_call F (hr.mono hj) hg m kp b .nil hx ha hdb he hpl
end
theorem boot_isi : bootBuiltins "isinstance" = some (.builtin "isinstance") := by first | exact PySem.boot_isinstance | decide +kernel
theorem small {n : Nat} (h : n ≤ 1000000) : n ≤ sizeLine := by rw [PySem.sizeLine_eq]; omega
theorem boot_int : bootBuiltins "int" = some (.type "int") := by decide +kernel
theorem boot_bool : bootBuiltins "bool" = some (.type "bool") := by decide +kernel
theorem boot_str : bootBuiltins "str" = some (.type "str") := by decide +kernel
theorem boot_tuple : bootBuiltins "tuple" = some (.type "tuple") := by decide +kernel
theorem boot_list : bootBuiltins "list" = some (.type "list") := by decide +kernel
theorem boot_ValueError : bootBuiltins "ValueError" = some (.type "ValueError") := by decide +kernel
theorem kit_ii {K : PySem.W.Frag} : PySem.W.kitOne K (.type "int") (.type "int") = some true := by rfl
theorem kit_ib {K : PySem.W.Frag} : PySem.W.kitOne K (.type "int") (.type "bool") = some false := by first | rfl | decide +kernel | (unfold PySem.W.kitOne; rfl)
theorem kit_ss {K : PySem.W.Frag} : PySem.W.kitOne K (.type "str") (.type "str") = some true := by rfl
theorem kit_tt {K : PySem.W.Frag} : PySem.W.kitOne K (.type "tuple") (.type "tuple") = some true := by rfl
theorem kit_ll {K : PySem.W.Frag} : PySem.W.kitOne K (.type "list") (.type "list") = some true := by rfl
theorem atI_in {α : Type} (l : List α) {i : Int} (h0 : 0 ≤ i) (h : i.toNat < l.length) : atI l i = some (l[i.toNat]) := by
  have e : ((i.toNat : Nat) : Int) = i := by omega
  have z := atI_nat (List.getElem?_eq_getElem h)
  rw [e] at z
  exact z
theorem cutL_nn {α : Type} (l : List α) (k hi : Nat) : cutL l (some (k : Int)) (some (hi : Int)) = (l.drop k).take (hi - k) := by
  unfold cutL
  rw [HT.sIx_nat, HT.sIx_nat]
  by_cases h : k ≤ l.length
  · rw [Nat.min_eq_left h]
    by_cases h2 : hi ≤ l.length
    · rw [Nat.min_eq_left h2]
    · rw [Nat.min_eq_right (by omega), List.take_of_length_le (by simp), List.take_of_length_le (by simp; omega)]
  · rw [List.drop_eq_nil_of_le (by omega), List.drop_eq_nil_of_le (by omega)]
    simp
theorem cutL_n {α : Type} (l : List α) (k : Nat) : cutL l (some (k : Int)) none = l.drop k := by
  unfold cutL
  rw [HT.sIx_nat, HT.sIx_none]
  by_cases h : k ≤ l.length
  · rw [Nat.min_eq_left h, List.take_of_length_le (by simp)]
  · rw [List.drop_eq_nil_of_le (by omega), List.drop_eq_nil_of_le (by omega)]
    simp
theorem cutL_m {α : Type} (l : List α) (k : Nat) : cutL l none (some (k : Int)) = l.take k := by
  unfold cutL
  rw [HT.sIx_nat, HT.sIx_none, List.drop_zero, Nat.sub_zero]
  by_cases h : k ≤ l.length
  · rw [Nat.min_eq_left h]
  · rw [Nat.min_eq_right (by omega), List.take_of_length_le (by omega), List.take_of_length_le (by omega)]
theorem cutL_ii {α : Type} (l : List α) {i j : Int} (hi : 0 ≤ i) (hj : 0 ≤ j) : cutL l (some i) (some j) = (l.drop i.toNat).take (j.toNat - i.toNat) := by
  have e : i = (i.toNat : Int) := by omega
  have f : j = (j.toNat : Int) := by omega
  rw [e, f, cutL_nn]
  rfl
theorem cutL_i {α : Type} (l : List α) {i : Int} (hi : 0 ≤ i) : cutL l (some i) none = l.drop i.toNat := by
  have e : i = (i.toNat : Int) := by omega
  rw [e, cutL_n]
  rfl
theorem cutL_j {α : Type} (l : List α) {i : Int} (hi : 0 ≤ i) : cutL l none (some i) = l.take i.toNat := by
  have e : i = (i.toNat : Int) := by omega
  rw [e, cutL_m]
  rfl
theorem cutL_le {α : Type} (l : List α) (lo hi : Option Int) : (cutL l lo hi).length ≤ l.length := by
  unfold cutL
  rw [List.length_take, List.length_drop]
  omega
theorem same_new {H : Hp} {p : Addr} (h : H p = none) (o : HO) : Same H (upd H p o) := fun b u q => by rw [upd_ne (ne_of_none q h)]; exact q
theorem iteDT {c A B : Prop} [Decidable c] (h : c) (x : A) : if decide c = true then A else B := by
  rw [decide_eq_true h]
  exact iteT x
theorem iteDF {c A B : Prop} [Decidable c] (h : ¬ c) (x : B) : if decide c = true then A else B := by
  rw [decide_eq_false h]
  exact iteF x
end L2

set_option Elab.async false
set_option linter.all false
set_option maxRecDepth 100000
set_option maxHeartbeats 4000000
namespace L2
open PySem PySem.Spec PyProof.Rows
section
variable {X : Cx}
/-! list.insert at the front -/
end
end L2

set_option Elab.async false
set_option linter.all false
set_option maxRecDepth 100000
set_option maxHeartbeats 4000000
namespace L2
open PySem PySem.Spec PyProof.Rows PySem.W PySem.Builtin.ObjectAttr PySem.Builtin.Getset_descriptor
/-! ## exceptions of own classes -/
def ExcObj (e C : Addr) (h : Heap) : Prop := ∃ o, h.get? e = some o ∧ o.cls = .ref C
structure ExcCls (K : Frag) (C : Addr) : Prop where
  cls : (clsIn K C).isSome = true
  ga : findIn K (.ref C) "__getattribute__" = some (some (.builtin "BaseException.__getattribute__"))
  gn : findIn K (.ref C) "__getattr__" = some none
  ca : findIn K (.ref C) "__class__" = some (some (.builtin "object.__class__"))
  cg : specialIn K (.builtin "object.__class__") "__get__" = some (some (.builtin "getset_descriptor.__get__"))
  ct : takesIn K (.builtin "object.__class__") = some true
  mo : mroIn K C (.type "object") = some true
  mb : mroIn K C (.type "BaseException") = some true
section
variable {K : Frag} {e C : Addr} {M : Model} {h : Heap}
theorem exc_type (p : ExcObj e C h) : Looks M h (typeOf (.ref e)) (.ref C) := by
  obtain ⟨o, ho, hc⟩ := p
  exact hc ▸ (Looks.ld ho).andThen .now
theorem isType_cls (X : K.In h) (c : (clsIn K C).isSome = true) : Looks M h (isType (.ref C)) true := by
  unfold clsIn at c
  split at c
  · rename_i ho
    intro A Q E s k q
    unfold isType loadHead
    exact wpAny_bind (wpAny_loadPart (k _ _ (X _ _ ho)) (wpAny_pure q))
  · cases c
theorem exc_find (X : K.In h) (c : ExcCls K C) (p : ExcObj e C h) : Looks M h (find (.ref e) (.ref C) "__class__") (.bind (.builtin "getset_descriptor.__get__") (.builtin "object.__class__")) := by
  have L1 := looks_findIn (M := M) X c.ca
  have L2 : Looks M h (getOf (some (.builtin "object.__class__"))) (some (.builtin "getset_descriptor.__get__")) := looks_specialIn X c.cg
  have L3 := looks_takesIn (M := M) X c.ct
  have L4 : Looks M h (dataDescriptor? (some (.builtin "object.__class__")) (some (.builtin "getset_descriptor.__get__"))) (some ((.builtin "getset_descriptor.__get__"), (.builtin "object.__class__"))) := L3.andThen .now
  exact L1.andThen (L2.andThen (L4.andThen (Looks.tag .now)))
theorem exc_classGet {prog : Program} {w : World} {A : Around} {R : Result → Shared → Prop} {s : Shared} {tp : Value} (X : K.In s.heap) (c : ExcCls K C) (p : ExcObj e C s.heap) (q : R (.ok (.ret (.ref C))) s) :
    codeAny (model prog w) A (.call (.builtin "getset_descriptor.__get__") ⟨[.builtin "object.__class__", .ref e, tp], []⟩) R s := by
  obtain ⟨hh, g, dr, t, os⟩ := s
  have L0 := exc_type (M := model prog w) p
  have L1 := looks_mroIn (M := model prog w) X c.mo
  refine codeAny_call_builtin KF.slot_gs.plain KF.entry_gs
    (KF.slot_gs.check _ _ _ _ _ _ _ _ KF.type_class (KF.args_gs _ _ _) ?_)
  unfold Builtin.«getset_descriptor.__get__» descrGet
  rw [dga_obj]
  refine wpAny_bind (wpAny_pure ?_)
  unfold descrGetter descrCheckInstance
  unfold descrNameAndClass isInstance
  simp only [KF.owner_class]
  repeat lk
  refine ⟨Code.quiet_builtin _ (by decide +kernel),
    codeAny_builtin KF.entry_class ?_⟩
  unfold Builtin.«object.__class__»
  unfold shownTypeOf
  repeat lk
  exact q
theorem exc_getClass {prog : Program} {w : World} {A : Around} {E : Value → Shared → Prop} {Q : Option Value → Shared → Prop} {s : Shared} (X : K.In s.heap) (c : ExcCls K C) (p : ExcObj e C s.heap) (k : Q (some (.ref C)) { s with toks := s.toks + 1 }) :
    wpAny (model prog w) A (getAttr? (.ref e) "__class__") Q E s := by
  obtain ⟨hh, g, d, t, os⟩ := s
  have L0 := exc_type (M := model prog w) p
  have L1 := looks_findIn (M := model prog w) X c.ga
  have L2 := looks_findIn (M := model prog w) X c.gn
  have L3 := exc_find (M := model prog w) X c p
  have L4 := looks_mroIn (M := model prog w) X c.mb
  unfold getAttr? getAttrBy? getAttrBy
  refine wpAny_bind (wpAny_mkText (wpAny_bind (wpAny_attempt (wpAny_holding (wpAny_bind (L0.at (wpAny_bind (L1.at ?_))))))))
  have hx2 : (Value.builtin "BaseException.__getattribute__" == Value.builtin "object.__getattribute__") = false := by decide +kernel
  have hx1 : (onTheHeap (Value.ref C) && Value.builtin "BaseException.__getattribute__" == Value.builtin "object.__getattribute__") = false := by rw [hx2]; rfl
  dsimp only
  rw [hx1, if_neg (by decide)]
  unfold getAttrByItsOwn hookBefore
  refine wpAny_bind ?_
  rw [if_pos (by rfl)]
  refine L2.at ?_
  refine wpAny_bind (wpAny_attempt (wpAny_holding ?_))
  unfold callGetattribute
  rw [if_neg (by simp)]
  unfold boundAndCalled
  refine wpAny_bind (wpAny_of_eq (F.attr_ValueError.ga.bind (.ref e)) ?_)
  refine wpAny_call (codeAny_call_builtin F.attr_ValueError.ga.plain F.entry_bexc_ga ?_)
  have hk : builtinKind "BaseException.__getattribute__" = some .slot := by decide +kernel
  have hsplit : splitId "BaseException.__getattribute__" = some ("BaseException", "__getattribute__") := by decide +kernel
  have ha := F.args_bexc_ga (.ref e) (.str "__class__" t)
  simp only [checkBuiltinCall, hk, hsplit]
  have LI : Looks (model prog w) hh (isInstance (.ref e) (.type "BaseException")) true := L0.andThen L4
  dsimp only [List.cons_append, List.nil_append]
  refine wpAny_bind (LI.at ?_)
  rw [if_neg (by decide)]
  refine wpAny_of_eq (a := ()) ha ?_
  unfold Builtin.«object.__getattribute__»
  refine wpAny_bind (wpAny_pure ?_)
  refine wpAny_bind (wpAny_pure ?_)
  refine wpAny_bind (L0.at (wpAny_bind (L3.at ?_)))
  dsimp only
  unfold Builtin.ObjectAttr.bindTo
  refine wpAny_bind (wpAny_holding (wpAny_call ?_))
  refine exc_classGet (s := ⟨hh, g, d, _, os⟩) X c p ?_
  exact wpAny_pure (wpAny_pure (wpAny_pure k))
theorem kitx_exc (c : ExcCls K C) : KitX K (.ref e) (.ref C) (ExcObj e C) where
  ty := fun _ _ _ p => exc_type p
  it := fun _ _ X _ => isType_cls X c.cls
  ne := fun h tp dd its n sl X htp => by
    refine Bool.eq_false_iff.mpr fun q => ?_
    have e : C = tp := Value.ref.inj (beq_iff_eq.mp q)
    subst e
    have hc := c.cls
    unfold clsIn at hc
    split at hc
    · rename_i ho
      have z := (X _ _ ho).symm.trans htp
      cases z
    · cases hc
  ca := fun X p k => exc_getClass X c p k
end
section
variable {X : Cx}
end
/-! ## how an exception lies behind a call: it flies; whatever is done to its own records, the rest stands -/
def CXE (P : Program) (w : World) : CXT := fun outer H s E e s' =>
  ∃ (ea C : Addr) (H' : Hp) (B : Heap) (a0 : Value), e = .ref ea ∧ s'.os = s.os ∧ AllBare s'.gens ∧ Heap.FlyingW B outer ea (.ref C) a0 s'.heap ∧ s.heap.get? ea = none ∧ H' ea = none ∧
    (∀ h'' : Heap, B.StaysIn h'' → s'.heap.UpToSlots h'' → Un (frs outer) [] H H' s.heap h'' ∧ HOk P w H' h'') ∧ E (.ref C) none H'
theorem ObjOk.there {P : Program} {w : World} {H : Hp} {h : Heap} {a : Addr} {o : HO} (x : ObjOk P w H h a o) : ∃ ob, h.get? a = some ob := by
  cases o with
  | lst xs => obtain ⟨_, _, _, _, e⟩ := x; exact ⟨_, e⟩
  | tup xs => obtain ⟨_, _, _, o, e, _⟩ := x; exact ⟨_, e⟩
  | dK kvs => obtain ⟨_, _, _, _, o, _, _, e, _⟩ := x; exact ⟨_, e⟩
  | dT kvs => obtain ⟨_, _, _, _, o, _, _, e, _⟩ := x; exact ⟨_, e⟩
  | set S n => obtain ⟨o, _, _, _, e, _⟩ := x; exact ⟨_, e⟩
  | ins C dx fs => obtain ⟨_, _, _, e, _⟩ := x; exact ⟨_, e⟩
  | own y => exact x
  | xd fs => obtain ⟨_, ⟨_, _, _, e, _⟩, _⟩ := x; exact ⟨_, e⟩
  | rng lo hi => obtain ⟨_, _, _, e⟩ := x; exact ⟨_, e⟩
  | frz ob u => obtain ⟨e, _⟩ := x; exact ⟨_, e⟩
  | tbl ps => exact ⟨_, x⟩
  | met f y => exact ⟨_, x⟩
  | ext φ => obtain ⟨_, e, _⟩ := x; exact e
section
variable {X : Cx} {pins : List (Addr × Obj)} {σ : St} {H : Hp} {s : Shared}
theorem Inv.later {h'' : Heap} {t' : Nat} (I : Inv X pins σ H s) (st : (hideAll s.heap (frs X.stack)).StaysIn h'') (up : s.heap.UpToSlots h'') : Inv X pins σ H { s with heap := h'', toks := t' } := by
  have inB : ∀ b o, s.heap.get? b = some o → b ∉ frs X.stack → h''.get? b = some o := fun b o e n => st b o (hideAll_get _ e n)
  have fr : ∀ b, b ∈ frs X.stack → ∀ o, s.heap.get? b = some o → ∃ sl, h''.get? b = some { o with slots := sl } := fun b hb o e => by
    obtain ⟨_, o', ho', hd⟩ := I.stack.mem hb
    rw [e] at ho'
    cases ho'
    exact up b o e hd
  refine I.step (g' := s.gens) (d' := s.drawn) (ch := []) (fun b z => by cases z) (fun b o hL hf _ e n => inB b o e fun z => (List.mem_cons.mp (I.stkSub b z)).elim hL hf) (fun b o _ hb _ e n => ?_) (fun _ _ _ _ n => n) (fun b o _ e => ?_)
    (fun _ _ e => e) (fun _ _ _ e => e) (fun b ps e => ⟨#[], by rw [e]; simp⟩) (fun m hm => up.ns hm) (fun b u e => ?_) I.bare
  · by_cases z : b ∈ frs X.stack
    · exact fr b z o e
    · exact ⟨o.slots, inB b o e z⟩
  · by_cases z : b ∈ frs X.stack
    · obtain ⟨sl, q⟩ := fr b z o e
      exact ⟨_, q⟩
    · exact ⟨o, inB b o e z⟩
  · refine (I.hok b u e).stay (fun c v hc q => inB c v q fun z => ?_) (fun _ q => q) fun _ _ q => q
    have n := I.stkFree c z
    rcases hc with rfl | hc
    · rw [n] at e; cases e
    · rw [n] at hc; cases hc
theorem Inv.oldNone (I : Inv X pins σ H s) (hx : X.ex = []) {e : Addr} (h : s.heap.get? e = none) : X.s₀.heap.get? e = none := by
  cases q : X.s₀.heap.get? e with
  | none => rfl
  | some o =>
    obtain ⟨o', z⟩ := I.base.there e o q (by rw [hx]; simp)
    rw [h] at z
    cases z
theorem Inv.noneOf (I : Inv X pins σ H s) {e : Addr} (h : s.heap.get? e = none) : H e = none := by
  cases q : H e with
  | none => rfl
  | some o =>
    obtain ⟨o', z⟩ := (I.hok e o q).there
    rw [h] at z
    cases z
end
def Thr (X : Cx) (E : XK) : Prop := ∀ (pins : List (Addr × Obj)) (σ : St) (H : Hp) (s : Shared) (e C : Addr) (h' : Heap) (args : List Value), Inv X pins σ H s → Heap.MadeExcOf s.heap h' e (.ref C) args → E (.ref C) none H → X.xe (.ref e) { s with heap := h' }
section
variable {P : Program} {w : World} {K : Frag} {mg : Str → Option Value} {base : Heap} {N : List Str} {qual : Str} {scope : Scope} {f : Addr} {cd : Value} {A : Around} {outer : List Env} {s : Shared} {H : Hp} {E : XK}
theorem thr_cx : Thr (cxOf (CXE P w) P w K mg base N qual scope f cd A outer s H E) E := by
  intro pins σ H1 s1 e C h' args I hx hE
  have hin : ∀ env ∈ (envOfC qual scope s.heap.objs.size f cd :: outer), ∀ b, env.frame = some b → b ∈ frs (envOfC qual scope s.heap.objs.size f cd :: outer) := fun env he b hb => List.mem_filterMap.mpr ⟨env, he, hb⟩
  refine wpAny_leaves_madeW (s := { s1 with heap := h' }) (base := hideAll s1.heap (frs (envOfC qual scope s.heap.objs.size f cd :: outer))) (h := s1.heap) (L := s.heap.objs.size) I.ok.frames rfl (fun b o q => of_hideAll _ q) (funFrames_hide I.stack hin) hx fun h2 t fly tup hn ups => ?_
  refine ⟨e, C, H1, _, _, rfl, I.os, I.bare, fly, I.oldNone rfl hx.new, I.noneOf hx.new, fun h'' st up => ?_, hE⟩
  have J := I.later (t' := s1.toks) (h'' := h'') st (((Heap.UpToSlots.of_keeps hx.keeps).trans ups).trans up)
  exact ⟨J.base, J.hok⟩
theorem pass_cx {E' : XK} (h : ∀ C d H, E' C d H → E C d H) : Passes (CXE P w) (cxOf (CXE P w) P w K mg base N qual scope f cd A outer s H E) E' := by
  intro pins σ H1 s1 e s' I hc
  obtain ⟨ea, C, H', B, a0, rfl, os, bare, fly, new, hn, clo, hE⟩ := hc
  refine wpAny_leaves_onW (L := s.heap.objs.size) I.ok.frames rfl fly fun h2 fly2 ups => ?_
  refine ⟨ea, C, H', B, a0, rfl, os.trans I.os, bare, fly2, I.oldNone rfl new, hn, fun h'' st up => ?_, h _ _ _ hE⟩
  obtain ⟨u, ho⟩ := clo h'' st (ups.trans up)
  have J := I.call' (s' := { s' with heap := h'' }) os u ho bare (fun b z => by cases z)
  exact ⟨J.base, J.hok⟩
theorem own_cx : PassesOwn (model P w) (A.deeper (envOfC qual scope s.heap.objs.size f cd)) (envOfC qual scope s.heap.objs.size f cd) (cxOf (CXE P w) P w K mg base N qual scope f cd A outer s H E).xe := PassesOwn.leaving
theorem Fun.okX {x : Str} {st : Stmt} {fd : FuncData} {ps : List Str} {k : Nat} {sp : Sp} (F : Fun K x qual st f fd) (S : FnScope N ps (defScope st)) (len : ∀ vs H Q E, sp vs H Q E → vs.length = ps.length)
    (hbody : ∀ (cdv : Value) (A : Around) (outer : List Env) (s : Shared) (H : Hp) (vs : List V) (Q : VK) (E : XK), Room k (A.deeper (envOfC qual (defScope st) s.heap.objs.size f cdv)) → sp vs H Q E →
      ∃ t, PSs (cxOf (CXE P w) P w K mg base N qual (defScope st) f cdv A outer s H E) (defBody st) t ∧ t { nx := fun _ H' => Q .non H', rt := Q } (start N vs) H) : FnOk P w K mg base (CXE P w) (k + 1) f fd ps sp := by
  obtain ⟨oc, od, kV, doc, pm, an, cdv, ct, osl, rfl, lk, hcd⟩ := F.ex
  exact fn_of lk hcd S len fun A outer s H vs Q E hr hsp => hbody cdv A outer s H vs Q E hr hsp
end
/-! ## raise C(..) -/
theorem exc_obj {K : Frag} {h : Heap} {C : Addr} {bmB : List Value} {newId : String} (X : K.In h) (q : excIn K C bmB newId = true) :
    ∃ (bm : List Value) (N : Addr) (nm qn : Str) (bs : List Value) (hd : Bool) (sn : List Str) (sub : List Value) (ab : Bool) (col : Option Bool) (dd : Option Addr) (k0 k1 k2 k3 k5 : Option Value) (mN : Str → Option Value),
      h.get? C = some (excClassObj nm qn C N bs bm hd sn sub ab col dd k0 k1 k2 k3 k5 newId) ∧ h.Ns N mN ∧ mN "__init__" = none ∧ OwnTail h bmB bm := by
  unfold excIn at q
  split at q
  · rename_i dd cd sl ho
    split at q
    · rename_i C' bm k0 k1 k2 k3 n k5 hm hs
      rw [Bool.and_eq_true, Bool.and_eq_true, Bool.and_eq_true, Bool.and_eq_true, Bool.and_eq_true] at q
      obtain ⟨⟨⟨⟨⟨q1, q2⟩, hdel⟩, ht⟩, hok⟩, hni⟩ := q
      have e1 := beq_iff_eq.mp q1
      have e2 := beq_iff_eq.mp q2
      have e3 : cd.hasDel = false := by cases z : cd.hasDel <;> simp_all
      have e4 := beq_iff_eq.mp hni
      subst e1 e2
      obtain ⟨nm, bs, mro, ns, qn, hd, sn, sub, ab, col, del⟩ := cd
      dsimp only at hm e3 hok e4
      subst hm e3
      have hsl : sl = #[k0, k1, k2, k3, some (.builtin n), k5] := by
        obtain ⟨l⟩ := sl
        dsimp only at hs
        rw [hs]
      subst hsl
      exact ⟨bm, ns, nm, qn, bs, hd, sn, sub, ab, col, dd, k0, k1, k2, k3, k5, _, X _ _ ho, .of_isNs (isNs_of_in X hok), nsMap_none_of_in X hok e4, tail_of_in X ht⟩
    · cases q
  · cases q
abbrev bmV : List Value := [.type "ValueError", .type "Exception", .type "BaseException", .type "object"]
section
variable {X : Cx} {x : Str} {C : Addr} {np cpos pos : Pos} {e0 : Expr} {t : TA} {E : XK}
theorem ps_raise (hc : X.calm = true) (hg : Gl X x) (hm : X.mg x = some (.ref C)) (q : excIn X.K C bmV "ValueError.__new__" = true) (ha : PA X [e0] t) (thr : Thr X E) (hdb : (x == ("__debug__" : Str)) = false := by decide)
    (he : starEach [e0] X.env = [(false, eval e0 X.env)] := by rfl) :
    PS X (.Raise (some (.Call (.Name x np) [e0] [] cpos)) none pos) (fun _ σ H => t σ H fun vs H1 => vs.length ≤ sizeLine ∧ E (.ref C) none H1) := by
  intro pins s σ H D I h
  obtain ⟨bm, N, nm, qn, bs, hd, sn, sub, ab, col, dd, k0, k1, k2, k3, k5, mN, hC, hN, hni, hT⟩ := exc_obj I.ok.mod.kin q
  refine wpAny_Raise_call_subT (nm := nm) (q := qn) (N := N) (bs := bs) (hdct := hd) (sn := sn) (sub := sub) (ab := ab) (col := col) (dd := dd) (k0 := k0) (k1 := k1) (k2 := k2) (k3 := k3) (k5 := k5) F.excBase_ValueError (C := C) (bm := bm) (hT.hasType F.excBase_ValueError.hasBase) (I.ok.hd hc) (by rw [he]; rfl) hni (ld_glob I hg hm ⟨rfl, ?_⟩ hdb)
  have hA := ha cpos pins s σ H _ I h
  rw [he] at hA ⊢
  refine Calls.evalArgs_plain (thn hA fun us s1 ⟨vs, H1, I1, r1, z, w⟩ => ?_)
  refine ⟨rfl, by show us.length ≤ sizeLine; rw [← r1.length]; exact z, I1.bk _ _ hC, hN.keeps I1.bk, hT.keeps I1.bk, fun h' e hx => thr pins σ H1 s1 e C h' _ I1 hx w⟩
end
/-! ## try: body; except M as n: suite -/
def PassesX (CX : CXT) (X : Cx) (E : St → XK) : Prop := ∀ (pins : List (Addr × Obj)) (σ : St) (H : Hp) (s : Shared) (e : Value) (s' : Shared), Inv X pins σ H s → CX X.stack H s (E σ) e s' → X.xe e s'
section
variable {X : Cx} {CX : CXT} {j k : Nat} {ps : List Str} {sp : Sp} {E : St → XK} {x : Str} {p pos : Pos} {e : Expr} {es : List Expr} {t : TA}
theorem run_fnX {f : Addr} {fd : FuncData} {pins : List (Addr × Obj)} {σ : St} {H : Hp} {s : Shared} {Q : VK} {us : List Value} {vs : List V} (F : FnOk X.prog X.w X.K X.mg X.base CX k f fd ps sp) (hr : Room k X.A) (hb : Binds X.K fd ps []) (hx : PassesX CX X E)
    (I : Inv X pins σ H s) (r : Vals vs us) (h : sp (vs ++ []) H Q (E σ)) : wpAny (model X.prog X.w) X.A (call (.ref f) us) (EP X pins σ Q) X.xe s := by
  have r2 : Vals (vs ++ []) (us ++ []) := r.append .nil
  have hl : (us ++ []).length = ps.length := by rw [← r2.length]; exact F.len _ _ _ _ h
  refine wpAny_call (codeAny_mono (F.run X.A X.stack s H ⟨us, []⟩ (us ++ []) (vs ++ []) Q (E σ) hr I.env0 (hb s us I.kIn hl) r2 h) fun r s' hq => ?_)
  cases r with
  | error e => exact hx pins σ H s e s' I hq
  | ok fl => cases fl <;> first | exact I.after hq | exact False.elim hq
end
abbrev Cx.supX (X : Cx) (e : Addr) : Cx := { X with A := X.A.mark (some (.ref e)), calm := false, xe := fun _ _ => False }
section
variable {X : Cx} {pins pins' : List (Addr × Obj)} {σ : St} {H : Hp} {s : Shared} {E : St → XK} {e : Addr}
theorem Cx.Ok.supX (ok : X.Ok) : (X.supX e).Ok := ⟨ok.mod, ok.kind, ok.glob, ok.blt, ok.above, ok.inj, ok.has, ok.cab, (fun z => by cases z), ok.frames, ok.stk, ok.exf, ok.bs, ok.bsz, ok.noex, ok.exfs, ok.funs, ok.frf⟩
theorem Inv.supX (I : Inv X pins σ H s) : Inv (X.supX e) pins σ H s := ⟨I.ok.supX, I.os, I.bare, I.base, I.loc, I.cell, I.free, I.freeC, I.pin, I.hok, I.len⟩
theorem Inv.unsupX (ok : X.Ok) (I : Inv (X.supX e) pins σ H s) : Inv X pins σ H s := ⟨ok, I.os, I.bare, I.base, I.loc, I.cell, I.free, I.freeC, I.pin, I.hok, I.len⟩
end
theorem exc_matches {K : Frag} {e C M : Addr} {prog : Program} {w : World} {A : Around} {E : Value → Shared → Prop} {Q : Bool → Shared → Prop} {s : Shared} (X : K.In s.heap) (p : ExcObj e C s.heap) (c : (clsIn K M).isSome = true) (tm : typeIn K (.ref M) = some (.type "type"))
    (mb : mroIn K M (.type "BaseException") = some true) (hm : mroIn K C (.ref M) = some true) (q : Q true s) : wpAny (model prog w) A (excMatches (.ref e) (.ref M)) Q E s := by
  obtain ⟨hh, g, d, t, os⟩ := s
  have L0 := exc_type (M := model prog w) p
  have L1 := looks_typeIn (M := model prog w) X tm
  have L2 := isType_cls (M := model prog w) X c
  have L3 := looks_mroIn (M := model prog w) X mb
  have L4 := looks_mroIn (M := model prog w) X hm
  have L5 : Looks (model prog w) hh (isSubtype (.type "type") (.type "tuple")) false := Looks.of_pure tc_notTuple
  have L6 : Looks (model prog w) hh (isInstance (.ref M) (.type "tuple")) false := L1.andThen L5
  unfold excMatches
  refine wpAny_bind (L6.at ?_)
  rw [if_neg (by decide)]
  have LE : Looks (model prog w) hh (isExcClass (.ref M)) true := L2.andThen (by rw [if_pos rfl]; exact L3)
  refine wpAny_bind (wpAny_pure ?_)
  simp only [List.forIn_cons, List.forIn_nil]
  refine wpAny_bind (wpAny_bind (wpAny_bind (LE.at ?_)))
  rw [if_neg (by decide)]
  refine wpAny_pure (wpAny_pure ?_)
  refine wpAny_bind (L0.at ?_)
  refine wpAny_bind (wpAny_bind (wpAny_bind (L4.at ?_)))
  rw [if_pos rfl]
  exact wpAny_pure (wpAny_pure (wpAny_pure q))
abbrev Ends.unset (D : Ends) (i : Nat) : Ends := { nx := fun σ H => D.nx (σ.set i none) H, rt := D.rt, bk := fun σ H => D.bk (σ.set i none) H, ct := fun σ H => D.ct (σ.set i none) H }
section
variable {X : Cx} {pins : List (Addr × Obj)} {σ : St} {H H' : Hp} {s : Shared}
theorem gone {M : Model} {A : Around} {E : Value → Shared → Prop} {i : Nat} {n : Str} {pos : Pos} {Q : Unit → Shared → Prop} (I : Inv X pins σ H s) (hN : X.N.Nodup) (hi : X.N[i]? = some n) (hl : X.env.scope.names.lookup n = some .local)
    (h : ∀ s', Inv X pins (σ.set i none) H s' → Q () s') : wpAny M A (do bindName X.env n .none; unbindBehindTheSuite X.env n pos) Q E s := by
  obtain ⟨m, hn, hlk⟩ := id I.loc
  have hcls : (X.env.scope.kind == .class || (X.env.scope.kind == .module && X.env.locals != X.env.globals)) = false := by rw [I.ok.kind]; rfl
  have hiσ : i < σ.length := by rw [I.len]; exact (List.getElem?_eq_some_iff.mp hi).1
  obtain ⟨oL, _, _, hoL, _⟩ := id hn
  refine wpAny_nameGoes_keeps hl hn hcls fun h' v hn' hs => h _ ?_
  have old : ∀ b o, X.s₀.heap.get? b = some o → b ≠ X.env.locals := fun b o e => Nat.ne_of_lt (Nat.lt_of_lt_of_le (Heap.lt_size e) I.ok.above)
  refine ⟨I.ok, I.os, I.bare, ⟨fun b o e n hb hx => (hs.2 b (old b o e)).trans (I.base.keep b o e n hb hx), fun b o e n hb hx => ?_, I.base.free, fun b o e hx => ?_, I.base.tups, I.base.frzs, I.base.tbls⟩, ⟨_, hn', fun j y v' e1 e2 e3 => ?_⟩,
    fun y c e => ?_, I.free, I.freeC, fun p hp => ?_, fun b ob e => ?_, by simpa using I.len⟩
  · obtain ⟨sl, e1⟩ := I.base.slot b o e n hb hx
    exact ⟨sl, (hs.2 b (old b o e)).trans e1⟩
  · obtain ⟨o', e1⟩ := I.base.there b o e hx
    exact ⟨o', (hs.2 b (old b o e)).trans e1⟩
  · have hj : j ≠ i := fun z => by
      subst z
      rw [List.getElem?_set_self hiσ] at e2
      cases e2
    rw [List.getElem?_set_ne (Ne.symm hj)] at e2
    obtain ⟨u', r', q⟩ := hlk j y v' e1 e2 e3
    refine ⟨u', r', ?_⟩
    rcases q with ⟨k, e⟩ | ⟨k, c, e, z⟩
    · refine .inl ⟨k, ?_⟩
      have ne : y ≠ n := fun e => hj (nodup_ix hN e1 (e ▸ hi))
      show (if y = n then v else m y) = some u'
      rw [if_neg ne]
      exact e
    · exact .inr ⟨k, c, e, z.sameBut hs (I.cne y c e)⟩
  · obtain ⟨v', z⟩ := I.cell y c e
    exact ⟨v', z.sameBut hs (I.cne y c e)⟩
  · obtain ⟨e, n', ne, nf, d⟩ := I.pin p hp
    exact ⟨(hs.2 p.1 ne).trans e, n', ne, nf, d⟩
  · refine (I.hok b ob e).stay (fun c w' hc q => (hs.2 c ?_).trans q) (fun _ q => q) fun _ _ q => q
    rintro rfl
    rcases hc with rfl | hc
    · rw [I.free] at e; cases e
    · rw [I.free] at hc; cases hc
end
section
variable {X : Cx} {n x : Str} {i : Nat} {M : Addr} {body suite : List Stmt} {b₀ : Stmt} {np hpos pos : Pos} {tb : (St → XK) → TS} {ts : Addr → TS}
end
/-! ## a def that is called in an except suite -/
section
variable {P : Program} {w : World} {K : Frag} {mg : Str → Option Value} {base : Heap}
end
section
variable {X : Cx} {j k : Nat} {ps : List Str} {sp : Sp} {x : Str} {p pos : Pos} {e : Expr} {es : List Expr} {t : TA}
end
end L2

set_option Elab.async false
set_option linter.all false
set_option maxRecDepth 100000
set_option maxHeartbeats 4000000
namespace L2
open PySem PySem.Spec PyProof.Rows
/-! ## which objects keep their own dict: the tree of a computation tells it, its ends are told elsewhere -/
def DK (h h' : Heap) : Prop := ∀ e oe, h.get? e = some oe → ∃ o2, h'.get? e = some o2 ∧ o2.dict = oe.dict
theorem DK.refl (h : Heap) : DK h h := fun _ oe q => ⟨oe, q, rfl⟩
theorem DK.trans {a b c : Heap} (x : DK a b) (y : DK b c) : DK a c := fun e oe q => by
  obtain ⟨o2, q2, d2⟩ := x e oe q
  obtain ⟨o3, q3, d3⟩ := y e o2 q2
  exact ⟨o3, q3, d3.trans d2⟩
theorem DK.push (h : Heap) (o : Obj) : DK h (h.push o) := fun e oe q => ⟨oe, Heap.get?_push_of_some _ q, rfl⟩
def KD {α : Type} : Sem α → Prop
  | .pure _ => True
  | .raise _ => True
  | .unsupported _ => True
  | .finish _ => True
  | .rule _ k => KD (k ())
  | .at _ k => KD (k ())
  | .load _ _ k => ∀ o, KD (k o)
  | .update _ _ f k => (∀ o : Obj, o.isFreed = false → (f o).isFreed = false ∧ (f o).dict = o.dict) ∧ KD (k ())
  | .alloc _ k => ∀ a, KD (k a)
  | .loadIfAlive _ k => ∀ o, KD (k o)
  | .point _ k => KD (k ())
  | .register _ _ => True
  | .fresh k => ∀ t, KD (k t)
  | .ask k => ∀ x, KD (k x)
  | .choose _ _ k => ∀ n, KD (k n)
  | .os _ _ k => ∀ r, KD (k r)
  | .call .. => False
  | .handled _ k => ∀ v, KD (k v)
  | .newGen _ k => ∀ n, KD (k n)
  | .genState _ k => ∀ x, KD (k x)
  | .resume .. => False
  | .yield .. => True
  | .stack k => ∀ l, KD (k l)
  | .fork .. => True
  | .thread k => ∀ n, KD (k n)
  | .await .. => True
theorem dk_update {h : Heap} {a : Addr} {f : Obj → Obj} (hf : ∀ o : Obj, o.isFreed = false → (f o).isFreed = false ∧ (f o).dict = o.dict) : DK h (h.update a f) := fun e oe q => by
  by_cases z : e = a
  · subst z
    have hq := (Heap.get?_some_iff.mp q).2
    exact ⟨f oe, Heap.get?_update_self f q (hf oe hq).1, (hf oe hq).2⟩
  · exact ⟨oe, (Heap.get?_update_other h f (Ne.symm z)).trans q, rfl⟩
theorem kd_wp {α : Type} {M : Model} {Γ : PySem.Ctx} {Q : α → Pos → Shared → Prop} {E : Value → Pos → Shared → Prop} (t : Sem α) : ∀ (h₀ : Heap) (p : Pos) (s : Shared), KD t → DK h₀ s.heap → Sem.wp M Γ t Q E p s → Sem.wp M Γ t (fun a p2 s2 => Q a p2 s2 ∧ DK h₀ s2.heap) (fun e p2 s2 => E e p2 s2 ∧ DK h₀ s2.heap) p s := by
  induction t with
  | pure a => intro h₀ p s _ d w; rw [Sem.wp] at w ⊢; exact ⟨w, d⟩
  | raise e => intro h₀ p s _ d w; rw [Sem.wp] at w ⊢; exact ⟨w, d⟩
  | unsupported x => intro h₀ p s _ d w; rw [Sem.wp] at w; exact w.elim
  | finish x => intro h₀ p s _ d w; rw [Sem.wp] at w; exact w.elim
  | rule x k ih => intro h₀ p s c d w; rw [Sem.wp] at w ⊢; exact ih () h₀ p s c d w
  | «at» x k ih => intro h₀ p s c d w; rw [Sem.wp] at w ⊢; exact ih () h₀ _ s c d w
  | load a x k ih => intro h₀ p s c d w; rw [Sem.wp] at w ⊢; obtain ⟨o, q, w⟩ := w; exact ⟨o, q, ih o h₀ p s (c o) d w⟩
  | update a x f k ih => intro h₀ p s c d w; rw [Sem.wp] at w ⊢; exact ⟨w.1, ih () h₀ p _ c.2 (d.trans (dk_update c.1)) w.2⟩
  | alloc o k ih => intro h₀ p s c d w; rw [Sem.wp] at w ⊢; exact ih _ h₀ p _ (c _) (d.trans (DK.push _ _)) w
  | loadIfAlive a k ih => intro h₀ p s c d w; rw [Sem.wp] at w ⊢; exact ih _ h₀ p s (c _) d w
  | point x k ih => intro h₀ p s c d w; rw [Sem.wp] at w ⊢; exact ih () h₀ p s c d w
  | register a k ih => intro h₀ p s c d w; rw [Sem.wp] at w; exact w.elim
  | fresh k ih => intro h₀ p s c d w; rw [Sem.wp] at w ⊢; exact ih _ h₀ p _ (c _) d w
  | ask k ih => intro h₀ p s c d w; rw [Sem.wp] at w ⊢; exact ih _ h₀ p s (c _) d w
  | choose x n k ih => intro h₀ p s c d w; rw [Sem.wp] at w ⊢; exact ⟨w.1, ih _ h₀ p _ (c _) d w.2⟩
  | os q x k ih => intro h₀ p s c d w; rw [Sem.wp] at w ⊢; exact ih _ h₀ p _ (c _) d w
  | call c' x y z k ih => intro h₀ p s c d w; exact c.elim
  | handled x k ih => intro h₀ p s c d w; rw [Sem.wp] at w ⊢; exact ih _ h₀ p s (c _) d w
  | newGen x k ih => intro h₀ p s c d w; rw [Sem.wp] at w ⊢; exact ih _ h₀ p _ (c _) d w
  | genState g k ih => intro h₀ p s c d w; rw [Sem.wp] at w ⊢; obtain ⟨st, q, w⟩ := w; exact ⟨st, q, ih _ h₀ p s (c _) d w⟩
  | resume g r x k ih => intro h₀ p s c d w; exact c.elim
  | yield v x y k ih => intro h₀ p s c d w; rw [Sem.wp] at w; exact w.elim
  | stack k ih => intro h₀ p s c d w; rw [Sem.wp] at w ⊢; exact ih _ h₀ p s (c _) d w
  | fork x k ih => intro h₀ p s c d w; rw [Sem.wp] at w; exact w.elim
  | thread k ih => intro h₀ p s c d w; rw [Sem.wp] at w ⊢; exact ih _ h₀ p s (c _) d w
  | await a x y z k ih => intro h₀ p s c d w; rw [Sem.wp] at w; exact w.elim
theorem kd_any {α : Type} {M : Model} {A : Around} {t : Sem α} {Q : α → Shared → Prop} {E : Value → Shared → Prop} {s : Shared} (c : KD t) (w : wpAny M A t Q E s) : wpAny M A t (fun a s2 => Q a s2 ∧ DK s.heap s2.heap) (fun e s2 => E e s2 ∧ DK s.heap s2.heap) s := fun Γ p g => kd_wp t s.heap p s c (DK.refl _) (w Γ p g)
/-! ### computations that touch no dict -/
section
variable {α β : Type}
theorem kd_bind' {f : α → Sem β} (g : ∀ a, KD (f a)) (m : Sem α) : KD m → KD (m.bind f) := by
  induction m with
  | pure a => intro _; exact g a
  | raise e => intro _; trivial
  | unsupported x => intro _; trivial
  | finish x => intro _; trivial
  | rule x k ih => intro c; exact ih () c
  | «at» x k ih => intro c; exact ih () c
  | load a x k ih => intro c o; exact ih o (c o)
  | update a x f k ih => intro c; exact ⟨c.1, ih () c.2⟩
  | alloc o k ih => intro c a; exact ih a (c a)
  | loadIfAlive a k ih => intro c o; exact ih o (c o)
  | point x k ih => intro c; exact ih () c
  | register a k ih => intro _; trivial
  | fresh k ih => intro c a; exact ih a (c a)
  | ask k ih => intro c a; exact ih a (c a)
  | choose x n k ih => intro c a; exact ih a (c a)
  | os q x k ih => intro c a; exact ih a (c a)
  | call c' x y z k ih => intro c; exact c.elim
  | handled x k ih => intro c a; exact ih a (c a)
  | newGen x k ih => intro c a; exact ih a (c a)
  | genState g k ih => intro c a; exact ih a (c a)
  | resume g r x k ih => intro c; exact c.elim
  | yield v x y k ih => intro _; trivial
  | stack k ih => intro c a; exact ih a (c a)
  | fork x k ih => intro _; trivial
  | thread k ih => intro c a; exact ih a (c a)
  | await a x y z k ih => intro _; trivial
theorem kd_bind {m : Sem α} {f : α → Sem β} (h : KD m) (g : ∀ a, KD (f a)) : KD (m >>= f) := kd_bind' g m h
theorem kd_pure {a : α} : KD (pure a : Sem α) := trivial
theorem kd_load (a : Addr) : KD (load a) := fun _ => trivial
theorem kd_uns {x : String} : KD (unsupported x : Sem α) := trivial
theorem mf_keeps (g : Array Value → Array Value) (o : Obj) (h : o.isFreed = false) : (Obj.mapFields g o).isFreed = false ∧ (Obj.mapFields g o).dict = o.dict := by
  obtain ⟨c, d, dt, sl⟩ := o
  cases dt <;> first | exact ⟨h, rfl⟩ | exact ⟨rfl, rfl⟩
theorem kd_fieldsOf (v : Value) : KD (fieldsOf v) := by
  unfold fieldsOf
  split
  · refine kd_bind (kd_load _) fun o => ?_
    split
    · exact kd_pure
    · exact kd_uns
  · exact kd_uns
theorem kd_field (v : Value) (i : Nat) : KD (field v i) := by
  unfold field
  refine kd_bind (kd_fieldsOf v) fun xs => ?_
  split
  · exact kd_pure
  · exact kd_uns
theorem kd_setField (v : Value) (i : Nat) (x : Value) : KD (setField v i x) := by
  unfold setField
  split
  · unfold updateField
    refine kd_bind (kd_load _) fun o => ?_
    split
    · split
      · exact ⟨fun o h => mf_keeps _ o h, trivial⟩
      · exact kd_uns
    · exact kd_uns
  · exact kd_uns
theorem kd_setFlight (e : Value) (fr : Option Addr) : KD (setFlight e fr) := by
  unfold setFlight
  refine kd_bind (kd_field _ _) fun tb => ?_
  split
  · exact kd_setField _ _ _
  · exact kd_pure
theorem kd_stack : KD stack := fun _ => trivial
theorem kd_frameEnvs : KD frameEnvs := kd_bind kd_stack fun _ => kd_pure
theorem kd_place (f : Addr) (b : Bool) : KD (entryPlaceOf f b) := by
  unfold entryPlaceOf
  refine kd_bind kd_stack fun a => ?_
  split
  · exact kd_pure
  · exact kd_pure
theorem kd_newEntry (a b c d e : Value) (l : List Value) : KD (EntryCells.newEntry a b c d e l) := by
  unfold EntryCells.newEntry newFields newObj
  generalize ([a, b, c, d, e] ++ if l.isEmpty = true then List.replicate 6 Value.none else l).toArray = vs
  have k : KD (newObjAsIs (.type "traceback") (.fields vs)) := by
    unfold newObjAsIs
    exact kd_bind (show KD (alloc _) from fun _ => trivial) fun x => kd_pure
  dsimp only
  split
  · exact kd_bind kd_uns fun _ => k
  · exact k
theorem kd_behind (env : Env) (outer : List Env) : KD (behindIsImport env outer) := by
  unfold behindIsImport
  split
  · exact kd_pure
  · split
    · exact kd_pure
    · exact kd_bind (kd_field _ _) fun _ => kd_pure
theorem kd_under : KD underTheClaimsCaller := kd_bind kd_stack fun _ => kd_pure
theorem kd_kept (env : Env) (b : Bool) (l : List Env) : KD (keptBack env b l) := by
  cases l with
  | nil =>
    by_cases h : (env.scope.isGenerator || env.scope.isCoroutine) = true
    · rw [keptBack, if_pos h]
      exact kd_pure
    · rw [keptBack, if_neg h]
      exact kd_bind kd_under fun _ => kd_pure
  | cons a l => exact kd_pure
theorem kd_ready : ∀ l : List Env, KD (readyFrames l)
  | [] => trivial
  | env :: outer => by
    unfold readyFrames
    split
    · refine kd_bind (kd_load _) fun o => ?_
      split
      · exact kd_pure
      · refine kd_bind (kd_behind _ _) fun b => kd_bind (kd_kept _ _ _) fun k => kd_bind ?_ fun _ => kd_ready outer
        exact ⟨fun o h => ⟨(by obtain ⟨c, d, dt, sl⟩ := o; cases dt <;> first | rfl | (cases h)), rfl⟩, trivial⟩
    · exact kd_uns
theorem kd_frameOf (env : Env) : KD (PySem.frameOf env) := by
  unfold PySem.frameOf
  refine kd_bind kd_frameEnvs fun es => kd_bind ?_ fun r => ?_
  · unfold frameObject
    split
    · exact kd_pure
    · exact kd_bind (kd_ready _) fun _ => kd_pure
  · split
    · exact kd_pure
    · exact kd_uns
theorem kd_note (e : Value) (env : Env) : KD (noteFrame e env) := by
  unfold noteFrame
  split
  · refine kd_bind (kd_field _ _) fun hd => ?_
    have rest : ∀ f : Addr, KD (do setField e 1 (← EntryCells.newEntry hd (← PySem.frameOf env) .none (rawInt f) .none (← entryPlaceOf f (hd != .none)))) := fun f => kd_bind (kd_frameOf _) fun _ => kd_bind (kd_place _ _) fun _ => kd_bind (kd_newEntry _ _ _ _ _ _) fun _ => kd_setField _ _ _
    split
    · refine kd_bind (kd_field _ _) fun x => ?_
      split
      · exact kd_pure
      · exact kd_bind (kd_setField _ _ _) fun _ => rest _
    · exact rest _
  · exact kd_uns
theorem kd_leaving (env : Env) (e : Value) : KD (leaving env e) := kd_bind (kd_note e env) fun _ => kd_setFlight e none
end
end L2

set_option Elab.async false
set_option linter.all false
set_option maxRecDepth 100000
set_option maxHeartbeats 4000000
namespace L2
open PySem PySem.Spec PyProof.Rows
/-! ## an own exception with an own __init__ that lays one attribute -/
abbrev xoAt (C t : Addr) (d : Option Addr) : Obj := ⟨.ref C, d, .fields #[.ref t, .none, .none, .none, .bool false, .none], #[]⟩
def tailOk : List Value → Bool
  | .ref _ :: r => tailOk r
  | l => l == bmV
theorem tail_of : ∀ {l : List Value}, tailOk l = true → (∀ self : Value, refuseLoop self "__setattr__" l = pure ()) ∧ l.contains (.type "object") = true ∧ l.isEmpty = false := by
  intro l
  induction l with
  | nil => intro q; exact absurd q (by decide)
  | cons a r ih =>
    intro q
    cases a with
    | ref c =>
      obtain ⟨i1, i2, _⟩ := ih q
      exact ⟨fun self => (refuseLoop_ref self _ c r).trans (i1 self), by rw [List.contains_cons, i2, Bool.or_true], rfl⟩
    | _ =>
      have z := beq_iff_eq.mp q
      rw [z]
      exact ⟨fun self => F.store_ValueError.passes self, by decide +kernel, rfl⟩
structure NstCls (K : PySem.W.Frag) (C : Addr) (f : Str) : Prop where
  ex : ExcCls K C
  sa : PySem.W.findIn K (.ref C) "__setattr__" = some (some (.builtin "object.__setattr__"))
  na : PySem.W.findIn K (.ref C) f = some none
  mr : (PySem.W.clsIn K C).any (fun cd => cd.hasDict && tailOk cd.mro) = true
section
open PySem.W PySem.Builtin.ObjectAttr
variable {K : PySem.W.Frag} {e C t : Addr} {f : Str} {v : Value} {prog : Program} {w : World} {A : Around} {E : Value → Shared → Prop}
theorem inst_x {h : Heap} (he : h.get? e = some (xoAt C t none)) : InstAt h e (xoAt C t none) C none := ⟨he, rfl, rfl, True.intro⟩
theorem exc_set {s : Shared} {Q : Unit → Shared → Prop} (X : K.In s.heap) (c : NstCls K C f) (he : s.heap.get? e = some (xoAt C t none))
    (hq : ∀ h' tk, h'.get? e = some (xoAt C t (some s.heap.objs.size)) → h'.Ns1 s.heap.objs.size (fun y => if y = f then some v else none) → (∀ b o, b ≠ e → s.heap.get? b = some o → h'.get? b = some o) → Q () { s with heap := h', toks := tk }) :
    wpAny (model prog w) A (setAttr (.ref e) f v) Q E s := by
  obtain ⟨hh, g, d, tk, os⟩ := s
  have I := inst_x he
  have SF := PySem.F.store_object
  obtain ⟨cd, hc, hq2⟩ := any_some c.mr
  obtain ⟨hD, hT⟩ := Bool.and_eq_true_iff.mp hq2
  obtain ⟨t1, t2, t3⟩ := tail_of hT
  have sub : Looks (model prog w) hh (isInstance (.ref e) (.type "object")) true := I.type.andThen (looks_mroIn X c.ex.mo)
  have hm : Looks (model prog w) hh (mroOf (.ref C)) cd.mro := (looks_clsIn X hc).andThen .now
  refine set_plain X I c.sa ?_
  dsimp only
  refine codeAny_call_builtin SF.slot.plain SF.entry (@check_slot (model prog w) _ _ ⟨hh, g, d, tk + 1, os⟩ "object.__setattr__" "object" "__setattr__" (.ref e) [.str f tk, v] [] _ SF.kind SF.split sub (SF.args (.ref e) (.str f tk) v) ?_)
  rw [osa_eq, refuse_eq]
  refine wpAny_bind (wpAny_bind (I.type.at ?_))
  refine wpAny_bind (hm.at ?_)
  rw [t1]
  refine wpAny_pure (wpAny_bind (I.type.at ?_))
  refine wpAny_bind ((looks_findIn X c.na).at ?_)
  refine wpAny_bind (wpAny_pure ?_)
  show wpAny _ _ (storeInOwnDict (.ref e) (.ref C) _ f v _) _ _ _
  refine wpAny_bind (wpAny_pure ?_)
  refine wpAny_bind (wpAny_bind (wpAny_loadPart he ?_))
  refine wpAny_bind ((looks_clsIn X hc).at ?_)
  rw [hD]
  have hx1 : (hh.push { cls := .type "dict", data := .dict #[] }).get? e = some (xoAt C t none) := Heap.get?_push_of_some _ he
  have hxs : e ≠ hh.objs.size := Nat.ne_of_lt (Heap.lt_size he)
  refine wpAny_bind (wpAny_alloc ?_)
  refine wpAny_bind (wpAny_update hx1 ?_)
  refine wpAny_pure (a := some hh.objs.size) ?_
  have hgd : ((hh.push { cls := .type "dict", data := .dict #[] }).update e fun o => { o with dict := some hh.objs.size }).get? hh.objs.size = some { cls := .type "dict", data := .dict #[] } := (Heap.get?_update_ne _ _ _ _ hxs.symm).trans (Heap.get?_push_at rfl rfl)
  have hnd : ((hh.push { cls := .type "dict", data := .dict #[] }).update e fun o => { o with dict := some hh.objs.size }).Ns hh.objs.size (fun _ => none) := ⟨_, #[], _, hgd, rfl, fun _ z => absurd z (by simp), fun _ => rfl⟩
  show wpAny _ _ (storeInDict hh.objs.size (.str f tk) f v) _ _ _
  refine wpAny_bind (wpAny_pure ?_)
  refine wpAny_bind (wpAny_nsSet1 (Heap.Ns1.of_empty hnd) fun h' hn' hs => ?_)
  obtain ⟨oD, esD, epD, hoD, hdD, hcD⟩ := hn'.count (Within.cons f v Within.nil)
  refine wpAny_bind (wpAny_lookBehind hoD (by rw [hdD]; exact pastItsLine_dict (Nat.le_trans hcD (by rw [List.length_cons, List.length_nil, sizeLine_eq]; omega))) ?_)
  refine wpAny_pure ?_
  refine hq h' _ ?_ hn' fun b o hb q => ?_
  · exact (hs.2 e hxs).trans (Heap.get?_update_self _ hx1 rfl)
  · exact (hs.2 b (Nat.ne_of_lt (Heap.lt_size q))).trans ((Heap.get?_update_ne _ _ _ _ hb).trans (Heap.get?_push_of_some _ q))
end
def ExcNew (e C t : Addr) (d : Option Addr) (h : Heap) : Prop := h.get? e = some (xoAt C t d)
theorem ext_new {P : Program} {w : World} {H : Hp} {h : Heap} {e C t : Addr} {d : Option Addr} (q : h.get? e = some (xoAt C t d)) : ObjOk P w H h e (.ext (ExcNew e C t d)) := ⟨q, ⟨_, q⟩, fun _ _ z k => k _ z⟩
def sFldX (K : PySem.W.Frag) (ta tv : TE) (f : Str) : TS := fun D σ H => tv σ H fun y H1 => ta σ H1 fun x H2 => ∃ e C t, x = .ref e ∧ H2 e = some (.ext (ExcNew e C t none)) ∧ NstCls K C f ∧
  ∀ dx, H2 dx = none → dx ≠ e → D.nx σ (upd (upd H2 dx (.xd [(f, y)])) e (.ext (ExcNew e C t (some dx))))
section
variable {X : Cx} {o value : Expr} {f : Str} {pos pos' : Pos} {ta tv : TE}
theorem ps_fldX (ha : PE X o ta) (hv : PE X value tv) (hs : swapsWith value (some (.Attribute o f pos')) pos.line X.env = pure false) : PS X (.Assign [.Attribute o f pos'] value pos) (sFldX X.K ta tv f) := by
  intro pins s σ H D I h
  refine plainObj_wpAny_Assign_Attribute (thn (hv pins s σ H _ I h) fun u s1 ⟨y, H1, I1, ry, q⟩ => thn (ha pins s1 σ H1 _ I1 q) fun ov s2 ⟨x, H2, I2, rx, e, C, t, ex, ea, c, q2⟩ => ?_) hs
  subst ex
  obtain rfl : ov = Value.ref e := rx
  obtain ⟨he, _, _⟩ := (show ObjOk X.prog X.w H2 s2.heap e (.ext (ExcNew e C t none)) from I2.hok e _ ea)
  refine exc_set I2.kIn c he fun h' tk e1 n1 k1 => ?_
  have hxs : e ≠ s2.heap.objs.size := Nat.ne_of_lt (Heap.lt_size he)
  have hdn : H2 s2.heap.objs.size = none := I2.hok.fresh (Nat.le_refl _)
  have e2 : (h'.update e fun _ => xoAt C t none).get? e = some (xoAt C t none) := Heap.get?_update_self _ e1 rfl
  have k2 : ∀ b, b ≠ e → (h'.update e fun _ => xoAt C t none).get? b = h'.get? b := fun b hb => Heap.get?_update_ne _ _ _ _ hb
  have J := I2.laid (a := s2.heap.objs.size) (o := .xd [(f, y)]) (h' := h'.update e fun _ => xoAt C t none) (t' := tk) (fun b u q => by
    by_cases z : b = e
    · subst z; rw [he] at q; cases q; exact e2
    · exact (k2 b z).trans (k1 b u z q)) (Nat.le_refl _) ⟨_, n1.at (fun o q => (k2 _ hxs.symm).trans q), fun g => by
      show RelO (List.lookup g [(f, y)]) (if g = f then some u else none)
      by_cases z : g = f
      · subst z; rw [if_pos rfl, List.lookup_cons_self]; exact ry
      · rw [if_neg z, List.lookup_cons, show (g == f) = false from by simpa using z]; exact True.intro⟩
  have J2 := J.write (x := e) (e := e) (o := .ext (ExcNew e C t (some s2.heap.objs.size))) (h' := h') (t' := tk) (by rw [upd_ne hxs, ea]; exact True.intro) (.inl rfl) (fun b u hb q => (k2 b hb).symm.trans q) ⟨_, e1⟩ (ext_new e1)
  exact ⟨σ, _, J2, q2 _ hdn hxs.symm⟩
end
/-! ### the making -/
open PySem.W in
def excInI (K : PySem.W.Frag) (C : Addr) (bmB : List Value) (newId : String) : Bool := match K.lookup C with
  | some ⟨.type "type", _, .cls cd, sl⟩ => (match cd.mro, sl.toList with
    | .ref C' :: bm, [_, _, _, _, some (.builtin n), _] => (C' == C) && ((n == newId) && ((!cd.hasDel) && tailIn K bmB bm))
    | _, _ => false)
  | _ => false
open PySem.W in
theorem exc_objI {K : PySem.W.Frag} {h : Heap} {C : Addr} {bmB : List Value} {newId : String} (X : K.In h) (q : excInI K C bmB newId = true) :
    ∃ (bm : List Value) (N : Addr) (nm qn : Str) (bs : List Value) (hd : Bool) (sn : List Str) (sub : List Value) (ab : Bool) (col : Option Bool) (dd : Option Addr) (k0 k1 k2 k3 k5 : Option Value),
      h.get? C = some (excClassObj nm qn C N bs bm hd sn sub ab col dd k0 k1 k2 k3 k5 newId) ∧ OwnTail h bmB bm := by
  unfold excInI at q
  split at q
  · rename_i dd cd sl ho
    split at q
    · rename_i C' bm k0 k1 k2 k3 n k5 hm hs
      rw [Bool.and_eq_true, Bool.and_eq_true, Bool.and_eq_true] at q
      obtain ⟨q1, q2, hdel, ht⟩ := q
      have e1 := beq_iff_eq.mp q1
      have e2 := beq_iff_eq.mp q2
      have e3 : cd.hasDel = false := by cases z : cd.hasDel <;> simp_all
      subst e1 e2
      obtain ⟨nm, bs, mro, ns, qn, hd, sn, sub, ab, col, del⟩ := cd
      dsimp only at hm e3
      subst hm e3
      have hsl : sl = #[k0, k1, k2, k3, some (.builtin n), k5] := by
        obtain ⟨l⟩ := sl
        dsimp only at hs
        rw [hs]
      subst hsl
      exact ⟨bm, ns, nm, qn, bs, hd, sn, sub, ab, col, dd, k0, k1, k2, k3, k5, X _ _ ho, tail_of_in X ht⟩
    · cases q
  · cases q
section
open PySem.W
variable {prog : Program} {w : World} {A : Around} {E : Value → Shared → Prop} {h : Heap} {g : Array GenState} {d : Drawn} {t : Nat} {os : OsState} {K : PySem.W.Frag}
variable {nm q : Str} {C N : Addr} {bs bm bmB : List Value} {hdct : Bool} {sn : List Str} {sub : List Value} {ab : Bool} {col : Option Bool} {dd : Option Addr} {k0 k1 k2 k3 k5 : Option Value} {B newId initId : String}
theorem exc_tcallI (F : ExcBaseFacts B newId initId bmB) (T : OwnTail h bmB bm) {rest : List Value} {fI : Addr} {Q : Fin → Shared → Prop} (X : K.In h)
    (hC : h.get? C = some (excClassObj nm q C N bs bm hdct sn sub ab col dd k0 k1 k2 k3 k5 newId)) (hi : findIn K (.ref C) "__init__" = some (some (.ref fI))) (hf : typeIn K (.ref fI) = some (.type "function"))
    (hq : ∀ h' e, h.objs.size ≤ e → Heap.MadeExcOf h h' e (.ref C) rest → wpAny (model prog w) A (call (.ref fI) (.ref e :: rest)) (fun r s' => r = .none ∧ Q (.done (.ret (.ref e))) s') E ⟨h', g, d, t, os⟩) (hrest : rest.length ≤ sizeLine) :
    wpAny (model prog w) A (Builtin.«type.__call__» ⟨.ref C :: rest, []⟩) Q E ⟨h, g, d, t, os⟩ := by
  repeat (first | with_reducible refine wpAny_madeBy_exc hC ?_ | with_reducible refine wpAny_loadPart_at hC ?_ | wp_step)
  refine codeAny_call_builtin_code (Code.quiet_builtin _ F.quiet) (wpAny_check_new_subT F T hC (codeAny_exc_new_subT F T hC ?_ hrest))
  show wpAny _ _ _ _ _ _
  have kp : ∀ b o, h.get? b = some o → ((h.push { cls := .type "tuple", data := .seq rest.toArray }).push (xoAt C h.objs.size none)).get? b = some o := fun b o z => Heap.get?_push_of_some _ (Heap.get?_push_of_some _ z)
  have hC1 := kp _ _ hC
  have X1 : K.In ((h.push { cls := .type "tuple", data := .seq rest.toArray }).push (xoAt C h.objs.size none)) := X.keeps kp
  have hget : ((h.push { cls := .type "tuple", data := .seq rest.toArray }).push (xoAt C h.objs.size none)).get? (h.objs.size + 1) = some (xoAt C h.objs.size none) := by heap_get
  have hcC : (Value.ref C :: bm).contains (.ref C) = true := by simp
  unfold isInstance
  repeat (first | (with_reducible refine wpAny_isSubtype_exc hC1 ?_; rw [hcC]) | with_reducible refine wpAny_loadPart_at hget ?_ | wp_step)
  show wpAny _ _ (typeLookup (.ref C) _) _ _ _
  refine (looks_findIn X1 hi).at ?_
  refine wpAny_holding (wpAny_bind ((bind_fn X1 _ hf).at ?_))
  refine wpAny_bind (wpAny_mono (hq _ (h.objs.size + 1) (Nat.le_succ _) ⟨kp, Heap.get?_none_of_le (Nat.le_succ _), h.objs.size, hget, Heap.get?_none_of_le (Nat.le_refl _), Heap.get?_push_of_some _ (Heap.get?_push_at rfl rfl)⟩) (fun r s' hr => ?_) fun _ _ x => x)
  obtain ⟨rfl, hQ⟩ := hr
  wp_walk
  exact hQ
theorem exc_callI (F : ExcBaseFacts B newId initId bmB) (T : OwnTail h bmB bm) {rest : List Value} {fI : Addr} {Q : Value → Shared → Prop} (X : K.In h)
    (hC : h.get? C = some (excClassObj nm q C N bs bm hdct sn sub ab col dd k0 k1 k2 k3 k5 newId)) (hi : findIn K (.ref C) "__init__" = some (some (.ref fI))) (hf : typeIn K (.ref fI) = some (.type "function"))
    (hq : ∀ h' e, h.objs.size ≤ e → Heap.MadeExcOf h h' e (.ref C) rest → wpAny (model prog w) (A.under (.builtin "type.__call__" ⟨.ref C :: rest, []⟩)) (call (.ref fI) (.ref e :: rest)) (fun r s' => r = .none ∧ Q (.ref e) s') E ⟨h', g, d, t, os⟩)
    (hrest : rest.length ≤ sizeLine) : wpAny (model prog w) A (call (.ref C) rest) Q E ⟨h, g, d, t, os⟩ := by
  have f1 := tc_lookup
  have f2 := tc_bind (.ref C)
  have hT : (⟨h, g, d, t, os⟩ : Shared).TypeIs (.ref C) "type" := ⟨_, hC, rfl⟩
  refine wpAny_call (codeAny_of_tree ?_)
  show wpAny _ _ (callAny (.ref C) _) _ _ _
  repeat (any_goals (first | with_reducible refine wpAny_loadPart_at hC ?_ | assumption | wp_step))
  exact ⟨rfl, codeAny_call_builtin_at (Code.quiet_builtin _ (by decide +kernel)) entry_typeCall (wpAny_check_type_call_sub hC (exc_tcallI F T X hC hi hf hq hrest))⟩
end
/-! ### the raising -/
section
variable {M : Model} {A : Around} {E : Value → Shared → Prop} {env : Env} {nm q : Str} {C N : Addr} {bs bm : List Value} {hdct : Bool} {sn : List Str} {sub : List Value} {ab : Bool} {col : Option Bool} {dd : Option Addr} {k0 k1 k2 k3 k5 : Option Value} {newId : String}
theorem raise_D {s : Shared} {x : Sem Value} {Q : Flow → Shared → Prop} (hbase : bm.contains (.type "BaseException") = true) (hh : A.handled = none)
    (h : wpAny M A x (fun v s1 => ∃ e t d, v = .ref e ∧ s1.heap.get? C = some (excClassObj nm q C N bs bm hdct sn sub ab col dd k0 k1 k2 k3 k5 newId) ∧ s1.heap.get? e = some (xoAt C t d) ∧ E (.ref e) s1) E s) :
    wpAny M A (raiseStmt env (some x) none) Q E s := by
  have hcB : (Value.ref C :: bm).contains (.type "BaseException") = true := by rw [List.contains_cons, hbase, Bool.or_true]
  unfold raiseStmt
  refine wpAny_bind (wpAny_mono h (fun v s1 h1 => ?_) fun _ _ z => z)
  obtain ⟨e, t, d0, rfl, hC, he, hE⟩ := h1
  obtain ⟨hp, g, d, tk, os⟩ := s1
  repeat (first | (with_reducible refine wpAny_isSubtype_exc hC ?_; rw [hcB]) | with_reducible refine wpAny_loadPart_at hC ?_ | with_reducible refine wpAny_loadPart_at he ?_ | wp_step)
  exact wpAny_raiseNew_none hh hE
end
def ThrD (X : Cx) (E : XK) : Prop := ∀ (pins : List (Addr × Obj)) (σ : St) (H : Hp) (s : Shared) (e C t dx : Addr), Inv X pins σ H s → s.heap.get? e = some (xoAt C t (some dx)) → H e = none → X.s₀.heap.get? e = none → E (.ref C) (some dx) H → X.xe (.ref e) s
def spInit (K : PySem.W.Frag) (f : Str) : Sp := fun vs H Q _ => ∃ e C t v, vs = [.ref e, v] ∧ H e = some (.ext (ExcNew e C t none)) ∧ NstCls K C f ∧
  ∀ dx, H dx = none → dx ≠ e → Q .non (upd (upd H dx (.xd [(f, v)])) e (.ext (ExcNew e C t (some dx))))
structure MkX (K : PySem.W.Frag) (C fI : Addr) (f : Str) : Prop where
  ex : excInI K C bmV "ValueError.__new__" = true
  cl : NstCls K C f
  init : PySem.W.findIn K (.ref C) "__init__" = some (some (.ref fI))
  fn : PySem.W.isFn K (.ref fI) = true
  kp : PySem.W.keepIn K (.ref C) = true
section
variable {X : Cx} {pins : List (Addr × Obj)} {σ : St} {H H' : Hp} {s : Shared} {e C t : Addr} {d : Option Addr}
theorem ExcNew.untrack {P : Program} {w : World} {h : Heap} (x : HOk P w (upd H e (.ext (ExcNew e C t d))) h) (hn : H e = none) : HOk P w H h := fun b u q => by
  have ne : b ≠ e := ne_of_none q hn
  have z := x b u (by rw [upd_ne ne]; exact q)
  refine z.stay (fun _ _ _ r => r) (fun c r => ?_) fun c xs r => ?_
  · by_cases hc : c = e
    · subst hc; rw [upd_same] at r; cases r
    · rwa [upd_ne hc] at r
  · by_cases hc : c = e
    · subst hc; rw [upd_same] at r; cases r
    · rwa [upd_ne hc] at r
theorem Inv.untrack (I : Inv X pins σ (upd H e (.ext (ExcNew e C t d))) s) (hn : H e = none) (h0 : (∀ xs, X.H₀ e ≠ some (.tup xs)) ∧ (∀ o u, X.H₀ e ≠ some (.frz o u)) ∧ ∀ ps, X.H₀ e ≠ some (.tbl ps)) : Inv X pins σ H s := by
  have nL : H X.env.locals = none := by
    have z := I.free
    by_cases hb : X.env.locals = e
    · rw [hb]; exact hn
    · rwa [upd_ne hb] at z
  refine ⟨I.ok, I.os, I.bare, ⟨I.base.keep, I.base.slot, fun b o q n hx => ?_, I.base.there, fun b xs q => ?_, fun b o u q => ?_, fun b ps q => ?_⟩, I.loc, I.cell, nL, fun x c q => ?_, fun p hp => ?_, ExcNew.untrack I.hok hn, I.len⟩
  · have z := I.base.free b o q n hx
    by_cases hb : b = e
    · subst hb; exact hn
    · rwa [upd_ne hb] at z
  · have ne : b ≠ e := fun z => by subst z; exact h0.1 _ q
    have z := I.base.tups b xs q
    rwa [upd_ne ne] at z
  · have ne : b ≠ e := fun z => by subst z; exact h0.2.1 _ _ q
    have z := I.base.frzs b o u q
    rwa [upd_ne ne] at z
  · have ne : b ≠ e := fun z => by subst z; exact h0.2.2 _ q
    obtain ⟨more, z⟩ := I.base.tbls b ps q
    exact ⟨more, by rwa [upd_ne ne] at z⟩
  · have z := I.freeC x c q
    by_cases hb : c = e
    · subst hb; exact hn
    · rwa [upd_ne hb] at z
  · obtain ⟨p1, p2, p3⟩ := I.pin p hp
    refine ⟨p1, ?_, p3⟩
    by_cases hb : p.1 = e
    · rw [hb]; exact hn
    · rwa [upd_ne hb] at p2
end
end L2

set_option Elab.async false
set_option linter.all false
set_option maxRecDepth 100000
set_option maxHeartbeats 4000000
namespace L2
open PySem PySem.Spec PyProof.Rows PySem.W
section
variable {X : Cx} {x : Str} {C fI : Addr} {fd : FuncData} {k : Nat} {f : Str} {np cpos pos : Pos} {e0 : Expr} {t : TA} {E : XK} {ps : List Str}
theorem upd_swap {H : Hp} {a b : Addr} {o o' : HO} {o2 : HO} (ne : b ≠ a) : upd (upd (upd H a o) b o2) a o' = upd (upd H b o2) a o' := by
  funext c
  by_cases z : c = a
  · subst z; rw [upd_same, upd_same]
  · rw [upd_ne z, upd_ne z]
    by_cases y : c = b
    · subst y; rw [upd_same, upd_same]
    · rw [upd_ne y, upd_ne y, upd_ne z]
theorem ps_raiseI (hc : X.calm = true) (hex : X.ex = []) (hg : Gl X x) (hm : X.mg x = some (.ref C)) (M : MkX X.K C fI f) (F : FnOk X.prog X.w X.K X.mg X.base CX0 k fI fd ps (spInit X.K f)) (hb : Binds X.K fd ps []) (hr : Room (k + 1) X.A)
    (ha : PA X [e0] t) (thr : ThrD X E) (hdb : (x == ("__debug__" : Str)) = false := by decide) (he : starEach [e0] X.env = [(false, eval e0 X.env)] := by rfl) :
    PS X (.Raise (some (.Call (.Name x np) [e0] [] cpos)) none pos) (fun _ σ H => t σ H fun vs H1 => ∃ v, vs = [v] ∧ ∀ dx, H1 dx = none → E (.ref C) (some dx) (upd H1 dx (.xd [(f, v)]))) := by
  intro pins s σ H D I h
  obtain ⟨bm, N, nm, qn, bs, hd, sn, sub, ab, col, dd, k0, k1, k2, k3, k5, hC, hT⟩ := exc_objI I.ok.mod.kin M.ex
  rw [arm_exec_Raise]
  refine wpAny_bind (wpAny_standAt ?_)
  show wpAny _ _ (raiseStmt X.env (some (eval (.Call (.Name x np) [e0] [] cpos) X.env >>= fun v => standAt pos >>= fun _ => pure v)) none) _ _ _
  refine raise_D (C := C) (nm := nm) (q := qn) (N := N) (bs := bs) (bm := bm) (hdct := hd) (sn := sn) (sub := sub) (ab := ab) (col := col) (dd := dd) (k0 := k0) (k1 := k1) (k2 := k2) (k3 := k3) (k5 := k5) (newId := "ValueError.__new__")
    (hT.hasType PySem.F.excBase_ValueError.hasBase) (I.ok.hd hc) (wpAny_bind (wpAny_mono (Q := fun v s3 => _) ?_ (fun v s3 h3 => wpAny_bind (wpAny_standAt (wpAny_pure h3))) fun _ _ z => z))
  refine wpAny_Call_Name_kw (ld_glob I hg hm ?_ hdb)
  refine PySem.W.callWith_K (h₀ := X.base) I.ok.mod.kin M.kp (thn (ha cpos pins s σ H _ I h) fun us s1 ⟨vs, H1, I1, r, v, rv, q⟩ => ⟨I1.kIn, ?_⟩) he rfl
  subst rv
  obtain ⟨u, rfl, ru⟩ : ∃ u, us = [u] ∧ RelV v u := by
    cases r with
    | cons a b => cases b; exact ⟨_, rfl, a⟩
  obtain ⟨hh, g, d, tk, os⟩ := s1
  refine exc_callI PySem.F.excBase_ValueError (hT.keeps I1.bk) I1.kIn (I1.bk _ _ hC) M.init (beq_iff_eq.mp M.fn) (fun h' e hsz hmx => ?_) (by rw [sizeLine_eq]; show 1 ≤ 16777216; decide)
  obtain ⟨t0, het, _, _⟩ := hmx.there
  have hn1 : H1 e = none := I1.hok.fresh hsz
  have J1 := I1.laid (a := e) (o := .ext (ExcNew e C t0 none)) (h' := h') (t' := tk) hmx.keeps hsz (ext_new het)
  have r2 : Vals [V.ref e, v] [Value.ref e, u] := .cons rfl (.cons ru .nil)
  have hsp : spInit X.K f [V.ref e, v] (upd H1 e (.ext (ExcNew e C t0 none))) (fun v2 H2 => v2 = .non ∧ ∃ dx, H1 dx = none ∧ dx ≠ e ∧ H2 = upd (upd H1 dx (.xd [(f, v)])) e (.ext (ExcNew e C t0 (some dx)))) E0 :=
    ⟨e, C, t0, v, rfl, upd_same, M.cl, fun dx hdx ne => ⟨rfl, dx, by rwa [upd_ne ne] at hdx, ne, upd_swap ne⟩⟩
  have hl : ([Value.ref e, u] ++ []).length = ps.length := by
    have z := F.len _ _ _ _ hsp
    exact z
  refine wpAny_call (codeAny_mono (F.run _ X.stack _ _ ⟨[Value.ref e, u], []⟩ [Value.ref e, u] _ _ E0 (hr.make C [u] []) (J1.env0.make C [u] []) (hb _ [Value.ref e, u] J1.kIn hl) r2 hsp) fun r s' hq' => ?_)
  cases r with
  | error e => exact False.elim hq'
  | ok fl =>
    cases fl with
    | ret u2 =>
      obtain ⟨v2, H', I3, rv2, ev, dx, hdx, ne, rfl⟩ := J1.after hq'
      subst ev
      obtain ⟨he3, _, _⟩ := (show ObjOk X.prog X.w _ s'.heap e (.ext (ExcNew e C t0 (some dx))) from I3.hok e _ upd_same)
      have hn2 : upd H1 dx (.xd [(f, v)]) e = none := by rw [upd_ne ne.symm]; exact hn1
      have I4 := I3.untrack hn2 ⟨fun xs z => (by have y := I1.base.tups e xs z; rw [hn1] at y; cases y), fun o u3 z => (by have y := I1.base.frzs e o u3 z; rw [hn1] at y; cases y), fun ps3 z => (by obtain ⟨_, y⟩ := I1.base.tbls e ps3 z; rw [hn1] at y; cases y)⟩
      exact ⟨rv2, e, t0, some dx, rfl, I4.bk _ _ hC, he3, thr pins σ _ s' e C t0 dx I4 he3 hn2 (I1.oldNone hex hmx.new) (q dx hdx)⟩
    | next => exact False.elim hq'
    | brk => exact False.elim hq'
    | cont => exact False.elim hq'
end
/-! ### how it flies -/
def CXD (P : Program) (w : World) : CXT := fun outer H s E e s' =>
  ∃ (ea C : Addr) (H' : Hp) (B : Heap) (a0 : Value) (d : Option Addr), e = .ref ea ∧ s'.os = s.os ∧ AllBare s'.gens ∧ Heap.FlyingW B outer ea (.ref C) a0 s'.heap ∧ (∀ dx, d = some dx → ∃ o, s'.heap.get? ea = some o ∧ o.dict = some dx) ∧ s.heap.get? ea = none ∧ H' ea = none ∧
    (∀ h'' : Heap, B.StaysIn h'' → s'.heap.UpToSlots h'' → Un (frs outer) [] H H' s.heap h'' ∧ HOk P w H' h'') ∧ E (.ref C) d H'
theorem cxe_d {P : Program} {w : World} {outer : List Env} {H : Hp} {s s' : Shared} {E : XK} {e : Value} (h : CXE P w outer H s E e s') : CXD P w outer H s E e s' := by
  obtain ⟨ea, C, H', B, a0, h1, h2, h3, h4, h5, h6, h7, h8⟩ := h
  exact ⟨ea, C, H', B, a0, none, h1, h2, h3, h4, (fun _ z => by cases z), h5, h6, h7, h8⟩
theorem FnOk.exD {P : Program} {w : World} {K : Frag} {mg : Str → Option Value} {base : Heap} {k : Nat} {f : Addr} {fd : FuncData} {ps : List Str} {sp : Sp} (F : FnOk P w K mg base (CXE P w) k f fd ps sp) : FnOk P w K mg base (CXD P w) k f fd ps sp :=
  ⟨F.len, fun A outer s H args us vs Q E hr he hb hv hs => codeAny_mono (F.run A outer s H args us vs Q E hr he hb hv hs) fun r s' q => by
    cases r with
    | error e => exact cxe_d q
    | ok fl => cases fl <;> exact q⟩
theorem Own.exD {P : Program} {w : World} {K : Frag} {mg : Str → Option Value} {base : Heap} {k : Nat} {x : Str} {ps : List Str} {sp : Sp} (O : Own P w K mg base (CXE P w) k x ps sp) : Own P w K mg base (CXD P w) k x ps sp := by
  obtain ⟨f, fd, F, r⟩ := O.ex
  exact ⟨f, fd, F.exD, r⟩
theorem FnOk.sureD {P : Program} {w : World} {K : Frag} {mg : Str → Option Value} {base : Heap} {k : Nat} {f : Addr} {fd : FuncData} {ps : List Str} {sp sp' : Sp} (F : FnOk P w K mg base (CXD P w) k f fd ps sp)
    (h : ∀ vs H Q E, sp' vs H Q E → sp vs H Q fun _ _ _ => False) : FnOk P w K mg base CX0 k f fd ps sp' :=
  ⟨fun vs H Q E q => F.len vs H Q _ (h _ _ _ _ q), fun A outer s H args us vs Q E hr he hb hv hs => codeAny_mono (F.run A outer s H args us vs Q _ hr he hb hv (h _ _ _ _ hs)) fun r s' q => by
    cases r with
    | error e => obtain ⟨_, _, _, _, _, _, _, _, _, _, _, _, _, _, z⟩ := q; exact z.elim
    | ok fl => cases fl <;> exact q⟩
section
variable {X : Cx} {pins : List (Addr × Obj)} {σ : St} {H : Hp} {s : Shared}
theorem Inv.laterE {h'' : Heap} {e : Addr} (I : Inv X pins σ H s) (hex : X.ex = []) (hn : H e = none) (new : X.s₀.heap.get? e = none) (st : (hideAll s.heap (e :: frs X.stack)).StaysIn h'') (up : s.heap.UpToSlots h'') :
    Un X.fs [] X.H₀ H X.s₀.heap h'' ∧ HOk X.prog X.w H h'' := by
  have hm : ∀ b, b ∉ X.ex := fun b z => by rw [hex] at z; cases z
  have inB : ∀ b o, s.heap.get? b = some o → b ≠ e → b ∉ frs X.stack → h''.get? b = some o := fun b o q ne n => st b o (hideAll_get _ q fun z => (List.mem_cons.mp z).elim ne n)
  have neE : ∀ b o, X.s₀.heap.get? b = some o → b ≠ e := fun b o q z => by rw [z, new] at q; cases q
  have neL : ∀ b o, X.s₀.heap.get? b = some o → b ≠ X.env.locals := fun b o q => Nat.ne_of_lt (Nat.lt_of_lt_of_le (Heap.lt_size q) I.ok.above)
  have fr : ∀ b, b ∈ frs X.stack → ∀ o, s.heap.get? b = some o → ∃ sl, h''.get? b = some { o with slots := sl } := fun b hb o q => by
    obtain ⟨_, o', ho', hd⟩ := I.stack.mem hb
    rw [q] at ho'
    cases ho'
    exact up b o q hd
  refine ⟨⟨fun b o q n hb _ => ?_, fun b o q n hb _ => ?_, fun b o q n _ => I.base.free b o q n (hm b), fun b o q _ => ?_, I.base.tups, I.base.frzs, I.base.tbls⟩, fun b u q => ?_⟩
  · exact inB b o (I.base.keep b o q n hb (hm b)) (neE b o q) fun z => (List.mem_cons.mp (I.stkSub b z)).elim (neL b o q) hb
  · obtain ⟨sl, q1⟩ := I.base.slot b o q n hb (hm b)
    by_cases z : b ∈ frs X.stack
    · obtain ⟨sl2, q2⟩ := fr b z _ q1
      exact ⟨sl2, q2⟩
    · exact ⟨sl, inB b _ q1 (neE b o q) z⟩
  · obtain ⟨o', q1⟩ := I.base.there b o q (hm b)
    by_cases z : b ∈ frs X.stack
    · obtain ⟨sl2, q2⟩ := fr b z _ q1
      exact ⟨_, q2⟩
    · exact ⟨_, inB b _ q1 (neE b o q) z⟩
  · refine (I.hok b u q).stay (fun c v hc r => inB c v r (fun z => ?_) fun z => ?_) (fun _ r => r) fun _ _ r => r
    · subst z
      rcases hc with rfl | hc
      · rw [hn] at q; cases q
      · rw [hn] at hc; cases hc
    · have n := I.stkFree c z
      rcases hc with rfl | hc
      · rw [n] at q; cases q
      · rw [n] at hc; cases hc
end
section
variable {P : Program} {w : World} {K : Frag} {mg : Str → Option Value} {base : Heap} {N : List Str} {qual : Str} {scope : Scope} {f : Addr} {cd : Value} {A : Around} {outer : List Env} {s : Shared} {H : Hp} {E : XK}
theorem thrD_cx : ThrD (cxOf (CXD P w) P w K mg base N qual scope f cd A outer s H E) E := by
  intro pins σ H1 s1 e C t dx I he hn new hE
  have hin : ∀ env ∈ (envOfC qual scope s.heap.objs.size f cd :: outer), ∀ b, env.frame = some b → b ∈ e :: frs (envOfC qual scope s.heap.objs.size f cd :: outer) := fun env hv b hb => List.mem_cons_of_mem _ (List.mem_filterMap.mpr ⟨env, hv, hb⟩)
  refine wpAny_mono (kd_any (E := fun _ _ => False) (kd_leaving _ _) (wpAny_leaving_firstW (base := hideAll s1.heap (e :: frs (envOfC qual scope s.heap.objs.size f cd :: outer))) (L := s.heap.objs.size) (a0 := .ref t) (Q := fun _ s2 => ∃ h', s2 = { s1 with heap := h' } ∧ Heap.LeftW (hideAll s1.heap (e :: frs (envOfC qual scope s.heap.objs.size f cd :: outer))) (envOfC qual scope s.heap.objs.size f cd :: outer) e (.ref C) (.ref t) s1.heap h')
    I.ok.frames (funFrames_hide I.stack hin) rfl he (fun b o q => of_hideAll _ q) (hideAll_none _ (.head _)) rfl rfl rfl fun h' hL => ⟨h', rfl, hL⟩)) (fun _ s2 q => ?_) (fun _ _ z => z.1.elim)
  obtain ⟨⟨h2, rfl, k1, ⟨_, _, k2⟩, k3, k4⟩, dk⟩ := q
  obtain ⟨o2, q2, d2⟩ := dk e _ he
  refine ⟨e, C, H1, _, _, some dx, rfl, I.os, I.bare, ⟨k1, hideAll_none _ (.head _), k2, k3⟩, fun y z => ⟨o2, q2, by cases z; exact d2⟩, new, hn, fun h'' st up => ?_, hE⟩
  exact I.laterE rfl hn new st (Heap.UpToSlots.trans k4 up)
theorem pass_cxD {E' : XK} (h : ∀ C d H, E' C d H → E C d H) : Passes (CXD P w) (cxOf (CXD P w) P w K mg base N qual scope f cd A outer s H E) E' := by
  intro pins σ H1 s1 e s' I hc
  obtain ⟨ea, C, H', B, a0, d, rfl, os, bare, fly, hd, new, hn, clo, hE⟩ := hc
  refine wpAny_mono (kd_any (E := fun _ _ => False) (kd_leaving _ _) (wpAny_leaves_onW (L := s.heap.objs.size) (Q := fun _ s2 => ∃ h2, s2 = { s' with heap := h2 } ∧ Heap.FlyingW B outer ea (.ref C) a0 h2 ∧ s'.heap.UpToSlots h2) I.ok.frames rfl fly fun h2 fly2 ups => ⟨h2, rfl, fly2, ups⟩)) (fun _ s2 q => ?_) (fun _ _ z => z.1.elim)
  obtain ⟨⟨h2, rfl, fly2, ups⟩, dk⟩ := q
  refine ⟨ea, C, H', B, a0, d, rfl, os.trans I.os, bare, fly2, fun dx z => ?_, I.oldNone rfl new, hn, fun h'' st up => ?_, h _ _ _ hE⟩
  · obtain ⟨o, q, dd⟩ := hd dx z
    obtain ⟨o2, q2, d2⟩ := dk ea o q
    exact ⟨o2, q2, d2.trans dd⟩
  · obtain ⟨u, ho⟩ := clo h'' st (ups.trans up)
    have J := I.call' (s' := { s' with heap := h'' }) os u ho bare (fun b z => by cases z)
    exact ⟨J.base, J.hok⟩
theorem own_cxD : PassesOwn (model P w) (A.deeper (envOfC qual scope s.heap.objs.size f cd)) (envOfC qual scope s.heap.objs.size f cd) (cxOf (CXD P w) P w K mg base N qual scope f cd A outer s H E).xe := PassesOwn.leaving
theorem Fun.okD {x : Str} {st : Stmt} {fd : FuncData} {ps : List Str} {k : Nat} {sp : Sp} (F : Fun K x qual st f fd) (S : FnScope N ps (defScope st)) (len : ∀ vs H Q E, sp vs H Q E → vs.length = ps.length)
    (hbody : ∀ (cdv : Value) (A : Around) (outer : List Env) (s : Shared) (H : Hp) (vs : List V) (Q : VK) (E : XK), Room k (A.deeper (envOfC qual (defScope st) s.heap.objs.size f cdv)) → sp vs H Q E →
      ∃ t, PSs (cxOf (CXD P w) P w K mg base N qual (defScope st) f cdv A outer s H E) (defBody st) t ∧ t { nx := fun _ H' => Q .non H', rt := Q } (start N vs) H) : FnOk P w K mg base (CXD P w) (k + 1) f fd ps sp := by
  obtain ⟨oc, od, kV, doc, pm, an, cdv, ct, osl, rfl, lk, hcd⟩ := F.ex
  exact fn_of lk hcd S len fun A outer s H vs Q E hr hsp => hbody cdv A outer s H vs Q E hr hsp
end
end L2

set_option Elab.async false
set_option linter.all false
set_option maxRecDepth 100000
set_option maxHeartbeats 4000000
namespace L2
open PySem PySem.Spec PyProof.Rows PySem.StrLaws
/-! ## texts: count, rfind of one sign; l * n -/
section
variable {X : Cx}
end
/-! ## == of two lists, of two tuples of flat values -/
def eqs : List V → List V → Bool
  | [], [] => true
  | x :: xs, y :: ys => eqV x y && eqs xs ys
  | _, _ => false
theorem eqs_len : ∀ {xs ys : List V}, xs.length ≠ ys.length → eqs xs ys = false
  | [], [], h => absurd rfl h
  | [], _ :: _, _ => rfl
  | _ :: _, [], _ => rfl
  | x :: xs, y :: ys, h => by
    unfold eqs
    rw [eqs_len (xs := xs) (ys := ys) (fun q => h (by rw [List.length_cons, List.length_cons, q])), Bool.and_false]
def eqAtJ (xs ys : List V) (j : Nat) : Bool := match xs[j]?, ys[j]? with
  | some x, some y => eqV x y
  | _, _ => false
theorem eqs_all : ∀ {xs ys : List V}, xs.length = ys.length → (List.range xs.length).all (eqAtJ xs ys) = eqs xs ys
  | [], [], _ => rfl
  | [], _ :: _, h => by cases h
  | _ :: _, [], h => by cases h
  | x :: xs, y :: ys, h => by
    have ih := eqs_all (xs := xs) (ys := ys) (Nat.succ.inj h)
    rw [List.length_cons, List.range_succ_eq_map, List.all_cons, List.all_map]
    unfold eqs
    rw [← ih]
    rfl
theorem Vals.at {xs : List V} {us : List Value} (r : Vals xs us) {j : Nat} (h : j < us.toArray.size) : ∃ x, xs[j]? = some x ∧ RelV x us.toArray[j] := by
  have hj : j < us.length := by simpa using h
  have hx : j < xs.length := by rw [r.length]; exact hj
  obtain ⟨u, hu, ru⟩ := r.get (List.getElem?_eq_getElem hx)
  refine ⟨xs[j], List.getElem?_eq_getElem hx, ?_⟩
  rw [List.getElem?_eq_getElem hj] at hu
  cases hu
  simpa using ru
theorem flat_at {xs : List V} (h : xs.all flatV = true) {j : Nat} {x : V} (e : xs[j]? = some x) : flatV x = true := List.all_eq_true.mp h x (List.mem_of_getElem? e)
section
variable {X : Cx}
theorem op_eqQ (hu : X.A.units < cLine) : OpR X (compareOp .Eq) (fun x y H Q => ∃ p q xs ys, x = .ref p ∧ y = .ref q ∧ ((SqL X.K H p xs ∧ SqL X.K H q ys) ∨ (SqT X.K H p xs ∧ SqT X.K H q ys)) ∧ xs.all flatV = true ∧ ys.all flatV = true ∧ Q (.bl (eqs xs ys)) H) := by
  intro pins s σ H x y v u Q I rx ry h
  obtain ⟨p, q, xs, ys, rfl, rfl, hq, fx, fy, w⟩ := h
  cases rx
  cases ry
  rcases hq with ⟨h1, h2⟩ | ⟨h1, h2⟩
  · obtain ⟨its, r, pl, hz⟩ := I.list h1
    obtain ⟨jts, r2, pl2, hz2⟩ := I.list h2
    by_cases hl : xs.length = ys.length
    · have e1 : its.toArray.size = xs.length := by rw [List.size_toArray, r.length]
      refine SeqAt.eq_listAt (e := eqAtJ xs ys) pl.isList pl2.isList (by rw [e1, hl, r2.length]; simp) hu (fun j ha hb => ?_) ⟨.bl (eqs xs ys), H, I, ?_, w⟩
      · obtain ⟨a, ea, ra⟩ := r.at ha
        obtain ⟨b, eb, rb⟩ := r2.at hb
        have e : eqAtJ xs ys j = eqV a b := by unfold eqAtJ; rw [ea, eb]
        rw [e]
        exact eqAt_V ra rb (flat_at fx ea) (flat_at fy eb)
      · rw [e1, eqs_all hl] <;> rfl
    · refine SeqAt.eq_list_lengthsAt pl.isList pl2.isList ?_ hu ⟨.bl (eqs xs ys), H, I, ?_, w⟩
      · rw [bne_iff_ne, List.size_toArray, List.size_toArray, ← r.length, ← r2.length]
        exact hl
      · rw [eqs_len hl] <;> rfl
  · obtain ⟨its, r, pl, hz⟩ := I.tuple h1
    obtain ⟨jts, r2, pl2, hz2⟩ := I.tuple h2
    have e1 : its.toArray.size = xs.length := by rw [List.size_toArray, r.length]
    have e2 : jts.toArray.size = ys.length := by rw [List.size_toArray, r2.length]
    refine SeqAt.eq_tupleAt (e := eqAtJ xs ys) (show s.heap.IsTuple p its.toArray from pl) (show s.heap.IsTuple q jts.toArray from pl2) hu (fun j ha hb => ?_) ⟨.bl (eqs xs ys), H, I, ?_, w⟩
    · obtain ⟨a, ea, ra⟩ := r.at ha
      obtain ⟨b, eb, rb⟩ := r2.at hb
      have e : eqAtJ xs ys j = eqV a b := by unfold eqAtJ; rw [ea, eb]
      rw [e]
      exact eqAt_V ra rb (flat_at fx ea) (flat_at fy eb)
    · rw [e1, e2]
      by_cases hl : xs.length = ys.length
      · rw [← hl, Nat.min_self, eqs_all hl, beq_self_eq_true, Bool.and_true] <;> rfl
      · rw [eqs_len hl, show (xs.length == ys.length) = false from by rw [beq_eq_false_iff_ne]; exact hl, Bool.and_false] <;> rfl
end
end L2

set_option Elab.async false
set_option linter.all false
set_option maxRecDepth 100000
set_option maxHeartbeats 4000000
namespace L2
open PySem PySem.Spec PyProof.Rows PySem.StrLaws
/-! ## != of lists and tuples; == of lists of the same references -/
section
variable {X : Cx}
theorem refs_same {as : List Addr} {us : List Value} (r : Vals (as.map V.ref) us) : us = as.map Value.ref := by
  induction as generalizing us with
  | nil => cases r; rfl
  | cons a as ih =>
    rw [List.map_cons] at r
    cases r with
    | cons r1 r2 => rw [ih r2, List.map_cons]; congr 1
theorem all_true (n : Nat) : (List.range n).all (fun _ => true) = true := by simp
theorem op_neR (hu : X.A.units < cLine) : OpR X (compareOp .NotEq) (fun x y H Q => ∃ (p q : Addr) (as : List Addr), x = .ref p ∧ y = .ref q ∧ SqL X.K H p (as.map V.ref) ∧ SqL X.K H q (as.map V.ref) ∧ Q (.bl false) H) := by
  intro pins s σ H x y v u Q I rx ry h
  obtain ⟨p, q, as, rfl, rfl, h1, h2, w⟩ := h
  cases rx
  cases ry
  obtain ⟨its, r, pl, hz⟩ := I.list h1
  obtain ⟨jts, r2, pl2, hz2⟩ := I.list h2
  cases refs_same r
  cases refs_same r2
  refine SeqAt.RcNeAt.lists (e := fun _ => true) pl.isList pl2.isList rfl hu (fun j ha hb => SeqAt.EqAt.same _) _ _ _ _ ?_
  rw [all_true]
  exact ⟨.bl false, H, I, rfl, w⟩
end
/-! ## split('\n') -/
section
variable {X : Cx}
end
/-! ## the rows of a text, by their begins and ends -/
theorem same_upd {H H' : Hp} {p : Addr} {o : HO} (h : Same H H') (n : H p = none) : Same H (upd H' p o) := fun b u q => by
  rw [upd_ne (ne_of_none q n)]
  exact h b u q
end L2

set_option Elab.async false
set_option linter.all false
set_option maxRecDepth 100000
set_option maxHeartbeats 4000000
namespace L2
open PySem PySem.Spec PyProof.Rows
/-! ### comprehensions: the block runs in a context of its own -/
abbrev blk (X : Cx) (scope : Scope) (cl : List (Str × Addr)) (NB : List Str) (C : Addr) (fp : List Addr) (s3 : Shared) (H3 : Hp) : Cx :=
  { X with env := compEnvC scope cl C X.env, N := NB, s₀ := s3, H₀ := H3, outer := X.stack, stack := X.stack, ex := fp, fn := fun _ => false, xe := fun _ _ => False }
def around (ix : List (Option Nat)) (σ : St) : St := ix.map fun o => o.bind fun j => (σ[j]?).bind id
structure ClOk (X : Cx) (scope : Scope) (cl : List (Str × Addr)) (NB : List Str) (ix : List (Option Nat)) : Prop where
  clos : closureFor scope X.env = pure cl
  cell : ∀ y ∈ scope.names, y.2 ≠ .cell
  kind : scope.kind = .function
  names : ∀ y ∈ scope.names, y.2 = .local → scope.names.lookup y.1 = some .local
  sub : ∀ x c, cl.lookup x = some c → X.env.cells.lookup x = some c
  has : ∀ C x, ((compEnvC scope cl C X.env).kindOf x = some .cell ∨ (compEnvC scope cl C X.env).kindOf x = some .free) → ∃ c, cl.lookup x = some c
  len : ix.length = NB.length
  at_ : ∀ (i : Nat) x j, NB[i]? = some x → ix[i]? = some (some j) → X.N[j]? = some x ∧ (X.env.kindOf x = some .cell ∨ X.env.kindOf x = some .free) ∧ ∀ C, (compEnvC scope cl C X.env).kindOf x = some .cell ∨ (compEnvC scope cl C X.env).kindOf x = some .free
section
variable {X : Cx} {scope : Scope} {cl : List (Str × Addr)} {NB : List Str} {ix : List (Option Nat)} {fp : List Addr} {pins : List (Addr × Obj)} {σ : St} {H : Hp} {s : Shared}
theorem blk_ok (hb : ClOk X scope cl NB ix) (I : Inv X pins σ H s) (hf : ∀ b ∈ fp, FpOk X pins H b) (hl : ∀ b ∈ fp, b < s.heap.objs.size) : (blk X scope cl NB s.heap.objs.size fp s H).Ok where
  mod := I.mod
  kind := hb.kind
  glob := I.ok.glob
  blt := I.ok.blt
  above := Nat.le_refl _
  inj := fun x y c h1 h2 => I.ok.inj x y c (hb.sub x c h1) (hb.sub y c h2)
  has := fun x h => hb.has _ x h
  cab := fun _ _ z => nomatch z
  hd := I.ok.hd
  frames := I.ok.frames
  stk := .inl rfl
  exf := fun b z => ⟨Nat.ne_of_lt (hl b z), fun x c e => (hf b z).2.2.2.2.1 x c (hb.sub x c e)⟩
  bs := fun b o e => I.bs b o e
  bsz := Nat.le_trans I.ok.bsz I.sz
  noex := fun b o e z => by
    rcases (hf b z).2.2.2.1 with q | q
    · exact I.ok.noex b o e q
    · exact absurd (Nat.lt_of_lt_of_le (Heap.lt_size e) (Nat.le_trans I.ok.bsz q)) (Nat.lt_irrefl _)
  exfs := fun b z q => by
    rcases List.mem_cons.mp (I.stkSub b q) with e | e
    · exact (hf b z).2.1 e
    · exact (hf b z).2.2.1 e
  funs := I.stack
  frf := I.stkFree
theorem blk_inv (hb : ClOk X scope cl NB ix) (I : Inv X pins σ H s) (hf : ∀ b ∈ fp, FpOk X pins H b) (hl : ∀ b ∈ fp, b < s.heap.objs.size) {h' : Heap} {t' : Nat} {m : Str → Option Value} (hn : h'.Ns s.heap.objs.size m)
    (k : ∀ b o, s.heap.get? b = some o → h'.get? b = some o) : Inv (blk X scope cl NB s.heap.objs.size fp s H) pins (around ix σ) H { s with heap := h', toks := t' } where
  ok := blk_ok hb I hf hl
  os := rfl
  bare := I.bare
  base := Un.kept k
  loc := by
    refine ⟨m, hn, fun i x v e1 e2 e3 => ?_⟩
    have e2' : ∃ j, ix[i]? = some (some j) ∧ σ[j]? = some (some v) := by
      unfold around at e2
      rw [List.getElem?_map] at e2
      cases q : ix[i]? with
      | none => rw [q] at e2; cases e2
      | some o =>
        rw [q] at e2
        cases o with
        | none => cases e2
        | some j =>
          refine ⟨j, rfl, ?_⟩
          simp only [Option.map_some, Option.bind_some, Option.some.injEq] at e2
          cases r : σ[j]? with
          | none => rw [r] at e2; cases e2
          | some o => rw [r] at e2; simp only [Option.bind_some, id] at e2; rw [e2]
    obtain ⟨j, q1, q2⟩ := e2'
    obtain ⟨n1, n2, n3⟩ := hb.at_ i x j e1 q1
    obtain ⟨m0, _, hl0⟩ := I.loc
    have hv : Vis X.env.scope x := n2.elim (fun z => .inr (.inl z)) fun z => .inr (.inr z)
    obtain ⟨u, r, lk⟩ := hl0 j x v n1 q2 hv
    refine ⟨u, r, .inr ⟨n3 _, ?_⟩⟩
    rcases lk with ⟨z, _⟩ | ⟨_, c, ec, o, ho, hd⟩
    · rcases n2 with n2 | n2 <;> (rw [n2] at z; cases z)
    · obtain ⟨c', hc'⟩ := hb.has s.heap.objs.size x (n3 _)
      have := hb.sub x c' hc'
      rw [ec] at this; cases this
      exact ⟨c, hc', o, k c o ho, hd⟩
  cell := fun x c e => by
    obtain ⟨v, o, ho, hd⟩ := I.cell x c (hb.sub x c e)
    exact ⟨v, o, k c o ho, hd⟩
  free := I.hok.fresh (Nat.le_refl _)
  freeC := fun x c e => I.freeC x c (hb.sub x c e)
  pin := fun p hp => by
    obtain ⟨e, n, ne, nf, d⟩ := I.pin p hp
    refine ⟨k _ _ e, n, Nat.ne_of_lt (Heap.lt_size e), fun z => ?_, d⟩
    rcases List.mem_cons.mp (I.stkSub p.1 z) with q | q
    · exact ne q
    · exact nf q
  hok := I.hok.kept k
  len := by show (around ix σ).length = NB.length; unfold around; rw [List.length_map]; exact hb.len
theorem blk_back {C : Addr} {s' : Shared} {σ' : St} {H' : Hp} {h' : Heap} (I : Inv X pins σ H s) (hC : s.heap.objs.size ≤ C) (hf : ∀ b ∈ fp, FpOk X pins H b) (J : Inv (blk X scope cl NB C fp s H) pins σ' H' s') (hs : Heap.SameBut C s'.heap h') : Inv X pins σ H' { s' with heap := h' } := by
  have nC : ∀ b o, s.heap.get? b = some o → b ≠ C := fun b o e => Nat.ne_of_lt (Nat.lt_of_lt_of_le (Heap.lt_size e) hC)
  refine I.call' (ch := fp) J.os ?_ ?_ J.bare fun b hb => ?_
  · have B := J.base
    exact ⟨fun b o e n h1 h2 => (hs.2 b (nC b o e)).trans (B.keep b o e n h1 h2), fun b o e n h1 h2 => let ⟨sl, q⟩ := B.slot b o e n h1 h2; ⟨sl, (hs.2 b (nC b o e)).trans q⟩, B.free, fun b o e h1 => let ⟨o', q⟩ := B.there b o e h1; ⟨o', (hs.2 b (nC b o e)).trans q⟩, B.tups, B.frzs, B.tbls⟩
  · intro b ob e
    have fr : H' C = none := J.free
    refine (J.hok b ob e).stay (fun c w' hc q => (hs.2 c ?_).trans q) (fun _ q => q) fun _ _ q => q
    rintro rfl
    rcases hc with rfl | hc
    · rw [fr] at e; cases e
    · rw [fr] at hc; cases hc
  · obtain ⟨_, f1, _, f3, f4, f5⟩ := hf b hb
    exact ⟨f3, f1, f4, f5⟩
def PIf (X : Cx) (ifs : List Expr) (t : TT) : Prop :=
  ∀ (pins : List (Addr × Obj)) (s : Shared) (σ : St) (H : Hp) (Q : Bool → Hp → Prop), Inv X pins σ H s → t σ H Q →
    wpAny (model X.prog X.w) X.A (forIn ifs true fun c r => if r = true then do let ok ← isTrue c X.env (eval c X.env); pure (ForInStep.yield ok) else pure (ForInStep.yield r)) (TP X pins σ Q) X.xe s
def tYes : TT := fun _ H Q => Q true H
theorem pif_nil : PIf X [] tYes := fun _ _ _ H _ I h => wpAny_tests_nil ⟨H, I, h⟩
def CompW (J : It) (D : Addr) (σ0 : St) (H0 : Hp) (g : TG) (tc : TT) (te : TE) (Q : VK) : Prop := ∃ W : Nat → Nat → St → Hp → Prop, (∃ m, W 0 m σ0 H0) ∧ ∀ i m σ H, W i m σ H →
  (J.stop i H ∧ Q (.ref D) H) ∨ (J.go i H ∧ ∃ N : St → Hp → Prop, (∀ σ' H', N σ' H' → ∃ m', m' < m ∧ W (i + 1) m' σ' H') ∧ ∀ x H', J.yld i H x H' → g x σ H' fun σ2 H2 => tc σ2 H2 fun b H3 =>
    if b = true then te σ2 H3 fun y H4 => ∃ ys, H4 D = some (.lst ys) ∧ ys.length < sizeLine ∧ N σ2 (upd H4 D (.lst (ys ++ [y]))) else N σ2 H3)
def tComp (ix : List (Option Nat)) (wi : TI) (g : TG) (tc : TT) (te : TE) : TE := fun σ H Q => wi σ H fun J H1 => ∀ D, H1 D = none → CompW J D (around ix σ) (upd H1 D (.lst [])) g tc te Q
theorem pe_comp {elt iter : Expr} {x : Str} {px : Pos} {ifs : List Expr} {pos : Pos} {wi : TI} {g : TG} {tc : TT} {te : TE} (NB : List Str) (ix : List (Option Nat)) (cl : List (Str × Addr)) (hc : X.calm = true) (hb : ClOk X scope cl NB ix) (hi : PI X (.Name x px) iter wi)
    (hg : ∀ C fp s3 H3, PG (blk X scope cl NB C fp s3 H3) (.Name x px) g) (ht : ∀ C fp s3 H3, PIf (blk X scope cl NB C fp s3 H3) ifs tc) (he : ∀ C fp s3 H3, PE (blk X scope cl NB C fp s3 H3) elt te)
    (hs : ∀ x, foldedSetIterable iter X.env x = pure x := by intro _; rfl) : PE X (.ListComp elt [⟨.Name x px, iter, ifs, 0⟩] scope pos) (tComp ix wi g tc te) := by
  intro pins s σ H Q I h
  rw [eval_ListComp]
  refine wpAny_comprehension_free (use := none) rfl hs hb.clos hb.kind hb.names (thn (hi pins s σ H _ I h) fun v s1 h1 => thn h1 fun itv s2 h2 => ?_)
  obtain ⟨it, fp, tn, J, H2, e, I2, T, st2, f2, turn0⟩ := h2
  subst e
  have hD : H2 s2.heap.objs.size = none := I2.hok.fresh (Nat.le_refl _)
  obtain ⟨W, ⟨m0, w0⟩, turn⟩ := turn0 _ hD
  have flt : ∀ b ∈ fp, b < s2.heap.objs.size := fun b z => let ⟨o, e, _⟩ := T.obj _ _ st2 b z; Heap.lt_size e
  refine wpAny_newObj_type (wpAny_newFunctionEnv hb.cell (by intro y hy; simp at hy) (fun h₁ hns₁ hsb₁ => ?_) hb.kind)
  dsimp only at hns₁ hsb₁ ⊢
  have I3 := I2.lnew (ys := []) (its := []) (t' := s2.toks) .nil (Nat.zero_le _)
  have hsz3 : (s2.heap.push { cls := .type "list", data := .seq ([] : List Value).toArray }).objs.size = s2.heap.objs.size + 1 := Heap.size_push ..
  have fp3 : ∀ b ∈ fp, FpOk X pins (upd H2 s2.heap.objs.size (.lst [])) b := fun b z => ⟨by rw [upd_ne (Nat.ne_of_lt (flt b z))]; exact (f2 b z).1, (f2 b z).2⟩
  have flt3 : ∀ b ∈ fp, b < (s2.heap.push { cls := .type "list", data := .seq ([] : List Value).toArray }).objs.size := fun b z => by rw [hsz3]; exact Nat.lt_succ_of_lt (flt b z)
  have k3 : ∀ b o, (s2.heap.push { cls := .type "list", data := .seq ([] : List Value).toArray }).get? b = some o → h₁.get? b = some o := fun b o e => hsb₁.extBut b o (Nat.ne_of_lt (Heap.lt_size e)) (Heap.get?_push_of_some _ e)
  have J0 := blk_inv hb I3 fp3 flt3 (h' := h₁) (t' := s2.toks + ([] : List (Str × Value)).length) hns₁ k3
  have st3 : tn 0 h₁ := T.keep _ _ _ st2 fun b z o e => k3 b o (Heap.get?_push_of_some _ e)
  have loop : ∀ s4 : Shared, s4 = { s2 with heap := h₁, toks := s2.toks + ([] : List (Str × Value)).length } →
      codeAny (model X.prog X.w) X.A (.compLoop (.ListComp elt [⟨.Name x px, iter, ifs, 0⟩] scope pos) 0 (.ref it) (.ref s2.heap.objs.size) (compEnvC scope cl (s2.heap.push { cls := .type "list", data := .seq ([] : List Value).toArray }).objs.size X.env))
        (compPost (model X.prog X.w) X.A X.xe none (EP X pins σ Q) (.ref s2.heap.objs.size) (s2.heap.push { cls := .type "list", data := .seq ([] : List Value).toArray }).objs.size) s4 := by
    rintro s4 rfl
    have J0' : Inv (blk X scope cl NB (s2.heap.push { cls := .type "list", data := .seq ([] : List Value).toArray }).objs.size fp _ _) pins _ _ _ := J0
    generalize hC : (s2.heap.push { cls := .type "list", data := .seq ([] : List Value).toArray }).objs.size = C at *
    refine codeAny_compLoop_tests (fun n s' => ∃ i σ' H', Inv (blk X scope cl NB C fp { s2 with heap := s2.heap.push { cls := .type "list", data := .seq ([] : List Value).toArray } } (upd H2 s2.heap.objs.size (.lst []))) pins σ' H' s' ∧ tn i s'.heap ∧ (∀ b ∈ fp, H' b = none) ∧ W i n σ' H') ?_ m0 ⟨0, _, _, J0', st3, fun b z => (fp3 b z).1, w0⟩
    rintro n s5 ⟨i, σ5, H5, I5, st5, fr5, w5⟩
    have stat : ∀ {H' : Hp}, (∀ b ∈ fp, H' b = none) → ∀ b ∈ fp, FpOk (blk X scope cl NB C fp { s2 with heap := s2.heap.push { cls := .type "list", data := .seq ([] : List Value).toArray } } (upd H2 s2.heap.objs.size (.lst []))) pins H' b := fun hn b z => by
      obtain ⟨_, f1, f2', f3, f4, f5⟩ := fp3 b z
      exact ⟨hn b z, Nat.ne_of_lt (flt3 b z), fun q => I5.ok.exfs b z q, .inl z, fun y c e => f4 y c (hb.sub y c e), f5⟩
    rcases turn i n σ5 H5 w5 with ⟨stop, qn⟩ | ⟨go, N, hN, step⟩
    · refine wpAny_mono (T.done (blk X scope cl NB C fp { s2 with heap := s2.heap.push { cls := .type "list", data := .seq ([] : List Value).toArray } } (upd H2 s2.heap.objs.size (.lst []))) rfl rfl rfl hc i pins s5 σ5 H5 (fun _ _ => False) I5 (stat fr5) st5 stop) (fun r s6 ⟨hr, I6⟩ => ?_) fun _ _ z => z.elim
      subst hr
      obtain ⟨m6, hn6, _⟩ := id I6.loc
      refine ⟨m6, hn6, fun h' hs' => ?_⟩
      exact ⟨.ref _, H5, blk_back I3 (Nat.le_of_eq hC) fp3 I6 hs', rfl, qn⟩
    · refine wpAny_mono (T.item (blk X scope cl NB C fp { s2 with heap := s2.heap.push { cls := .type "list", data := .seq ([] : List Value).toArray } } (upd H2 s2.heap.objs.size (.lst []))) rfl rfl rfl hc i pins s5 σ5 H5 (fun _ _ => False) I5 (stat fr5) st5 go) (fun r s6 ⟨u, hr, h6⟩ => ?_) fun _ _ z => z.elim
      subst hr
      show wpAny _ _ (pure () >>= fun _ => assign (.Name x px) _ u) _ _ s6
      refine wpAny_bind (wpAny_mono h6 (fun _ s7 ⟨y, H7, I7, r7, y7, st7, fr7⟩ => ?_) fun _ _ z => z.elim)
      have I7' := I7.pinned (stat fr7) (T.obj _ _ st7)
      refine wpAny_mono (hg _ _ _ _ _ s7 σ5 H7 y u _ I7' r7 (step y H7 y7)) (fun _ s8 ⟨σ8, H8, I8, q8⟩ => ?_) fun _ _ z => z.elim
      refine wpAny_mono (ht _ _ _ _ _ s8 σ8 H8 _ I8 q8) (fun ok s9 ⟨H9, I9, q9⟩ => ?_) fun _ _ z => z.elim
      have again : ∀ {s' : Shared} {H' : Hp}, Inv (blk X scope cl NB C fp { s2 with heap := s2.heap.push { cls := .type "list", data := .seq ([] : List Value).toArray } } (upd H2 s2.heap.objs.size (.lst []))) (pins ++ pinsAt fp s7.heap) σ8 H' s' → N σ8 H' → ∃ m, m < n ∧ ∃ i σ' H', Inv (blk X scope cl NB C fp { s2 with heap := s2.heap.push { cls := .type "list", data := .seq ([] : List Value).toArray } } (upd H2 s2.heap.objs.size (.lst []))) pins σ' H' s' ∧ tn i s'.heap ∧ (∀ b ∈ fp, H' b = none) ∧ W i m σ' H' := fun {s' H'} I' n' => by
        obtain ⟨m', hm, w'⟩ := hN _ _ n'
        refine ⟨m', hm, i + 1, _, H', I'.unpinned, T.keep _ _ _ st7 fun b z o e => (I'.pin (b, o) (List.mem_append_right _ (List.mem_append_right _ (mem_pinsAt z e)))).1, fun b z => ?_, w'⟩
        obtain ⟨o, e, d⟩ := T.obj _ _ st7 b z
        exact (I'.pin (b, o) (List.mem_append_right _ (List.mem_append_right _ (mem_pinsAt z e)))).2.1
      cases ok with
      | false => exact again I9 q9
      | true =>
        rw [if_pos rfl] at q9 ⊢
        refine wpAny_mono (he _ _ _ _ _ s9 σ8 H9 _ I9 q9) (fun w s10 ⟨z, H10, I10, r10, ys, hD10, hz10, n10⟩ => ?_) fun _ _ z => z.elim
        refine wpAny_mono (mt_append (X := (blk X scope cl NB C fp { s2 with heap := s2.heap.push { cls := .type "list", data := .seq ([] : List Value).toArray } } (upd H2 s2.heap.objs.size (.lst [])))) _ s10 σ8 H10 (.ref s2.heap.objs.size) [z] _ [w] (fun _ H' => H' = upd H10 s2.heap.objs.size (.lst (ys ++ [z]))) I10 rfl (.cons r10 .nil) ⟨_, ys, z, rfl, rfl, hD10, hz10, rfl⟩) (fun _ s11 ⟨_, H11, I11, _, e11⟩ => ?_) fun _ _ z => z.elim
        subst e11
        exact again I11 n10
  exact codeAny_compStart_list (loop _ rfl) (T.self _ 0 _ _ _ st3 (loop _ rfl))

/-! ### reversed(list) -/
def Itv (K : PySem.W.Frag) (a : Addr) (n : Nat) : It :=
  ⟨fun i H => ∃ xs, SqL K H a xs ∧ xs.length = n ∧ i < n, fun i H x H' => H' = H ∧ ∀ xs, SqL K H a xs → xs[n - 1 - i]? = some x, fun i _ => i = n⟩
theorem turn_rev {P : Program} {w : World} {K : PySem.W.Frag} {tg : Expr} (a it : Addr) (n : Nat) : Turn P w K tg (Itv K a n) [it] it (fun i h => h.IsRevIter it a ((n : Int) - 1 - (i : Int))) where
  mem := by simp
  obj := fun i h st b hb => by
    have e : b = it := by simpa using hb
    subst e
    obtain ⟨o, e, c, d⟩ := st
    exact ⟨o, e, fun v z => by rw [d] at z; cases z⟩
  keep := fun i h h' st k => st.at fun o e => k it (by simp) o e
  item := by
    intro X hP hw hK hc i pins s σ H E I hf st hg
    subst hP hw hK
    obtain ⟨xs, hq, hn, hi⟩ := hg
    obtain ⟨its, rv, p, hz⟩ := I.list hq
    have hx : xs[n - 1 - i]? = some xs[n - 1 - i] := List.getElem?_eq_getElem (by omega)
    obtain ⟨u, hu, ru⟩ := rv.get hx
    obtain ⟨f0, f1, f2, f3, f4, f5⟩ := hf it (by simp)
    have ei : (n : Int) - 1 - (i : Int) = ((n - 1 - i : Nat) : Int) := by omega
    rw [ei] at st
    refine wpAny_pyNext_rev_item st p.isList (x := u) (by simpa using hu) fun h' st' sb => ?_
    have I1 : Inv X pins σ H { s with heap := h' } := I.turned (t' := s.toks) (fun b o hb e => (sb.2 b hb).trans e) f0 f1 f3 f4 f5
    obtain ⟨o, e, c, d⟩ := id st'
    have e2 : ((n - 1 - i : Nat) : Int) - 1 = (n : Int) - 1 - ((i + 1 : Nat) : Int) := by omega
    rw [e2] at st'
    exact ⟨u, rfl, go_of (s := { s with heap := h' }) e c d (by decide) ⟨_, H, I1, ru, ⟨rfl, fun ys hy => by rw [I.list_inj hy hq]; exact hx⟩, st', fun b hb => (hf b hb).1⟩⟩
  done := by
    intro X hP hw hK hc i pins s σ H E I hf st hg
    subst hP hw hK
    have hg' : i = n := hg
    subst hg'
    obtain ⟨f0, f1, f2, f3, f4, f5⟩ := hf it (by simp)
    have ei : (i : Int) - 1 - (i : Int) = -1 := by omega
    rw [ei] at st
    exact wpAny_pyNext_rev_end (I.ok.hd hc) st fun h' he => ⟨rfl, I.turned (t' := s.toks) he f0 f1 f3 f4 f5⟩
  self := fun A i s Q E st h => wpAny_pyIter_revIter st h
def iRev (K : PySem.W.Frag) (ta : TA) : TI := fun σ H R => ta σ H fun xs H1 => ∃ a ys, xs = [.ref a] ∧ SqL K H1 a ys ∧ R (Itv K a ys.length) H1
theorem boot_reversed : bootBuiltins "reversed" = some (.type "reversed") := by decide +kernel
theorem pi_rev {tg l : Expr} {tl : TA} {p pos : Pos} (hg : Gl X "reversed") (hm : X.mg "reversed" = none) (hl : PA X [l] tl) (hs : starEach [l] X.env = [(false, eval l X.env)] := by rfl) : PI X tg (.Call (.Name "reversed" p) [l] [] pos) (iRev X.K tl) := by
  intro pins s σ H R I h
  refine Call_ (ld_blt I hg hm boot_reversed (PyProof.Rows.callWith_type1 (thn (hl pos pins s σ H _ I h) fun us s1 ⟨vs, H1, I1, r1, q1⟩ => ?_) hs rfl))
  obtain ⟨a, ys, rfl, hq, q⟩ := q1
  obtain ⟨u, rfl, ru⟩ := r1.one
  cases ru
  obtain ⟨its, rv, p, hz⟩ := I1.list hq
  refine call_reversed_list p.isList ?_
  have el : (its.toArray.size : Int) = (ys.length : Int) := by rw [rv.length]; simp
  have st : (s1.heap.push (revObj a ((its.toArray.size : Int) - 1))).IsRevIter s1.heap.objs.size a ((its.toArray.size : Int) - 1) := ⟨_, Heap.get?_push_size _ rfl, rfl, rfl⟩
  refine wpAny_pyIter_revIter st ?_
  refine ⟨s1.heap.objs.size, [s1.heap.objs.size], _, _, H1, rfl, I1.kept (t' := s1.toks) fun b o e => Heap.get?_push_of_some _ e, turn_rev a _ ys.length, ?_, fun b hb => ?_, q⟩
  · have e0 : (ys.length : Int) - 1 - ((0 : Nat) : Int) = (its.toArray.size : Int) - 1 := by rw [el]; omega
    rw [e0]
    exact st
  · have e : b = s1.heap.objs.size := by simpa using hb
    subst e
    exact I1.fpOk (Nat.le_refl _) (I1.hok.fresh (Nat.le_refl _))
theorem comp_rev {K : PySem.W.Frag} {a D : Addr} {xs : List V} {ix : List (Option Nat)} {g : TG} {tc : TT} {te : TE} {σ : St} {H : Hp} {Q : VK} (Pv : Nat → St → Hp → Prop) (h0 : Pv 0 (around ix σ) (upd H D (.lst []))) (hl : ∀ i σ H, i ≤ xs.length → Pv i σ H → SqL K H a xs)
    (hs : ∀ i x σ H, i < xs.length → xs[xs.length - 1 - i]? = some x → Pv i σ H → g x σ H fun σ2 H2 => tc σ2 H2 fun b H3 => if b = true then te σ2 H3 fun y H4 => ∃ ys, H4 D = some (.lst ys) ∧ ys.length < sizeLine ∧ Pv (i + 1) σ2 (upd H4 D (.lst (ys ++ [y]))) else Pv (i + 1) σ2 H3)
    (hd : ∀ σ H, Pv xs.length σ H → Q (.ref D) H) :
    CompW (Itv K a xs.length) D (around ix σ) (upd H D (.lst [])) g tc te Q := by
  refine ⟨fun i m σ H => m = xs.length - i ∧ i ≤ xs.length ∧ Pv i σ H, ⟨xs.length, by simp, Nat.zero_le _, h0⟩, ?_⟩
  rintro i m σ H ⟨rfl, hi, p⟩
  have q := hl i σ H hi p
  by_cases hlt : i < xs.length
  · refine .inr ⟨⟨xs, q, rfl, hlt⟩, Pv (i + 1), fun σ' H' p' => ⟨xs.length - (i + 1), by omega, rfl, hlt, p'⟩, fun x H' y => ?_⟩
    obtain ⟨e, y⟩ := y
    subst e
    exact hs i x σ _ hlt (y xs q) p
  · have e : i = xs.length := by omega
    subst e
    exact .inl ⟨rfl, hd σ H p⟩
theorem comp_list {K : PySem.W.Frag} {a D : Addr} {xs : List V} {ix : List (Option Nat)} {g : TG} {tc : TT} {te : TE} {σ : St} {H : Hp} {Q : VK} (Pv : Nat → St → Hp → Prop) (h0 : Pv 0 (around ix σ) (upd H D (.lst []))) (hl : ∀ i σ H, i ≤ xs.length → Pv i σ H → SqL K H a xs)
    (hs : ∀ i x σ H, xs[i]? = some x → Pv i σ H → g x σ H fun σ2 H2 => tc σ2 H2 fun b H3 => if b = true then te σ2 H3 fun y H4 => ∃ ys, H4 D = some (.lst ys) ∧ ys.length < sizeLine ∧ Pv (i + 1) σ2 (upd H4 D (.lst (ys ++ [y]))) else Pv (i + 1) σ2 H3)
    (hd : ∀ σ H, Pv xs.length σ H → Q (.ref D) H) :
    CompW (Itl K a) D (around ix σ) (upd H D (.lst [])) g tc te Q := by
  refine ⟨fun i m σ H => m = xs.length - i ∧ i ≤ xs.length ∧ Pv i σ H, ⟨xs.length, by simp, Nat.zero_le _, h0⟩, ?_⟩
  rintro i m σ H ⟨rfl, hi, p⟩
  have q := hl i σ H hi p
  by_cases hlt : i < xs.length
  · refine .inr ⟨⟨xs, xs[i], q, by simp [hlt]⟩, Pv (i + 1), fun σ' H' p' => ⟨xs.length - (i + 1), by omega, rfl, hlt, p'⟩, fun x H' y => ?_⟩
    obtain ⟨e, y⟩ := y
    subst e
    exact hs i x σ _ (y xs q) p
  · have e : i = xs.length := by omega
    subst e
    exact .inl ⟨⟨xs, q, Nat.le_refl _⟩, hd σ H p⟩
theorem yes {i : Nat} {v : V} {σ : St} {H : Hp} {F G : St → Hp → Prop} (h : F (σ.set i (some v)) H) : gName i v σ H (fun σ2 H2 => tYes σ2 H2 fun b H3 => if b = true then F σ2 H3 else G σ2 H3) := by
  show (if true = true then F (σ.set i (some v)) H else G (σ.set i (some v)) H)
  rw [if_pos rfl]
  exact h
theorem nd1 (x : Str) : [x].Nodup := by simp
theorem lookup_mem {α : Type} : ∀ {l : List (Str × α)} {x : Str} {k : α}, l.lookup x = some k → ∃ y, (y, k) ∈ l
  | (y, k') :: r, x, k, h => by
    rw [List.lookup_cons] at h
    split at h
    · cases h; exact ⟨y, List.mem_cons_self⟩
    · obtain ⟨z, hz⟩ := lookup_mem h
      exact ⟨z, List.mem_cons_of_mem _ hz⟩
theorem cl_none (NB : List Str) (hf : (scope.names.all fun y => y.2 != NameKind.free && y.2 != NameKind.cell) = true) (hk : scope.kind = .function) (hn : (scope.names.all fun y => y.2 != NameKind.local || scope.names.lookup y.1 == some NameKind.local) = true) : ClOk X scope [] NB (NB.map fun _ => none) := by
  have nf : ∀ y ∈ scope.names, y.2 ≠ .free ∧ y.2 ≠ .cell := fun y hy => by
    have := List.all_eq_true.mp hf y hy
    simpa using this
  have er : (scope.names.map fun (n, k) => if (k == NameKind.free && X.env.scope.kind == .function && X.env.kindOf n == some .cell) then (n, NameKind.cell) else (n, k)) = scope.names := by
    refine (List.map_congr_left fun y hy => ?_).trans (List.map_id _)
    obtain ⟨n, k⟩ := y
    have h1 : (k == NameKind.free) = false := by simpa using (nf _ hy).1
    show (if (k == NameKind.free && X.env.scope.kind == .function && X.env.kindOf n == some .cell) = true then (n, NameKind.cell) else (n, k)) = (n, k)
    rw [h1, Bool.false_and, Bool.false_and]
    rfl
  refine ⟨closureFor_none fun y hy => (nf y hy).1, fun y hy => (nf y hy).2, hk, fun y hy hl => ?_, fun x c h => (by cases h), fun C x h => ?_, by simp, fun i x j h1 h2 => ?_⟩
  · have := List.all_eq_true.mp hn y hy
    rw [hl] at this
    simpa using this
  · exfalso
    have hx : (compEnvC scope [] C X.env).kindOf x = scope.names.lookup x := by
      show List.lookup x (scope.names.map fun (n, k) => if (k == NameKind.free && X.env.scope.kind == .function && X.env.kindOf n == some .cell) then (n, NameKind.cell) else (n, k)) = _
      rw [er]
    rw [hx] at h
    rcases h with h | h
    · obtain ⟨y, hy⟩ := lookup_mem h
      exact (nf _ hy).2 rfl
    · obtain ⟨y, hy⟩ := lookup_mem h
      exact (nf _ hy).1 rfl
  · rw [List.getElem?_map] at h2
    cases q : NB[i]? with
    | none => rw [q] at h2; cases h2
    | some o => rw [q] at h2; cases h2
end
end L2

set_option Elab.async false
set_option linter.all false
set_option maxRecDepth 100000
set_option maxHeartbeats 4000000
namespace L2
open PySem PySem.Spec PyProof.Rows PySem.StrLaws
/-! ## texts: ''.join, in, <= -/
section
variable {X : Cx}
end
end L2

set_option Elab.async false
set_option linter.all false
set_option maxRecDepth 100000
set_option maxHeartbeats 4000000
namespace L2
open PySem PySem.Spec PyProof.Rows
/-! ### name = comprehension -/
section
variable {X : Cx} {scope : Scope} {cl : List (Str × Addr)} {NB : List Str} {ix : List (Option Nat)} {fp : List Addr} {pins : List (Addr × Obj)} {σ : St} {H : Hp} {s : Shared}
theorem gname_go {i : Nat} {v : V} {σ : St} {H : Hp} {Q : St → Hp → Prop} (h : Q (σ.set i (some v)) H) : gName i v σ H Q := h
theorem seq_at {t u : TS} {D : Ends} {σ : St} {H : Hp} {r : VK} {b c : St → Hp → Prop} (h : tSeq t u D σ H) : ({ nx := tSeq t u D, rt := r, bk := b, ct := c } : Ends).nx σ H := h
theorem seq_to {t u : TS} {D : Ends} {σ : St} {H : Hp} (Out : St → Hp → Prop) (hs : ∀ nx : St → Hp → Prop, (∀ σ H, Out σ H → nx σ H) → t { D with nx := nx } σ H) (fin : ∀ σ H, Out σ H → u D σ H) : tSeq t u D σ H := hs _ fin
end
end L2

set_option Elab.async false
set_option linter.all false
set_option maxRecDepth 100000
set_option maxHeartbeats 4000000
namespace L2
open PySem PySem.Spec PyProof.Rows PySem.StrLaws
section
variable {X : Cx}
end
def optV : Option Nat → V
  | none => .non
  | some n => .int (n : Int)
end L2

set_option Elab.async false
set_option linter.all false
set_option maxRecDepth 100000
set_option maxHeartbeats 4000000
namespace L2
open PySem PySem.Spec PyProof.Rows
/-! ## range with a step; list(range(..)) -/
def Its (lo c : Int) (n : Nat) : It := ⟨fun i _ => i < n, fun i H x H' => H' = H ∧ x = .int (lo + i * c), fun i _ => n ≤ i⟩
theorem turn_step {P : Program} {w : World} {K : PySem.W.Frag} {tg : Expr} (it : Addr) (lo c : Int) (n : Nat) : Turn P w K tg (Its lo c n) [it] it (fun i h => IsRangeIter h it (lo + (i : Nat) * c) ((n : Int) - (i : Nat)) c) where
  mem := by simp
  obj := fun i h st b hb => by
    have e : b = it := by simpa using hb
    subst e
    exact ⟨_, st, fun v z => by
      have z' : Data.fields _ = Data.cell v := z
      cases z'⟩
  keep := fun i h h' st k => k it (by simp) _ st
  item := by
    intro X hP hw hK hc i pins s σ H E I hf st hg
    subst hP hw hK
    obtain ⟨f0, f1, f2, f3, f4, f5⟩ := hf it (by simp)
    have W := Walks.range (prog := X.prog) (w := X.w) (I.ok.hd hc) it lo c n
    refine W.item i s _ _ hg st fun v h' tk hv st' kk => ?_
    obtain ⟨t, rfl⟩ := hv
    have I1 : Inv X pins σ H { s with heap := h', toks := tk } := I.turned (fun b o hb e => kk b o (by simpa using hb) e) f0 f1 f3 f4 f5
    exact ⟨_, rfl, go_of (s := { s with heap := h', toks := tk }) (n := "range_iterator") st' rfl rfl (by decide) ⟨.int (lo + i * c), H, I1, ⟨t, rfl⟩, ⟨rfl, rfl⟩, st', fun b hb => (hf b hb).1⟩⟩
  done := by
    intro X hP hw hK hc i pins s σ H E I hf st hg
    subst hP hw hK
    obtain ⟨f0, f1, f2, f3, f4, f5⟩ := hf it (by simp)
    exact wpAny_pyNext_range_end (I.ok.hd hc) st (by have : n ≤ i := hg; omega) fun h' eb => ⟨rfl, I.turned (t' := s.toks) (fun b o hb e => eb b o hb e) f0 f1 f3 f4 f5⟩
  self := fun _ _ _ _ _ st h => wpAny_pyIter_rangeiter st h
section
variable {X : Cx} {tg : Expr}
theorem range_it3 {pins : List (Addr × Obj)} {σ : St} {H : Hp} {s : Shared} {R : It → Hp → Prop} {E : Value → Shared → Prop} {lo hi c : Int} {n : Nat} {t u v : Tok} {tk : Nat} (I : Inv X pins σ H s) (hs : Builtin.Range.small lo hi c = true) (hn : Builtin.Range.rangeSize lo hi c = (n : Int))
    (q : R (Its lo c n) H) : wpAny (model X.prog X.w) X.A (pyIter (.ref s.heap.objs.size)) (PIE X pins σ tg R) E { s with heap := s.heap.push { cls := .type "range", data := .fields #[.int lo t, .int hi u, .int c v] }, toks := tk } := by
  refine wpAny_pyIter_range (IsRange.new ..) hs ?_
  have I1 : Inv X pins σ H { s with heap := s.heap.push { cls := .type "range", data := .fields #[.int lo t, .int hi u, .int c v] }, toks := tk } := I.kept fun b o e => Heap.get?_push_of_some _ e
  refine ⟨(s.heap.push { cls := .type "range", data := .fields #[.int lo t, .int hi u, .int c v] }).objs.size, [(s.heap.push { cls := .type "range", data := .fields #[.int lo t, .int hi u, .int c v] }).objs.size], _, _, H, rfl,
    I1.kept (t' := tk) fun b o e => Heap.get?_push_of_some _ e, turn_step _ lo c n, ?_, fun b hb => ?_, q⟩
  · have e1 : lo + ((0 : Nat) : Int) * c = lo := by simp
    have e2 : ((n : Nat) : Int) - ((0 : Nat) : Int) = Builtin.Range.rangeSize lo hi c := by rw [hn]; omega
    show IsRangeIter _ _ (lo + ((0 : Nat) : Int) * c) ((n : Int) - ((0 : Nat) : Int)) c
    rw [e1, e2]
    exact Heap.get?_push_size _ rfl
  · have e : b = (s.heap.push { cls := .type "range", data := .fields #[.int lo t, .int hi u, .int c v] }).objs.size := by simpa using hb
    subst e
    exact I1.fpOk (Nat.le_refl _) (I1.hok.fresh (Nat.le_refl _))
def Stp (lo hi c : Int) (n : Nat) : Prop := c ≠ 0 ∧ Builtin.divisionGoesByPylong (hi - lo) c = false ∧ Builtin.Range.small lo hi c = true ∧ Builtin.Range.rangeSize lo hi c = (n : Int)
def iRng3 (ta : TA) : TI := fun σ H R => ta σ H fun vs H1 => ∃ (i j c : Int) (n : Nat), vs = [.int i, .int j, .int c] ∧ Stp i j c n ∧ R (Its i c n) H1
theorem pi_range3 {a b d : Expr} {ta : TA} {p pos : Pos} (hg : Gl X "range") (hm : X.mg "range" = none) (ha : PA X [a, b, d] ta) (hs : starEach [a, b, d] X.env = (false, eval a X.env) :: starEach [b, d] X.env := by rfl) (hs2 : (backTo pos (starEach [b, d] X.env)).any (·.1) = false := by rfl) :
    PI X tg (.Call (.Name "range" p) [a, b, d] [] pos) (iRng3 ta) := by
  intro pins s σ H R I h
  refine Call_ (ld_blt I hg hm boot_range (PyProof.Rows.callWith_type1 (thn (ha pos pins s σ H _ I h) fun us s1 ⟨vs, H1, I1, r1, q1⟩ => ?_) hs hs2))
  obtain ⟨i, j, c, n, e, ⟨q1, q2, q3, q4⟩, q⟩ := q1
  subst e
  cases r1 with
  | cons r rr =>
    cases rr with
    | cons r' rr =>
      cases rr with
      | cons r'' rr =>
        cases rr
        obtain ⟨t, rfl⟩ := r
        obtain ⟨t', rfl⟩ := r'
        obtain ⟨t'', rfl⟩ := r''
        exact call_range_3 q1 (range_it3 I1 q3 q4 q) (.inl q2)
theorem for_step {lo c : Int} {n : Nat} {g : TG} {tb : TS} {D : Ends} {σ : St} {H : Hp} (Pv : Nat → St → Hp → Prop) (h0 : Pv 0 σ H)
    (hs : ∀ i σ H, i < n → Pv i σ H → g (.int (lo + i * c)) σ H fun σ2 H2 => tb { D with nx := Pv (i + 1), ct := Pv (i + 1), bk := D.nx } σ2 H2) (hd : ∀ σ H, Pv n σ H → D.nx σ H) :
    ∃ W : Nat → Nat → St → Hp → Prop, (∃ m, W 0 m σ H) ∧ ∀ i m σ H, W i m σ H →
      ((Its lo c n).stop i H ∧ D.nx σ H) ∨ ((Its lo c n).go i H ∧ ∃ N : St → Hp → Prop, (∀ σ' H', N σ' H' → ∃ m', m' < m ∧ W (i + 1) m' σ' H') ∧ ∀ x H', (Its lo c n).yld i H x H' → g x σ H' fun σ2 H2 => tb { D with nx := N, ct := N, bk := D.nx } σ2 H2) := by
  refine ⟨fun i m σ H => m = n - i ∧ i ≤ n ∧ Pv i σ H, ⟨n, by simp, Nat.zero_le _, h0⟩, ?_⟩
  rintro i m σ H ⟨rfl, hi, p⟩
  by_cases hlt : i < n
  · refine .inr ⟨hlt, Pv (i + 1), fun σ' H' p' => ⟨n - (i + 1), by omega, rfl, hlt, p'⟩, fun x H' y => ?_⟩
    obtain ⟨e, y⟩ := y
    subst e y
    exact hs i σ _ hlt p
  · have e : i = n := by omega
    subst e
    exact .inl ⟨Nat.le_refl _, hd σ H p⟩
/-! a comprehension over a range -/
/-! the range as an object -/
end
theorem size_down (i j : Int) : Builtin.Range.rangeSize i j (-1) = ((i - j).toNat : Int) := by
  unfold Builtin.Range.rangeSize
  rw [if_neg (by decide), show -(-1 : Int) = 1 by decide, Int.ediv_one]
  split <;> omega
theorem small_down {i j : Int} (h1 : -100000 ≤ i) (h2 : i ≤ 100000) (h3 : -100000 ≤ j) (h4 : j ≤ 100000) : Builtin.Range.small i j (-1) = true := by
  unfold Builtin.Range.small
  rw [size_down, if_neg (by decide)]
  simp only [Builtin.Range.rangeFitsLong, Bool.and_eq_true, Bool.or_eq_true, decide_eq_true_eq, beq_iff_eq]
  omega
theorem Stp.down {i j : Int} (h1 : -100000 ≤ i) (h2 : i ≤ 100000) (h3 : -100000 ≤ j) (h4 : j ≤ 100000) : Stp i j (-1) (i - j).toNat :=
  ⟨by decide, PyProof.noPylong_small (by omega), small_down h1 h2 h3 h4, size_down i j⟩
end L2

set_option Elab.async false
set_option linter.all false
set_option maxRecDepth 100000
set_option maxHeartbeats 4000000
namespace L2
/-! ## brackets of one kind: the walk and the heap -/
/-! ## the three kinds -/
end L2

set_option Elab.async false
set_option linter.all false
set_option maxRecDepth 100000
set_option maxHeartbeats 4000000
namespace L2
open PySem PySem.Spec PyProof.Rows
/-! ### lists of pairs as tables -/
section
variable {κ : Type} [DecidableEq κ]
def valV (kvs : List (κ × V)) (k : κ) : Option V := (kvs.find? fun kv => decide (kv.1 = k)).map (·.2)
def putK (kvs : List (κ × V)) (k : κ) (v : V) : List (κ × V) :=
  if (kvs.any fun kv => decide (kv.1 = k)) = true then kvs.map (fun kv => if kv.1 = k then (kv.1, v) else kv) else kvs ++ [(k, v)]
theorem valV_pos {p : κ × V} {r : List (κ × V)} {k : κ} (e : p.1 = k) : valV (p :: r) k = some p.2 := by simp [valV, List.find?_cons, e]
theorem valV_neg {p : κ × V} {r : List (κ × V)} {k : κ} (e : ¬ p.1 = k) : valV (p :: r) k = valV r k := by simp [valV, List.find?_cons, e]
theorem valV_any (k : κ) : ∀ kvs : List (κ × V), (kvs.any fun kv => decide (kv.1 = k)) = (valV kvs k).isSome
  | [] => rfl
  | p :: r => by
    rw [List.any_cons]
    by_cases e : p.1 = k
    · simp only [valV_pos e, decide_eq_true e, Bool.true_or, Option.isSome_some]
    · rw [valV_neg e, decide_eq_false e, Bool.false_or]; exact valV_any k r
theorem valV_map (k j : κ) (y : V) : ∀ kvs : List (κ × V), valV (kvs.map fun kv => if kv.1 = k then (kv.1, y) else kv) j = (valV kvs j).map fun x => if j = k then y else x
  | [] => rfl
  | p :: r => by
    have ih := valV_map k j y r
    rw [List.map_cons]
    by_cases h : p.1 = k
    · rw [if_pos h]
      by_cases e : p.1 = j
      · rw [valV_pos (p := (p.1, y)) e, valV_pos e, Option.map_some, if_pos (e.symm.trans h)]
      · rw [valV_neg (p := (p.1, y)) e, valV_neg e, ih]
    · rw [if_neg h]
      by_cases e : p.1 = j
      · rw [valV_pos (p := p) e, valV_pos e, Option.map_some, if_neg (fun z => h (e.trans z))]
      · rw [valV_neg (p := p) e, valV_neg e, ih]
theorem valV_snoc (k j : κ) (y : V) : ∀ kvs : List (κ × V), valV kvs k = none → valV (kvs ++ [(k, y)]) j = if j = k then some y else valV kvs j
  | [], _ => by
    by_cases e : k = j
    · rw [if_pos e.symm]; exact valV_pos (p := (k, y)) e
    · rw [if_neg (fun z => e z.symm)]; exact valV_neg (p := (k, y)) e
  | p :: r, hn => by
    rw [List.cons_append]
    have hk : ¬ p.1 = k := fun z => by rw [valV_pos z] at hn; cases hn
    rw [valV_neg hk] at hn
    have ih := valV_snoc k j y r hn
    by_cases e : p.1 = j
    · rw [valV_pos e, valV_pos e, if_neg (fun z => hk (e.trans z))]
    · rw [valV_neg e, valV_neg e, ih]
theorem valV_put (kvs : List (κ × V)) (k j : κ) (y : V) : valV (putK kvs k y) j = if j = k then some y else valV kvs j := by
  unfold putK
  by_cases a : (kvs.any fun kv => decide (kv.1 = k)) = true
  · rw [if_pos a, valV_map]
    rw [valV_any] at a
    by_cases e : j = k
    · obtain ⟨x, hx⟩ := Option.isSome_iff_exists.mp a
      rw [if_pos e, e, hx, Option.map_some, if_pos rfl]
    · rw [if_neg e]
      cases valV kvs j with
      | none => rfl
      | some x => rw [Option.map_some, if_neg e]
  · rw [if_neg a]
    refine valV_snoc k j y kvs ?_
    rw [valV_any] at a
    cases q : valV kvs k with
    | none => rfl
    | some x => rw [q] at a; exact (a rfl).elim
theorem length_putK (kvs : List (κ × V)) (k : κ) (v : V) : (putK kvs k v).length ≤ kvs.length + 1 := by
  unfold putK
  split
  · rw [List.length_map]; omega
  · rw [List.length_append, List.length_cons, List.length_nil]; omega
theorem RelO.isSome_eq {o : Option V} {u : Option Value} (r : RelO o u) : o.isSome = u.isSome := by
  cases o with
  | none => cases u with
    | none => rfl
    | some _ => exact (show False from r).elim
  | some _ => cases u with
    | none => exact (show False from r).elim
    | some _ => rfl
theorem KV.val {kvs : List (κ × V)} {vs : List (κ × Value)} (r : KV kvs vs) (k : κ) : RelO (valV kvs k) (valueAt vs k) := by
  unfold KV at r
  induction r with
  | nil => exact True.intro
  | @cons p q ps qs h t ih =>
    obtain ⟨h1, h2⟩ := h
    by_cases e : p.1 = k
    · have e' : q.1 = k := h1.symm.trans e
      have b : valueAt (q :: qs) k = some q.2 := by simp [valueAt, List.find?_cons, e']
      rw [valV_pos e, b]; exact h2
    · have e' : ¬ q.1 = k := fun z => e (h1.trans z)
      have b : valueAt (q :: qs) k = valueAt qs k := by simp [valueAt, List.find?_cons, e']
      rw [valV_neg e, b]; exact ih
theorem KV.any {kvs : List (κ × V)} {vs : List (κ × Value)} (r : KV kvs vs) (k : κ) : (kvs.any fun kv => decide (kv.1 = k)) = vs.any fun kv => decide (kv.1 = k) := by
  unfold KV at r
  induction r with
  | nil => rfl
  | cons h t ih => rw [List.any_cons, List.any_cons, ih, h.1]
theorem KV.repl {kvs : List (κ × V)} {vs : List (κ × Value)} (r : KV kvs vs) (k : κ) {y : V} {u : Value} (ry : RelV y u) :
    KV (kvs.map fun kv => if kv.1 = k then (kv.1, y) else kv) (vs.map fun kv => if kv.1 = k then (kv.1, u) else kv) := by
  unfold KV at r ⊢
  induction r with
  | nil => exact .nil
  | @cons p q ps qs h t ih =>
    rw [List.map_cons, List.map_cons]
    refine .cons ?_ ih
    obtain ⟨h1, h2⟩ := h
    by_cases e : p.1 = k
    · rw [if_pos e, if_pos (h1.symm.trans e)]; exact ⟨h1, ry⟩
    · rw [if_neg e, if_neg (fun z => e (h1.trans z))]; exact ⟨h1, h2⟩
theorem KV.put {kvs : List (κ × V)} {vs : List (κ × Value)} (r : KV kvs vs) (k : κ) {y : V} {u : Value} (ry : RelV y u) : KV (putK kvs k y) (stored vs k u) := by
  unfold putK stored
  rw [r.any k]
  by_cases e : (vs.any fun kv => decide (kv.1 = k)) = true
  · rw [if_pos e, if_pos e]; exact r.repl k ry
  · rw [if_neg e, if_neg e]; exact Paired.snoc r ⟨rfl, ry⟩
theorem KV.length {kvs : List (κ × V)} {vs : List (κ × Value)} (r : KV kvs vs) : kvs.length = vs.length := Paired.length r
end


/-! ### a tracked dict, its keys ints and texts or tuples of these -/
theorem kV_is {P : Program} {w : World} {k : Key} {u : Value} (r : RelV (kV k) u) : (mixKind P w).is k u = true := by
  cases k with
  | inl i => obtain ⟨t, e⟩ := (show ∃ t, u = Value.int i t from r); subst e; exact mixKind_int P w i t
  | inr x => obtain ⟨t, e⟩ := (show ∃ t, u = Value.str x t from r); subst e; exact mixKind_str P w x t
theorem items_are {P : Program} {w : World} : ∀ {ks : List Key} {us : List Value}, Vals (ks.map kV) us → ItemsAre (mixKind P w) ks us
  | [], _, r => by rw [List.map_nil] at r; cases r; exact .nil
  | k :: ks, _, r => by
    rw [List.map_cons] at r
    cases r with
    | cons h t => exact .cons (kV_is h) (items_are t)

abbrev KT (H : Hp) : List (List Key × V) → List (List Key × Addr × Value) → Prop := Paired fun p q => p.1 = q.1 ∧ H q.2.1 = some (.tup (p.1.map kV)) ∧ RelV p.2 q.2.2
theorem KT.val {H : Hp} {kvs : List (List Key × V)} {xs : List (List Key × Addr × Value)} (r : KT H kvs xs) (k : List Key) : RelO (valV kvs k) ((atKey xs k).map (·.2)) := by
  induction r with
  | nil => exact True.intro
  | @cons p q ps qs h t ih =>
    obtain ⟨h1, _, h2⟩ := h
    by_cases e : p.1 = k
    · have e' : q.1 = k := h1.symm.trans e
      have b : atKey (q :: qs) k = some q.2 := by simp [atKey, List.find?_cons, e']
      rw [valV_pos e, b]; exact h2
    · have e' : ¬ q.1 = k := fun z => e (h1.trans z)
      have b : atKey (q :: qs) k = atKey qs k := by simp [atKey, List.find?_cons, e']
      rw [valV_neg e, b]; exact ih
theorem KT.repl {H : Hp} {kvs : List (List Key × V)} {xs : List (List Key × Addr × Value)} (r : KT H kvs xs) (k : List Key) {y : V} {u : Value} (ry : RelV y u) :
    KT H (kvs.map fun kv => if kv.1 = k then (kv.1, y) else kv) (xs.map (putAt k u)) := by
  induction r with
  | nil => exact .nil
  | @cons p q ps qs h t ih =>
    rw [List.map_cons, List.map_cons]
    refine .cons ?_ ih
    obtain ⟨h1, h2, h3⟩ := h
    unfold putAt
    by_cases e : p.1 = k
    · rw [if_pos e, if_pos (h1.symm.trans e)]; exact ⟨h1, h2, ry⟩
    · rw [if_neg e, if_neg (fun z => e (h1.trans z))]; exact ⟨h1, h2, h3⟩
theorem KT.put {H : Hp} {kvs : List (List Key × V)} {xs : List (List Key × Addr × Value)} (r : KT H kvs xs) (k : List Key) {b : Addr} {y : V} {u : Value} (hb : H b = some (.tup (k.map kV))) (ry : RelV y u) :
    KT H (putK kvs k y) (storedH xs k b u) := by
  have e : (kvs.any fun kv => decide (kv.1 = k)) = (atKey xs k).isSome := by
    rw [valV_any, (r.val k).isSome_eq, Option.isSome_map]
  unfold putK storedH
  rw [e]
  by_cases q : (atKey xs k).isSome = true
  · rw [if_pos q, if_pos q]; exact r.repl k ry
  · rw [if_neg q, if_neg q]; exact Paired.snoc r ⟨rfl, hb, ry⟩
theorem KT.keeps {H H' : Hp} {kvs : List (List Key × V)} {xs : List (List Key × Addr × Value)} (r : KT H kvs xs) (ht : ∀ b ys, H b = some (.tup ys) → H' b = some (.tup ys)) : KT H' kvs xs :=
  Paired.mapP r fun _ _ z => ⟨z.1, ht _ _ z.2.1, z.2.2⟩

section
variable {P : Program} {w : World} {H : Hp} {h : Heap} {a : Addr}
theorem rd_of {u : HO} (ok : HOk P w H h) (e : Rd H a u) : ObjOk P w H h a u := e.ok ok
theorem dk_rd {kvs : List (Key × V)} (ok : HOk P w H h) (e : Rd H a (.dK kvs)) : kvs.length ≤ sizeLine ∧ (a == sysModules) = false ∧ ∃ vs, KV kvs vs ∧ h.DictOf (mixKind P w) a vs :=
  show ObjOk P w H h a (.dK kvs) from rd_of ok e
theorem dk_of {kvs : List (Key × V)} (ok : HOk P w H h) (e : H a = some (.dK kvs)) : kvs.length ≤ sizeLine ∧ (a == sysModules) = false ∧ ∃ vs, KV kvs vs ∧ h.DictOf (mixKind P w) a vs := dk_rd ok (.inl e)
theorem key_of {ks : List Key} (ok : HOk P w H h) (e : H a = some (.tup (ks.map kV))) : (tupleKind (mixKind P w)).is h ks a := by
  obtain ⟨_, its, r, o, h1, h2, n, h3⟩ := (show ObjOk P w H h a (.tup (ks.map kV)) from ok a _ e)
  exact ⟨o, its.toArray, n, h1, h2, h3, by simpa using items_are r⟩
theorem dt_rd {kvs : List (List Key × V)} (ok : HOk P w H h) (e : Rd H a (.dT kvs)) : kvs.length ≤ sizeLine ∧ (a == sysModules) = false ∧
    ∃ xs, KT H kvs xs ∧ h.DictOfH (tupleKind (mixKind P w)) a xs := by
  obtain ⟨z, y, xs, r, o, es, ep, h1, h2, h3, h4, h5⟩ := (show ObjOk P w H h a (.dT kvs) from rd_of ok e)
  refine ⟨z, y, xs, r, o, es, ep, h1, h2, h3, h4, fun x hx => ?_, h5⟩
  have all : ∀ {l : List (List Key × V)} {m : List (List Key × Addr × Value)}, KT H l m → ∀ x ∈ m, (tupleKind (mixKind P w)).is h x.1 x.2.1 := by
    intro l m q
    induction q with
    | nil => intro x hx; exact nomatch hx
    | @cons p q ps qs hq t ih =>
      intro x hx
      rcases List.mem_cons.mp hx with e | hx
      · subst e
        exact key_of ok (by rw [← hq.1]; exact hq.2.1)
      · exact ih x hx
  exact all r x hx
theorem dt_of {kvs : List (List Key × V)} (ok : HOk P w H h) (e : H a = some (.dT kvs)) : kvs.length ≤ sizeLine ∧ (a == sysModules) = false ∧
    ∃ xs, KT H kvs xs ∧ h.DictOfH (tupleKind (mixKind P w)) a xs := dt_rd ok (.inl e)
end

def DGet (H : Hp) (a : Addr) (y : V) (r : Option V) : Prop :=
  (∃ kvs k, Rd H a (.dK kvs) ∧ y = kV k ∧ r = valV kvs k) ∨ ∃ kvs k b, Rd H a (.dT kvs) ∧ y = .ref b ∧ H b = some (.tup (k.map kV)) ∧ r = valV kvs k
def DPut (H : Hp) (a : Addr) (y v : V) (H' : Hp) : Prop :=
  (∃ kvs k, H a = some (.dK kvs) ∧ y = kV k ∧ kvs.length < sizeLine ∧ H' = upd H a (.dK (putK kvs k v))) ∨
  ∃ kvs k b, H a = some (.dT kvs) ∧ y = .ref b ∧ H b = some (.tup (k.map kV)) ∧ kvs.length < sizeLine ∧ H' = upd H a (.dT (putK kvs k v))
theorem DGet.k {H : Hp} {a : Addr} {kvs : List (Key × V)} {k : Key} (e : H a = some (.dK kvs)) : DGet H a (kV k) (valV kvs k) := .inl ⟨kvs, k, .inl e, rfl, rfl⟩
theorem DPut.k {H : Hp} {a : Addr} {kvs : List (Key × V)} {k : Key} {v : V} (e : H a = some (.dK kvs)) (hl : kvs.length < sizeLine) : DPut H a (kV k) v (upd H a (.dK (putK kvs k v))) := .inl ⟨kvs, k, e, rfl, hl, rfl⟩
section
variable {X : Cx} {pins : List (Addr × Obj)} {σ : St} {H : Hp} {s : Shared} {a : Addr} {y v : V} {u r : Value} {o : Option V} {A : Around} {E : Value → Shared → Prop}

theorem Inv.big (I : Inv X pins σ H s) : sysModules < s.heap.objs.size := by
  have h : mainGlobals < s.heap.objs.size := (I.mod.glob.keeps I.bk).lt
  exact Nat.lt_trans (by decide) h

theorem d_getItem {Q : Value → Shared → Prop} (hu : A.units + 1 < cLine) (I : Inv X pins σ H s) (g : DGet H a y (some v)) (ry : RelV y u) (h : ∀ w' s', Inv X pins σ H s' → RelV v w' → Q w' s') :
    wpAny (model X.prog X.w) A (getItem (.ref a) u) Q E s := by
  rcases g with ⟨kvs, k, e, ey, l⟩ | ⟨kvs, k, b, e, ey, eb, l⟩
  · subst ey
    obtain ⟨z, hd, vs, rel, dd⟩ := dk_rd I.hok e
    obtain ⟨w', hw, rw'⟩ := RelO.some_of (v := v) (o := valueAt vs k) (by rw [l]; exact rel.val k)
    exact wpAny_getItem_of (kV_is ry) dd.mapOf hw (h w' _ (I.tok _) rw')
  · subst ey
    cases (show u = Value.ref b from ry)
    obtain ⟨z, hd, xs, rel, dd⟩ := dt_rd I.hok e
    obtain ⟨w', hw, rw'⟩ := RelO.some_of (v := v) (o := (atKey xs k).map (·.2)) (by rw [l]; exact rel.val k)
    obtain ⟨p, hp, hp2⟩ := Option.map_eq_some_iff.mp hw
    refine wpAny_getItem_heap (tupleKind_room_in1 hu) (key_of I.hok eb) dd hp ?_
    rw [hp2]
    exact h w' _ (I.tok _) rw'
theorem d_notIn {Q : Value → Shared → Prop} (hu : A.units + 1 < cLine) (I : Inv X pins σ H s) (g : DGet H a y o) (ry : RelV y u) (h : ∀ s', Inv X pins σ H s' → Q (.bool (!o.isSome)) s') :
    wpAny (model X.prog X.w) A (compareOp .NotIn u (.ref a)) Q E s := by
  rcases g with ⟨kvs, k, e, ey, l⟩ | ⟨kvs, k, b, e, ey, eb, l⟩
  · subst ey
    obtain ⟨z, hd, vs, rel, dd⟩ := dk_rd I.hok e
    refine wpAny_notIn_of (kV_is ry) hd dd.mapOf ?_
    rw [← (rel.val k).isSome_eq, ← l]
    exact h _ (I.tok _)
  · subst ey
    cases (show u = Value.ref b from ry)
    obtain ⟨z, hd, xs, rel, dd⟩ := dt_rd I.hok e
    refine wpAny_notIn_heap (tupleKind_room_in1 hu) (key_of I.hok eb) hd dd ?_
    have q := (rel.val k).isSome_eq
    rw [Option.isSome_map] at q
    rw [← q, ← l]
    exact h _ (I.tok _)
theorem d_write {h' : Heap} {t' : Nat} {ob : HO} (I : Inv X pins σ H s) (mu : Mut (H a)) (hs : Heap.SameBut a s.heap h') (he : ∃ q, h'.get? a = some q) (new : ObjOk X.prog X.w (upd H a ob) h' a ob) :
    Inv X pins σ (upd H a ob) { s with heap := h', toks := t' } :=
  I.write (x := a) (e := a) mu (.inl rfl) (fun b q hb z => (hs.2 b hb).trans z) he new
theorem dk_new {P : Program} {w : World} {H' : Hp} {h' : Heap} {kvs : List (Key × V)} {vs : List (Key × Value)} (z : kvs.length ≤ sizeLine) (hd : (a == sysModules) = false) (rel : KV kvs vs) (dd : h'.DictOf (mixKind P w) a vs) :
    ObjOk P w H' h' a (.dK kvs) := ⟨z, hd, vs, rel, dd⟩
theorem d_setItem {H' : Hp} {Q : Unit → Shared → Prop} (hu : A.units + 1 < cLine) (I : Inv X pins σ H s) (g : DPut H a y v H') (ry : RelV y u) (rv : RelV v r) (h : ∀ s', Inv X pins σ H' s' → Q () s') :
    wpAny (model X.prog X.w) A (setItem (.ref a) u r) Q E s := by
  rcases g with ⟨kvs, k, e, ey, l, eH⟩ | ⟨kvs, k, b, e, ey, eb, l, eH⟩
  · subst ey eH
    obtain ⟨z, hd, vs, rel, dd⟩ := dk_of I.hok e
    have hz : vs.length ≤ sizeLine := by rw [← rel.length]; exact z
    have hl : (putK kvs k v).length ≤ sizeLine := by have := length_putK kvs k v; omega
    refine wpAny_setItem_pairs (hsz := hz) (kV_is ry) dd fun h' dd' hs => h _ ?_
    have he : ∃ q, h'.get? a = some q := let ⟨q, _, _, hq, _⟩ := dd'; ⟨q, hq⟩
    exact d_write I (by rw [e]; exact True.intro) hs he (dk_new hl hd (rel.put k rv) dd')
  · subst ey eH
    cases (show u = Value.ref b from ry)
    obtain ⟨z, hd, xs, rel, dd⟩ := dt_of I.hok e
    have hz : xs.length ≤ sizeLine := by rw [← Paired.length rel]; exact z
    have hl : (putK kvs k v).length ≤ sizeLine := by have := length_putK kvs k v; omega
    refine wpAny_setItem_heap (hsz := hz) (tupleKind_room_in1 hu) (key_of I.hok eb) dd fun h' dd' hs => h _ ?_
    obtain ⟨q, es, ep, hq, h2, h3, h4, _, h5⟩ := dd'
    refine d_write I (by rw [e]; exact True.intro) hs ⟨q, hq⟩ ⟨hl, hd, _, (rel.put k eb rv).keeps fun c ys ec => ?_, q, es, ep, hq, h2, h3, h4, h5⟩
    rw [upd_ne (ne_of ec e (fun z => nomatch z))]
    exact ec
end

section
variable {X : Cx} {pins : List (Addr × Obj)} {σ : St} {H : Hp} {s : Shared} {a : Addr} {kvs : List (Key × V)} {k : Key} {u : Value} {A : Around} {E : Value → Shared → Prop}
end


/-! ### readings and rules -/
def NoSl (i : Expr) : Prop := ∀ ov iv, subscripted i false ov iv = operate [ov, iv] (getItem ov iv)
theorem subD_of {prog : Program} {w : World} {A : Around} {E : Value → Shared → Prop} {s : Shared} {env : Env} {value slice : Expr} {pos : Pos} {T id : String} {Q : Value → Shared → Prop}
    (hl : typeLookup (.type T) "__getitem__" = pure (some (.builtin id))) (hs : NoSl slice)
    (h : wpAny (model prog w) A (eval value env) (fun o s₁ => wpAny (model prog w) A (eval slice env) (fun i s₂ => s₂.TypeIs o T ∧ wpAny (model prog w) A (getItem o i) Q E s₂) E s₁) E s) :
    wpAny (model prog w) A (eval (.Subscript value slice pos) env) Q E s := by
  refine Subscript_ (wpAny_mono h (fun o s₁ h₁ => wpAny_mono h₁ (fun i s₂ h₂ => ?_) fun _ _ x => x) fun _ _ x => x)
  obtain ⟨hT, h₂⟩ := h₂
  unfold subscriptTail
  refine wpAny_bind ?_
  rw [getitemInPython_of_ne hT.not_modules]
  refine wpAny_bind (wpAny_specialOf hT hl ?_)
  have fin : wpAny (model prog w) A (subscripted slice false o i) (fun r s₃ => wpAny (model prog w) A (letTemporaryGo value o r >>= fun _ => pure r) Q E s₃) E s₂ := by
    rw [hs o i]
    exact wpAny_operating (wpAny_mono h₂ (fun r s₃ h₃ => wpAny_bind (wpAny_letTemporaryGo (wpAny_pure h₃))) fun _ _ x => x)
  first
    | exact wpAny_pure (wpAny_bind fin)
    | exact wpAny_bind (wpAny_pure (wpAny_bind fin))
    | exact wpAny_bind fin

theorem dict_typeIs {X : Cx} {pins : List (Addr × Obj)} {σ : St} {H : Hp} {s : Shared} {a : Addr} {y : V} {o : Option V} (I : Inv X pins σ H s) (g : DGet H a y o) : s.TypeIs (.ref a) "dict" := by
  rcases g with ⟨kvs, k, e, _, _⟩ | ⟨kvs, k, b, e, _, _, _⟩
  · obtain ⟨_, _, vs, _, dd⟩ := dk_rd I.hok e
    exact dd.typeIs
  · obtain ⟨_, _, xs, _, dd⟩ := dt_rd I.hok e
    exact dd.typeIs
def tDGet (td ty : TE) : TE := fun σ H Q => td σ H fun x H1 => ty σ H1 fun y H2 => ∃ a v, x = .ref a ∧ DGet H2 a y (some v) ∧ Q v H2
def tDNotIn (ty td : TE) : TE := fun σ H Q => ty σ H fun y H1 => td σ H1 fun x H2 => ∃ a o, x = .ref a ∧ DGet H2 a y o ∧ Q (.bl (!o.isSome)) H2
def sDPut (td ty tv : TE) : TS := fun D σ H => tv σ H fun v H1 => td σ H1 fun x H2 => ty σ H2 fun y H3 => ∃ a H4, x = .ref a ∧ DPut H3 a y v H4 ∧ D.nx σ H4
section
variable {X : Cx} {o i e value : Expr} {pos pos' tpos : Pos} {td ty tv : TE}
theorem pe_dget (hu : X.A.units + 1 < cLine) (ho : PE X o td) (hi : PE X i ty) (hs : NoSl i) : PE X (.Subscript o i pos) (tDGet td ty) := by
  intro pins s σ H Q I h
  refine subD_of PySem.F.slot_dict_getitem.lookup hs (thn (ho pins s σ H _ I h) fun u s1 ⟨x, H1, I1, rx, q1⟩ => thn (hi pins s1 σ H1 _ I1 q1) fun iv s2 ⟨y, H2, I2, ry, a, v, ex, g, q2⟩ => ?_)
  subst ex
  obtain rfl : u = Value.ref a := rx
  exact ⟨dict_typeIs I2 g, d_getItem hu I2 g ry fun w' s3 I3 rw' => ⟨v, H2, I3, rw', q2⟩⟩
theorem pc_dnotin (hu : X.A.units + 1 < cLine) (hi : PE X i ty) (ho : PE X o td) : PC X .NotIn i o (tDNotIn ty td) := by
  intro pins s σ H Q I h
  refine thn (hi pins s σ H _ I h) fun iv s1 ⟨y, H1, I1, ry, q1⟩ => thn (ho pins s1 σ H1 _ I1 q1) fun u s2 ⟨x, H2, I2, rx, a, ov, ex, g, q2⟩ => ?_
  subst ex
  obtain rfl : u = Value.ref a := rx
  exact d_notIn hu I2 g ry fun s3 I3 => ⟨.bl (!ov.isSome), H2, I3, rfl, q2⟩
theorem ps_dput (hu : X.A.units + 1 < cLine) (ho : PE X o td) (hi : PE X i ty) (hv : PE X value tv) (hs : swapsWith value (some (.Subscript o i pos')) pos.line X.env = pure false) :
    PS X (.Assign [.Subscript o i pos'] value pos) (sDPut td ty tv) := by
  intro pins s σ H D I h
  refine wpAny_Assign_Subscript (thn (hv pins s σ H _ I h) fun r s1 ⟨v, H1, I1, rv, q1⟩ => thn (ho pins s1 σ H1 _ I1 q1) fun u s2 ⟨x, H2, I2, rx, q2⟩ => thn (hi pins s2 σ H2 _ I2 q2) fun iv s3 ⟨y, H3, I3, ry, a, H4, ex, g, q3⟩ => ?_) hs
  subst ex
  obtain rfl : u = Value.ref a := rx
  exact d_setItem hu I3 g ry rv fun s4 I4 => ⟨σ, H4, I4, q3⟩
end


/-! ### displays -/
theorem dk_empty {P : Program} {w : World} {H : Hp} (h : Heap) (hb : sysModules < h.objs.size) : ObjOk P w H (h.push { cls := .type "dict", data := .dict #[] }) h.objs.size (.dK []) :=
  ⟨Nat.zero_le _, beq_eq_false_iff_ne.mpr (Ne.symm (Nat.ne_of_lt hb)), [], .nil, Heap.DictOf.new h⟩
def tDNewK : TE := fun _ H Q => ∀ p, H p = none → Q (.ref p) (upd H p (.dK []))
section
variable {X : Cx} {pos : Pos}
theorem pe_dnewK : PE X (.Dict [] [] pos) tDNewK := fun pins s σ H Q I h =>
  wpAny_Dict_empty ⟨.ref s.heap.objs.size, _, I.laid (a := s.heap.objs.size) (o := .dK []) (t' := s.toks) (fun _ _ q => Heap.get?_push_of_some _ q) (Nat.le_refl _) (dk_empty s.heap I.big), rfl, h _ (I.hok.fresh (Nat.le_refl _))⟩
end

def tPairs : List (TE × TE) → St → Hp → (List (V × V) → Hp → Prop) → Prop
  | [], _, H, Q => Q [] H
  | (tk, tv) :: r, σ, H, Q => tk σ H fun x H1 => tv σ H1 fun y H2 => tPairs r σ H2 fun ps H3 => Q ((x, y) :: ps) H3
abbrev VV : List (V × V) → List (Value × Value) → Prop := Paired fun p q => RelV p.1 q.1 ∧ RelV p.2 q.2
def PPs (X : Cx) (pos : Pos) (keys : List (Option Expr)) (values : List Expr) (trs : List (TE × TE)) : Prop :=
  ∀ (pins : List (Addr × Obj)) (s : Shared) (σ : St) (H : Hp) (Q : List (V × V) → Hp → Prop), Inv X pins σ H s → tPairs trs σ H Q →
    wpAny (model X.prog X.w) X.A (evalPairs (pairTrees keys values X.env pos)) (fun vs s' => ∃ ps H', Inv X pins σ H' s' ∧ VV ps vs ∧ Q ps H') X.xe s
theorem pps_nil {X : Cx} {pos : Pos} : PPs X pos [] [] [] := fun pins s σ H Q I h => pairTrees_nil_walk ⟨[], H, I, .nil, h⟩
theorem pps_cons {X : Cx} {pos : Pos} {k v : Expr} {ks : List (Option Expr)} {vs : List Expr} {tk tv : TE} {trs : List (TE × TE)} (hk : PE X k tk) (hv : PE X v tv) (hr : PPs X pos ks vs trs) :
    PPs X pos (some k :: ks) (v :: vs) ((tk, tv) :: trs) := fun pins s σ H Q I h =>
  pairTrees_cons_walk (thn (hk pins s σ H _ I h) fun u s1 ⟨x, H1, I1, rx, q1⟩ => thn (hv pins s1 σ H1 _ I1 q1) fun w2 s2 ⟨y, H2, I2, ry, q2⟩ =>
    thn (hr pins s2 σ H2 _ I2 q2) fun ws s3 ⟨ps, H3, I3, rel, q3⟩ => ⟨(x, y) :: ps, H3, I3, .cons ⟨rx, ry⟩ rel, q3⟩)

def mergeK (kvs more : List (Key × V)) : List (Key × V) := more.foldl (fun acc kv => putK acc kv.1 kv.2) kvs
theorem KV.merge : ∀ {more : List (Key × V)} {rs : List (Key × Value)} {kvs : List (Key × V)} {vs : List (Key × Value)}, KV more rs → KV kvs vs → KV (mergeK kvs more) (merged vs rs) := by
  intro more rs kvs vs r
  unfold KV at r
  induction r generalizing kvs vs with
  | nil => intro q; exact q
  | @cons p q ps qs h t ih =>
    intro r0
    have e : KV (putK kvs p.1 p.2) (stored vs q.1 q.2) := by
      have := r0.put p.1 h.2
      rw [← h.1]; exact this
    exact ih e
theorem length_mergeK : ∀ (more kvs : List (Key × V)), (mergeK kvs more).length ≤ kvs.length + more.length
  | [], kvs => by show kvs.length ≤ kvs.length + 0; omega
  | p :: r, kvs => by
    have h1 := length_mergeK r (putK kvs p.1 p.2)
    have h2 := length_putK kvs p.1 p.2
    show (mergeK (putK kvs p.1 p.2) r).length ≤ _
    rw [List.length_cons]; omega
theorem carries_of {P : Program} {w : World} : ∀ {kvs : List (Key × V)} {ws : List (Value × Value)}, VV (kvs.map fun kv => (kV kv.1, kv.2)) ws → ∃ rs, Carries (mixKind P w) ws rs ∧ KV kvs rs
  | [], _, r => by rw [List.map_nil] at r; cases r; exact ⟨[], True.intro, .nil⟩
  | p :: kvs, _, r => by
    rw [List.map_cons] at r
    cases r with
    | @cons a b as bs h t =>
      obtain ⟨rs, c, q⟩ := carries_of (P := P) (w := w) t
      obtain ⟨b1, b2⟩ := b
      exact ⟨(p.1, b2) :: rs, ⟨kV_is h.1, rfl, c⟩, .cons ⟨rfl, h.2⟩ q⟩
def tDisp (trs : List (TE × TE)) : TE := fun σ H Q => ∀ p, H p = none → tPairs trs σ (upd H p (.dK [])) fun ps H2 => H2 p = some (.dK []) ∧ ∃ kvs : List (Key × V), ps = kvs.map (fun kv => (kV kv.1, kv.2)) ∧ kvs.length ≤ 15 ∧ Q (.ref p) (upd H2 p (.dK (mergeK [] kvs)))
theorem pe_disp {X : Cx} {pos : Pos} {keys : List (Option Expr)} {values : List Expr} {trs : List (TE × TE)} (h : PPs X pos keys values trs) (hall : keys.all (·.isSome) = true) (hl : keys.length = values.length) (h0 : keys ≠ [])
    (h15 : keys.length ≤ 15) : PE X (.Dict keys values pos) (tDisp trs) := by
  intro pins s σ H Q I q
  have hn := I.hok.fresh (Nat.le_refl s.heap.objs.size)
  have I1 := I.laid (a := s.heap.objs.size) (o := .dK []) (h' := s.heap.push { cls := .type "dict", data := .dict #[] }) (t' := s.toks) (fun _ _ q => Heap.get?_push_of_some _ q) (Nat.le_refl _) (dk_empty s.heap I.big)
  refine wpAny_Dict_walk (knd := mixKind X.prog X.w) hall hl h0 h15 (thn (h pins _ σ _ _ I1 (q _ hn)) fun ws s2 ⟨ps, H2, I2, rel, e, kvs, ep, lk, q2⟩ => ?_)
  subst ep
  obtain ⟨rs, c, rk⟩ := carries_of (P := X.prog) (w := X.w) rel
  obtain ⟨z, hd, vs0, r0, dd⟩ := dk_of I2.hok e
  cases r0
  refine ⟨rs, c, dd, fun h' dd' hs => ⟨.ref s.heap.objs.size, _, ?_, rfl, q2⟩⟩
  have hz : (mergeK [] kvs).length ≤ sizeLine := by
    have h1 := length_mergeK kvs []
    rw [List.length_nil] at h1
    rw [sizeLine_eq]; omega
  have he : ∃ q, h'.get? s.heap.objs.size = some q := let ⟨q, _, _, hq, _⟩ := dd'; ⟨q, hq⟩
  exact d_write I2 (by rw [e]; exact True.intro) hs he (dk_new hz hd (rk.merge .nil) dd')


/-! ### methods -/
section
variable {X : Cx} {pins : List (Addr × Obj)} {σ : St} {H : Hp} {s : Shared} {a : Addr} {y d : V} {u r : Value} {o : Option V} {A : Around} {E : Value → Shared → Prop}
end

section
variable {X : Cx} {o e f : Expr} {apos cpos : Pos} {td ty tx : TE}
end

/-! ### dict(d): a copy -/
section
variable {X : Cx} {pins : List (Addr × Obj)} {σ : St} {H : Hp} {s : Shared} {a : Addr} {kvs : List (Key × V)} {A : Around} {E : Value → Shared → Prop}
end


section
variable {X : Cx} {pins : List (Addr × Obj)} {σ : St} {H : Hp} {s : Shared} {a : Addr} {y : V} {u : Value} {A : Around} {E : Value → Shared → Prop}
end
section
variable {X : Cx}
end
end L2

set_option Elab.async false
set_option linter.all false
set_option maxRecDepth 100000
set_option maxHeartbeats 4000000
namespace L2
open PySem PySem.Spec PyProof.Rows
theorem Room.u1 {k : Nat} {A : Around} (r : Room k A) : A.units + 1 < cLine := by have := r.units; omega
/-! ## defs with defaults -/
section
variable {P : Program} {w : World} {K : PySem.W.Frag} {mg : Str → Option Value} {base : Heap}
end
section
variable {X : Cx} {CX : CXT} {j k : Nat} {ps : List Str} {sp : Sp} {dvs : List V} {E : XK} {x : Str} {p pos : Pos} {e : Expr} {es : List Expr} {t : TA}
end
/-! ## a call of what an expression tells -/
section
variable {X : Cx} {CX : CXT} {k : Nat} {E : XK} {func e : Expr} {es : List Expr} {pos : Pos} {tf : TE} {t : TA}
end
/-! ## a dict of the module: texts to objects -/
section
variable {prog : Program} {w : World} {K : PySem.W.Frag} {a : Addr} {ps : List (List Nat × Tok × Addr)}
end
section
variable {X : Cx} {o i : Expr} {td ty : TE} {pos : Pos}
end
end L2

set_option Elab.async false
set_option linter.all false
set_option maxRecDepth 100000
set_option maxHeartbeats 4000000
namespace L2
open PySem PySem.Spec PyProof.Rows PySem.StrLaws
/-! ## own classes: a method, a new instance -/
structure OwnM (P : Program) (w : World) (K : PySem.W.Frag) (mg : Str → Option Value) (base : Heap) (CX : CXT) (k : Nat) (C : Addr) (m : Str) (ps : List Str) (sp : Sp) : Prop where
  ex : ∃ f fd, Cls K C ∧ Meth K C m f ∧ FnOk P w K mg base CX k f fd ps sp ∧ Binds K fd ps []
structure OwnMk (P : Program) (w : World) (K : PySem.W.Frag) (mg : Str → Option Value) (base : Heap) (CX : CXT) (k : Nat) (C : Addr) (x : Str) (ps : List Str) (sp : Sp) : Prop where
  ex : ∃ f fd, Mk K C f ∧ FnOk P w K mg base CX k f fd ps sp ∧ Binds K fd ps [] ∧ mg x = some (.ref C)
section
variable {X : Cx} {CX : CXT} {j k : Nat} {C : Addr} {ps : List Str} {sp : Sp} {E : XK} {x m : Str} {p pos apos : Pos} {e o : Expr} {es : List Expr} {ta : TE} {t : TA}
theorem pe_ownM {pl : Sem Bool} (O : OwnM X.prog X.w X.K X.mg X.base CX j C m ps sp) (hr : Room k X.A) (he : PE X o ta) (hx : Passes CX X E) (ha : PA X (e :: es) t) (hj : j ≤ k := by decide)
    (hst : starEach (e :: es) X.env = (false, eval e X.env) :: starEach es X.env := by rfl) (hpl : (backTo pos (starEach es X.env)).any (·.1) = false := by rfl)
    (ht : eval (.Call (.Attribute o m apos) (e :: es) [] pos) X.env = (do
      let ov ← eval o X.env
      standAt apos.atName
      let (f, first) ← holding [ov] (getMethod ov m pl)
      callWith pos f first (backTo pos (starEach (e :: es) X.env)) (backToKw pos (keywordEach [] X.env))) := by rfl) :
    PE X (.Call (.Attribute o m apos) (e :: es) [] pos) (tMeth C m sp [] E ta t) := by
  obtain ⟨f, fd, c, hm, F, b⟩ := O.ex
  exact pe_meth he c hm F (hr.mono hj) b .nil hx ha hst hpl ht
theorem pe_ownM0 {pl : Sem Bool} (O : OwnM X.prog X.w X.K X.mg X.base CX j C m ps sp) (hr : Room k X.A) (he : PE X o ta) (hx : Passes CX X E) (hj : j ≤ k := by decide)
    (ht : eval (.Call (.Attribute o m apos) [] [] pos) X.env = (do
      let ov ← eval o X.env
      standAt apos.atName
      let (f, first) ← holding [ov] (getMethod ov m pl)
      callWith pos f first (backTo pos (starEach [] X.env)) (backToKw pos (keywordEach [] X.env))) := by rfl) :
    PE X (.Call (.Attribute o m apos) [] [] pos) (tMeth C m sp [] E ta tNil) := by
  obtain ⟨f, fd, c, hm, F, b⟩ := O.ex
  exact pe_meth0 he c hm F (hr.mono hj) b .nil hx ht
theorem pe_ownMk (O : OwnMk X.prog X.w X.K X.mg X.base CX j C x ps sp) (hr : Room k X.A) (hg : Gl X x) (hx : Passes CX X E) (ha : PA X (e :: es) t) (hj : j + 1 ≤ k := by decide) (hdb : (x == ("__debug__" : Str)) = false := by decide)
    (he : starEach (e :: es) X.env = (false, eval e X.env) :: starEach es X.env := by rfl) (hpl : (backTo pos (starEach es X.env)).any (·.1) = false := by rfl) : PE X (.Call (.Name x p) (e :: es) [] pos) (tMake C sp [] E t) := by
  obtain ⟨f, fd, M, F, b, hm⟩ := O.ex
  exact pe_make M F (hr.mono hj) hg hm b .nil hx ha hdb he hpl
end
def Upto (p : Addr) (H H' : Hp) : Prop := ∀ a u, a ≠ p → H a = some u → H' a = some u
theorem Upto.trans {p : Addr} {H1 H2 H3 : Hp} (h : Upto p H1 H2) (g : Upto p H2 H3) : Upto p H1 H3 := fun a u n e => g a u n (h a u n e)
theorem Same.upto {H H' : Hp} (h : Same H H') (p : Addr) : Upto p H H' := fun a u _ e => h a u e
theorem upto_upd (p : Addr) (H : Hp) (o : HO) : Upto p H (upd H p o) := fun a u n e => by rw [upd_ne n]; exact e
end L2

set_option Elab.async false
set_option linter.all false
set_option maxRecDepth 100000
set_option maxHeartbeats 4000000
namespace L2
open PySem PySem.Spec PyProof.Rows PySem.W PySem.Builtin.ObjectAttr
/-! ### an attribute of an exception's own, read -/
section
variable {K : PySem.W.Frag} {e C : Addr}
end
/-! ### in an except suite -/
def ExcAt (e C : Addr) (d : Option Addr) (h : Heap) : Prop := ∃ o, h.get? e = some o ∧ o.cls = .ref C ∧ notCls o = true ∧ ∀ dx, d = some dx → o.dict = some dx
theorem ExcAt.obj {e C : Addr} {d : Option Addr} {h : Heap} (x : ExcAt e C d h) : ExcObj e C h := let ⟨o, h1, h2, _⟩ := x; ⟨o, h1, h2⟩
section
variable {X : Cx}
theorem call_isxD : CallR X (.builtin "isinstance") (fun xs H Q => ∃ e C c b φ, xs = [.ref e, c] ∧ (∃ n, c = .ty n ∨ ∃ a, c = .ref a) ∧ H e = some (.ext φ) ∧ (∀ h, φ h → ExcObj e C h) ∧ ExcCls X.K C ∧ kitOne X.K (.ref C) (clsV c) = some b ∧ Q (.bl b) H) := by
  intro pins s σ H xs us Q I r h
  obtain ⟨e, C, c, b, φ, rfl, hc, he, hφ, cc, kq, q⟩ := h
  obtain ⟨u, w, rfl, ru, rw'⟩ := r.two
  have ew : w = clsV c := by
    obtain ⟨n, rfl | ⟨a, rfl⟩⟩ := hc <;> exact rw'
  subst ew
  cases (show u = Value.ref e from ru)
  obtain ⟨p, _, _⟩ := (show ObjOk X.prog X.w H s.heap e (.ext φ) from I.hok e _ he)
  exact kia_one (kitx_exc cc) I.kIn (hφ _ p) kq (fun z => nomatch z) fun tk => ⟨.bl b, H, I.tok _, rfl, q⟩
end
/-! ### try, where exceptions may have a dict -/
abbrev Cx.tryD (X : Cx) (pins : List (Addr × Obj)) (E : St → XK) : Cx := { X with pn := X.pn ++ pins, xe := fun e s1 => ∃ σ H s, Inv X pins σ H s ∧ CXD X.prog X.w X.stack H s (E σ) e s1 }
section
variable {X : Cx} {pins pins' : List (Addr × Obj)} {σ : St} {H : Hp} {s : Shared} {E : St → XK} {e : Addr}
theorem Cx.Ok.tryD (ok : X.Ok) : (X.tryD pins E).Ok := ⟨ok.mod, ok.kind, ok.glob, ok.blt, ok.above, ok.inj, ok.has, ok.cab, ok.hd, ok.frames, ok.stk, ok.exf, ok.bs, ok.bsz, ok.noex, ok.exfs, ok.funs, ok.frf⟩
theorem Cx.Ok.untryD (ok : (X.tryD pins E).Ok) : X.Ok := ⟨ok.mod, ok.kind, ok.glob, ok.blt, ok.above, ok.inj, ok.has, ok.cab, ok.hd, ok.frames, ok.stk, ok.exf, ok.bs, ok.bsz, ok.noex, ok.exfs, ok.funs, ok.frf⟩
theorem Inv.tryD (I : Inv X pins σ H s) : Inv (X.tryD pins E) [] σ H s := ⟨I.ok.tryD, I.os, I.bare, I.base, I.loc, I.cell, I.free, I.freeC, fun p hp => I.pin p (by rw [List.append_nil] at hp; exact hp), I.hok, I.len⟩
theorem Inv.untryD (I : Inv (X.tryD pins E) pins' σ H s) : Inv X pins σ H s := ⟨I.ok.untryD, I.os, I.bare, I.base, I.loc, I.cell, I.free, I.freeC, fun p hp => I.pin p (List.mem_append_left _ hp), I.hok, I.len⟩
theorem pass_tryD : PassesX (CXD X.prog X.w) (X.tryD pins E) E := fun pins' σ H s e s' I hc => ⟨σ, H, s, I.untryD, hc⟩
end
section
variable {H H' : Hp} {e C : Addr} {d : Option Addr}
theorem Un.trackA {fs : List Addr} {h h' : Heap} (u : Un fs [] H H' h h') (new : h.get? e = none) (hn : H' e = none) : Un fs [] H (upd H' e (.ext (ExcAt e C d))) h h' where
  keep := u.keep
  slot := u.slot
  free := fun b o q n hx => by
    have ne : b ≠ e := fun z => by rw [z, new] at q; cases q
    rw [upd_ne ne]
    exact u.free b o q n hx
  there := u.there
  tups := fun b xs q => by rw [upd_ne (ne_of_none (u.tups b xs q) hn)]; exact u.tups b xs q
  frzs := fun b o v q => by rw [upd_ne (ne_of_none (u.frzs b o v q) hn)]; exact u.frzs b o v q
  tbls := fun b ps q => by
    obtain ⟨more, z⟩ := u.tbls b ps q
    exact ⟨more, by rw [upd_ne (ne_of_none z hn)]; exact z⟩
theorem HOk.trackA {P : Program} {w : World} {h : Heap} (x : HOk P w H h) (hn : H e = none) (p : ExcAt e C d h) : HOk P w (upd H e (.ext (ExcAt e C d))) h := fun b u q => by
  by_cases hb : b = e
  · subst hb
    rw [upd_same] at q
    cases q
    obtain ⟨o, ho, hc⟩ := p
    exact ⟨⟨o, ho, hc⟩, ⟨o, ho⟩, fun h1 h2 ⟨o1, e1, c1⟩ k => ⟨o1, k o1 e1, c1⟩⟩
  · rw [upd_ne hb] at q
    exact (x b u q).stay (fun c v _ z => z) (fun c z => by rw [upd_ne (ne_of_none z hn)]; exact z) fun c xs z => by rw [upd_ne (ne_of_none z hn)]; exact z
theorem fly_at {B h : Heap} {l : List Env} {a0 : Value} (x : Heap.FlyingW B l e (.ref C) a0 h) (y : ∀ dx, d = some dx → ∃ o, h.get? e = some o ∧ o.dict = some dx) : ExcAt e C d h := by
  obtain ⟨o, vs, h1, h2, h3, _⟩ := x.first
  refine ⟨o, h1, h2, ?_, fun dx z => ?_⟩
  · obtain ⟨oc, od, dt, sl⟩ := o
    cases h3
    rfl
  · obtain ⟨o2, q2, d2⟩ := y dx z
    rw [h1] at q2
    cases q2
    exact d2
theorem dk_at {h h' : Heap} (x : DK h h') (y : ∀ dx, d = some dx → ∃ o, h.get? e = some o ∧ o.dict = some dx) : ∀ dx, d = some dx → ∃ o, h'.get? e = some o ∧ o.dict = some dx := fun dx z => by
  obtain ⟨o, q, dd⟩ := y dx z
  obtain ⟨o2, q2, d2⟩ := x e o q
  exact ⟨o2, q2, d2.trans dd⟩
end
def tTryD (K : Frag) (M : Addr) (i : Nat) (tb : (St → XK) → TS) (ts : Addr → TS) : TS := fun D σ H =>
  tb (fun σ1 Cv d H' => ∃ C, Cv = .ref C ∧ mroIn K C (.ref M) = some true ∧ ∀ e, H' e = none → ts e (D.unset i) (σ1.set i (some (.ref e))) (upd H' e (.ext (ExcAt e C d)))) D σ H
section
variable {X : Cx} {n x : Str} {i : Nat} {M : Addr} {body suite : List Stmt} {b₀ : Stmt} {np hpos pos : Pos} {tb : (St → XK) → TS} {ts : Addr → TS}
theorem ps_tryD (hstk : X.stack = X.env :: X.outer) (hfr : X.env.frame = some X.env.locals) (hN : X.N.Nodup) (hi : X.N[i]? = some n) (hl : X.env.scope.names.lookup n = some .local) (hg : Gl X x) (hm : X.mg x = some (.ref M))
    (cM : (clsIn X.K M).isSome = true) (tM : typeIn X.K (.ref M) = some (.type "type")) (bM : mroIn X.K M (.type "BaseException") = some true) (hb : ∀ pins E, PSs (X.tryD pins E) body (tb E)) (hs : ∀ e, PSs (X.supX e) (b₀ :: suite) (ts e))
    (hf : X.fn n = true ∨ X.env.scope.names.lookup n = some .local := by first | exact .inl rfl | exact .inr rfl | assumption) (hdb : (x == ("__debug__" : Str)) = false := by decide) :
    PS X (.Try body [.ExceptHandler (some (.Name x np)) (some n) (b₀ :: suite) hpos] [] [] pos) (tTryD X.K M i tb ts) := by
  intro pins s σ H D I hw
  refine wpAny_Try_except (wpAny_mono (hb pins _ [] s σ H D I.tryD hw) (fun f s1 q => ?_) (fun e s1 q => ?_))
  · cases f with
    | next => obtain ⟨σ', H', I', q⟩ := q; exact wpAny_execs_nil ⟨σ', H', I'.untryD, q⟩
    | brk => obtain ⟨σ', H', I', q⟩ := q; exact ⟨σ', H', I'.untryD, q⟩
    | cont => obtain ⟨σ', H', I', q⟩ := q; exact ⟨σ', H', I'.untryD, q⟩
    | ret u => obtain ⟨v, σ', H', I', r, q⟩ := q; exact ⟨v, σ', H', I'.untryD, r, q⟩
  obtain ⟨σ1, H1, s0, I1, ea, C, H', B, a0, d, rfl, os, bare, fly, hd1, new, hn, clo, C', hC, hmr, ws⟩ := q
  cases hC
  have fly' : Heap.FlyingW B (X.env :: X.outer) ea (.ref C) a0 s1.heap := by rw [← hstk]; exact fly
  refine wpAny_mono (kd_any (E := fun _ _ => False) (kd_note _ _) (wpAny_looks_onW (Q := fun _ s4 => ∃ h4, s4 = { s1 with heap := h4 } ∧ Heap.HeldW B (X.env :: X.outer) ea (.ref C) a0 X.env.locals h4 ∧ s1.heap.UpToSlots h4) (by rw [I1.ok.frames, hstk]) hfr fly' fun h4 held up4 => ⟨h4, rfl, held, up4⟩)) (fun _ s4 q4 => ?_) (fun _ _ z => z.1.elim)
  obtain ⟨⟨h4, rfl, held, up4⟩, dk4⟩ := q4
  have hd4 := dk_at dk4 hd1
  refine wpAny_mono (kd_any (E := fun _ _ => False) (kd_setFlight _ _) (wpAny_landsW (Q := fun _ s5 => ∃ h5, s5 = { s1 with heap := h5 } ∧ Heap.FlyingW B (X.env :: X.outer) ea (.ref C) a0 h5 ∧ h4.UpToSlots h5) held fun h5 fly5 up5 => ⟨h5, rfl, fly5, up5⟩)) (fun _ s5 q5 => ?_) (fun _ _ z => z.1.elim)
  obtain ⟨⟨h5, rfl, fly5, up5⟩, dk5⟩ := q5
  have hd5 := dk_at dk5 hd4
  -- the state at every later heap
  have J : ∀ (h'' : Heap) (tk : Nat), B.StaysIn h'' → s1.heap.UpToSlots h'' → ExcAt ea C d h'' → Inv X pins σ1 (upd H' ea (.ext (ExcAt ea C d))) { s1 with heap := h'', toks := tk } := fun h'' tk st up p => by
    obtain ⟨u, ho⟩ := clo h'' st up
    exact I1.call' (s' := { s1 with heap := h'', toks := tk }) os (u.trackA new hn) (ho.trackA hn p) bare (fun b z => by cases z)
  have J5 := J h5 s1.toks fly5.1 (up4.trans up5) (fly_at fly5 hd5)
  refine wpAny_handleBy_cons (codeAny_handlers_test (ld_glob (X := X.supX ea) (J5.supX (e := ea)) hg hm ?_ hdb)) (by intro z; cases z)
  refine exc_matches J5.kIn fly5.there cM tM bM hmr ?_
  refine codeAny_handlers_suite_as ?_
  refine wpAny_mono (kd_any (E := fun _ _ => False) (kd_setFlight _ _) (lands_againW (Q := fun _ s6 => ∃ h6, s6 = { s1 with heap := h6 } ∧ Heap.FlyingW B (X.env :: X.outer) ea (.ref C) a0 h6 ∧ h5.UpToSlots h6) fly5 fun h6 fly6 up6 => ⟨h6, rfl, fly6, up6⟩)) (fun _ s6 q6 => ?_) (fun _ _ z => z.1.elim)
  obtain ⟨⟨h6, rfl, fly6, up6⟩, dk6⟩ := q6
  have J6 := J h6 s1.toks fly6.1 ((up4.trans up5).trans up6) (fly_at fly6 (dk_at dk6 hd5))
  refine store_ok (X := X.supX ea) (J6.supX (e := ea)) hN hi (.inl hl) (v := .ref ea) rfl (fun s7 I7 => ?_) hf
  refine wpAny_mono (hs ea pins s7 _ _ (D.unset i) I7 (ws ea hn)) (fun f s8 q => ?_) (fun _ _ z => z.elim)
  have ok := I1.ok
  cases f with
  | next => obtain ⟨σ', H'', I', q⟩ := q; exact gone (I'.unsupX ok) hN hi hl fun s9 I9 => ⟨_, _, I9, q⟩
  | brk => obtain ⟨σ', H'', I', q⟩ := q; exact gone (I'.unsupX ok) hN hi hl fun s9 I9 => ⟨_, _, I9, q⟩
  | cont => obtain ⟨σ', H'', I', q⟩ := q; exact gone (I'.unsupX ok) hN hi hl fun s9 I9 => ⟨_, _, I9, q⟩
  | ret u => obtain ⟨v, σ', H'', I', r, q⟩ := q; exact gone (I'.unsupX ok) hN hi hl fun s9 I9 => ⟨v, _, _, I9, r, q⟩
end
/-! ### methods that raise, called within a try -/
def tMethX (C : Addr) (m : Str) (sp : Sp) (E : St → XK) (ta : TE) (t : TA) : TE := fun σ H Q => ta σ H fun x H1 => ∃ a dx fs, x = .ref a ∧ H1 a = some (.ins C dx fs) ∧ fs.lookup m = none ∧ t σ H1 fun vs H2 => sp (x :: (vs ++ [])) H2 Q (E σ)
section
variable {X : Cx} {CX : CXT} {j k : Nat} {C : Addr} {ps : List Str} {sp : Sp} {E : St → XK} {x m : Str} {p pos apos : Pos} {e o : Expr} {es : List Expr} {ta : TE} {t : TA}
theorem pe_ownMX0 {pl : Sem Bool} (O : OwnM X.prog X.w X.K X.mg X.base CX j C m ps sp) (hr : Room k X.A) (he : PE X o ta) (hx : PassesX CX X E) (hj : j ≤ k := by decide)
    (ht : eval (.Call (.Attribute o m apos) [] [] pos) X.env = (do
      let ov ← eval o X.env
      standAt apos.atName
      let (f, first) ← holding [ov] (getMethod ov m pl)
      callWith pos f first (backTo pos (starEach [] X.env)) (backToKw pos (keywordEach [] X.env))) := by rfl) :
    PE X (.Call (.Attribute o m apos) [] [] pos) (tMethX C m sp E ta tNil) := by
  obtain ⟨f, fd, c, hm, F, b⟩ := O.ex
  intro pins s σ H Q I h
  refine PySem.W.methodCall_KW (pl := pl) (thn (he pins s σ H _ I h) fun u s1 ⟨x, H1, I1, rx, a, dx, fs, ex, ea, l, q⟩ => ?_) ht
  subst ex
  obtain rfl : u = Value.ref a := rx
  refine getmeth_ok I1 ea c hm l ?_
  exact PySem.W.callWith_K0 (first := [.ref a]) I1.kIn hm.kp (run_fnX (us := [.ref a]) (vs := [.ref a]) F (hr.mono hj) b hx I1 (.cons rfl .nil) q)
end
theorem OwnM.sureD {P : Program} {w : World} {K : Frag} {mg : Str → Option Value} {base : Heap} {k : Nat} {C : Addr} {m : Str} {ps : List Str} {sp sp' : Sp} (O : OwnM P w K mg base (CXD P w) k C m ps sp)
    (h : ∀ vs H Q E, sp' vs H Q E → sp vs H Q fun _ _ _ => False) : OwnM P w K mg base CX0 k C m ps sp' := by
  obtain ⟨f, fd, c, hm, F, b⟩ := O.ex
  exact ⟨f, fd, c, hm, F.sureD h, b⟩
end L2

set_option Elab.async false
set_option linter.all false
set_option maxRecDepth 100000
set_option maxHeartbeats 4000000
namespace L2
/-! ## the row of a place -/
end L2
namespace L2
end L2

set_option Elab.async false
set_option linter.all false
set_option maxRecDepth 100000
set_option maxHeartbeats 4000000
namespace L2
open PySem
/-! ## the first one from a on, the last one ahead of a -/
/-! ## the moves -/
def nV (n : Nat) : V := .int (n : Int)
end L2

set_option Elab.async false
set_option linter.all false
set_option maxRecDepth 100000
set_option maxHeartbeats 4000000
namespace L2
open PySem PySem.Spec PyProof.Rows
/-! ## comprehensions that take names from around -/
section
variable {X : Cx} {scope sc : Scope} {NB NN : List Str} {ix : List (Option Nat)} {pins : List (Addr × Obj)} {σ : St} {H : Hp} {s : Shared}
end
end L2

set_option Elab.async false
set_option linter.all false
set_option maxRecDepth 100000
set_option maxHeartbeats 4000000
namespace L2
open PySem PySem.Spec PyProof.Rows
/-! ## sum, max, min of a list of whole numbers; for over a text -/
section
variable {X : Cx} {tg : Expr}
/-! the signs of a text, one by one -/
end
end L2

set_option Elab.async false
set_option linter.all false
set_option maxRecDepth 100000
set_option maxHeartbeats 4000000
namespace L2
open PySem PySem.Spec PyProof.Rows
/-! comprehensions that keep what a test lets by -/
/-! the first and the last of a list of places -/
theorem upd_tup {H : Hp} {d t : Addr} {xs u : List V} {o : HO} (hd : H d = some (.lst xs)) (ht : H t = some (.tup u)) : upd H d o t = some (.tup u) := (upd_ne (ne_of ht hd (by intro z; cases z))).trans ht
theorem iteNF {c A B : Prop} [Decidable c] (hc : ¬ c) (h : A) : if (!decide c) = true then A else B := by
  rw [decide_eq_false hc]
  exact iteT h
end L2

set_option Elab.async false
set_option linter.all false
set_option maxRecDepth 100000
set_option maxHeartbeats 4000000
namespace L2
open PySem PySem.Spec PyProof.Rows
/-! dict(d), == and != of dicts with the same pairs -/
section
variable {X : Cx}
end
end L2

set_option Elab.async false
set_option linter.all false
set_option maxRecDepth 100000
set_option maxHeartbeats 4000000
namespace L2
open PySem PySem.Spec PyProof.Rows PySem.StrLaws
/-! ## lists of tuples: == of two whose tuples hold the same -/
section
variable {X : Cx}
theorem op_eqP (hu : X.A.units + 1 < cLine) : OpR X (compareOp .Eq) (fun x y H Q => ∃ (p q : Addr) (as bs : List Addr), x = .ref p ∧ y = .ref q ∧ SqL X.K H p (as.map V.ref) ∧ SqL X.K H q (bs.map V.ref) ∧ as.length = bs.length ∧ (∀ (j : Nat) (a b : Addr), as[j]? = some a → bs[j]? = some b → ∃ xs : List V, SqT X.K H a xs ∧ SqT X.K H b xs ∧ xs.all flatV = true ∧ eqs xs xs = true) ∧ Q (.bl true) H) := by
  intro pins s σ H x y v u Q I rx ry h
  obtain ⟨p, q, as, bs, rfl, rfl, h1, h2, hlen, hat, w⟩ := h
  cases rx
  cases ry
  obtain ⟨its, r, pl, hz⟩ := I.list h1
  obtain ⟨jts, r2, pl2, hz2⟩ := I.list h2
  cases refs_same r
  cases refs_same r2
  refine SeqAt.eq_listAt (e := fun _ => true) pl.isList pl2.isList (by simp [hlen]) (by omega) (fun j ha hb => ?_) ?_
  · have ja : j < as.length := by simpa using ha
    have jb : j < bs.length := by simpa using hb
    have ea : as[j]? = some as[j] := List.getElem?_eq_getElem ja
    have eb : bs[j]? = some bs[j] := List.getElem?_eq_getElem jb
    obtain ⟨xs, t1, t2, fx, ex⟩ := hat j _ _ ea eb
    have va : ((as.map Value.ref).toArray)[j] = Value.ref as[j] := by simp
    have vb : ((bs.map Value.ref).toArray)[j] = Value.ref bs[j] := by simp
    rw [va, vb]
    by_cases e : as[j] = bs[j]
    · rw [e]; exact SeqAt.EqAt.same _
    · refine SeqAt.EqAt.of_refs e ?_
      obtain ⟨us, ru, tu, _⟩ := I.tuple t1
      obtain ⟨ws, rw', tw, _⟩ := I.tuple t2
      have e1 : us.toArray.size = xs.length := by rw [List.size_toArray, ru.length]
      have e2 : ws.toArray.size = xs.length := by rw [List.size_toArray, rw'.length]
      have R := SeqAt.RcAt.tuples (A := X.A.in1) (e := eqAtJ xs xs) (show s.heap.IsTuple as[j] us.toArray from tu) (show s.heap.IsTuple bs[j] ws.toArray from tw) hu (fun i ia ib => by
        obtain ⟨a, e3, ra⟩ := ru.at ia
        obtain ⟨b, e4, rb⟩ := rw'.at ib
        rw [e3] at e4
        cases e4
        have e : eqAtJ xs xs i = eqV a a := by unfold eqAtJ; rw [e3]
        rw [e]
        exact eqAt_V ra rb (flat_at fx e3) (flat_at fx e3))
      rw [e1, e2, Nat.min_self, eqs_all rfl, ex, beq_self_eq_true] at R
      exact R
  · rw [all_true]
    exact ⟨.bl true, H, I, rfl, w⟩
end
/-! ## a list of pairs of numbers -/
end L2

set_option Elab.async false
set_option linter.all false
set_option maxRecDepth 100000
set_option maxHeartbeats 4000000
namespace L2
open PySem PySem.Spec PyProof.Rows PySem.StrLaws
theorem call_intB {X : Cx} : CallR X (.type "int") (fun xs H Q => ∃ b : Bool, xs = [.bl b] ∧ Q (.int (if b = true then 1 else 0)) H) := by
  intro pins s σ H xs us Q I r h
  obtain ⟨b, rfl, q⟩ := h
  obtain ⟨u, rfl, rx⟩ := vals1 r
  cases rx
  exact call_int_bool ⟨.int _, H, I.tok _, ⟨_, rfl⟩, q⟩
end L2

set_option Elab.async false
set_option linter.all false
set_option maxRecDepth 100000
set_option maxHeartbeats 4000000
namespace L2
open PySem PySem.Spec PyProof.Rows PySem.StrLaws
/-! comprehensions with any target: a tuple of names -/
section
variable {X : Cx} {scope : Scope} {cl : List (Str × Addr)} {NB : List Str} {ix : List (Option Nat)} {fp : List Addr} {pins : List (Addr × Obj)} {σ : St} {H : Hp} {s : Shared}
end
section
variable {X : Cx} {scope : Scope} {cl : List (Str × Addr)} {NB : List Str} {ix : List (Option Nat)} {fp : List Addr} {pins : List (Addr × Obj)} {σ : St} {H : Hp} {s : Shared}
end
section
variable {X : Cx} {scope sc : Scope} {NB NN : List Str} {ix : List (Option Nat)} {pins : List (Addr × Obj)} {σ : St} {H : Hp} {s : Shared}
end
end L2

set_option Elab.async false
set_option linter.all false
set_option maxRecDepth 100000
set_option maxHeartbeats 4000000
namespace L2
open PySem PySem.Spec PyProof.Rows PySem.StrLaws
/-! ## a list of tuples -/
def TupsV (H : Hp) (D : Addr) (ts : List (List V)) : Prop := ∃ as : List Addr, H D = some (.lst (as.map V.ref)) ∧ as.length = ts.length ∧ ∀ (i : Nat) (a : Addr) (t : List V), as[i]? = some a → ts[i]? = some t → H a = some (.tup t)
theorem TupsV.same {H H' : Hp} {D : Addr} {ts : List (List V)} (h : TupsV H D ts) (s : Same H H') : TupsV H' D ts := by
  obtain ⟨as, h1, h2, h3⟩ := h
  exact ⟨as, s _ _ h1, h2, fun i a q e1 e2 => s _ _ (h3 i a q e1 e2)⟩
theorem TupsV.nil {H : Hp} {D : Addr} (h : H D = some (.lst [])) : TupsV H D [] := ⟨[], h, rfl, fun i a t z => by cases z⟩
theorem TupsV.snoc {H : Hp} {D a : Addr} {ts : List (List V)} {xs : List V} {t : List V} (h : TupsV H D ts) (hD : H D = some (.lst xs)) (ht : H a = some (.tup t)) : TupsV (upd H D (.lst (xs ++ [.ref a]))) D (ts ++ [t]) := by
  obtain ⟨as, h1, h2, h3⟩ := h
  rw [h1] at hD
  cases hD
  refine ⟨as ++ [a], ?_, ?_, fun i b r e1 e2 => ?_⟩
  · rw [upd_same, List.map_append] <;> rfl
  · rw [List.length_append, List.length_append, h2] <;> rfl
  · by_cases hi : i < as.length
    · rw [List.getElem?_append_left hi] at e1
      rw [List.getElem?_append_left (by omega)] at e2
      exact upd_tup h1 (h3 i b r e1 e2)
    · rw [List.getElem?_append_right (by omega)] at e1
      rw [List.getElem?_append_right (by omega), ← h2] at e2
      by_cases z : i - as.length = 0
      · rw [z] at e1 e2
        cases e1
        cases e2
        exact upd_tup h1 ht
      · rw [List.getElem?_eq_none (by simp; omega)] at e1
        cases e1
theorem TupsV.mem {H : Hp} {D : Addr} {ts : List (List V)} (h : TupsV H D ts) : ∃ xs, H D = some (.lst xs) ∧ xs.length = ts.length ∧ ∀ (i : Nat) (v : V), xs[i]? = some v → ∃ a t, v = .ref a ∧ ts[i]? = some t ∧ H a = some (.tup t) := by
  obtain ⟨as, h1, h2, h3⟩ := h
  refine ⟨_, h1, by rw [List.length_map, h2], fun i v e => ?_⟩
  rw [List.getElem?_map] at e
  cases ea : as[i]? with
  | none => rw [ea] at e; cases e
  | some a =>
    rw [ea] at e
    cases e
    have hi : i < ts.length := by rw [← h2]; exact (List.getElem?_eq_some_iff.mp ea).1
    exact ⟨a, ts[i], rfl, List.getElem?_eq_getElem hi, h3 i a _ ea (List.getElem?_eq_getElem hi)⟩
/-! ## == of tuples that hold lists or tuples of flat values -/
section
variable {X : Cx}
end
/-! ## sum of a list of whole numbers, some below 0 -/
section
variable {X : Cx} {tg : Expr}
end
/-! ## for over a list from its end -/
theorem for_rev {K : PySem.W.Frag} {a : Addr} {xs : List V} {g : TG} {tb : TS} {D : Ends} {σ : St} {H : Hp} (Pv : Nat → St → Hp → Prop) (h0 : Pv 0 σ H) (hl : ∀ i σ H, i ≤ xs.length → Pv i σ H → SqL K H a xs)
    (hs : ∀ i x σ H, i < xs.length → xs[xs.length - 1 - i]? = some x → Pv i σ H → g x σ H fun σ2 H2 => tb { D with nx := Pv (i + 1), ct := Pv (i + 1), bk := D.nx } σ2 H2) (hd : ∀ σ H, Pv xs.length σ H → D.nx σ H) :
    ∃ W : Nat → Nat → St → Hp → Prop, (∃ m, W 0 m σ H) ∧ ∀ i m σ H, W i m σ H →
      ((Itv K a xs.length).stop i H ∧ D.nx σ H) ∨ ((Itv K a xs.length).go i H ∧ ∃ N : St → Hp → Prop, (∀ σ' H', N σ' H' → ∃ m', m' < m ∧ W (i + 1) m' σ' H') ∧ ∀ x H', (Itv K a xs.length).yld i H x H' → g x σ H' fun σ2 H2 => tb { D with nx := N, ct := N, bk := D.nx } σ2 H2) := by
  refine ⟨fun i m σ H => m = xs.length - i ∧ i ≤ xs.length ∧ Pv i σ H, ⟨xs.length, by simp, Nat.zero_le _, h0⟩, ?_⟩
  rintro i m σ H ⟨rfl, hi, p⟩
  have q := hl i σ H hi p
  by_cases hlt : i < xs.length
  · refine .inr ⟨⟨xs, q, rfl, hlt⟩, Pv (i + 1), fun σ' H' n => ⟨xs.length - (i + 1), by omega, rfl, hlt, n⟩, ?_⟩
    rintro x H' ⟨rfl, hx⟩
    exact hs i x σ _ hlt (hx xs q) p
  · have e : i = xs.length := by omega
    subst e
    exact .inl ⟨rfl, hd σ H p⟩
end L2

set_option Elab.async false
set_option linter.all false
set_option maxRecDepth 100000
set_option maxHeartbeats 4000000
namespace My
open PySem L2

def top (i : Nat) : Stmt := PySem.Challenge.pw_modehand_k55_whole_tree.main.body.getD i (.Pass ⟨0, 0, 0, 0⟩)
abbrev s_is_whole : Stmt := top 5
abbrev s_is_place : Stmt := top 6
abbrev s_fits : Stmt := top 8
abbrev s_spliced : Stmt := top 9
abbrev s_turned : Stmt := top 10
abbrev s_all_spliced : Stmt := top 11
abbrev s_way_back : Stmt := top 12
abbrev s__law_cell_at : Stmt := top 16
abbrev s__law_room : Stmt := top 17
abbrev s__law_take : Stmt := top 18
abbrev s__law_same : Stmt := top 19
abbrev s__law_signs : Stmt := top 20
abbrev s__law_state : Stmt := top 21
abbrev s__law_first : Stmt := top 22
abbrev s__law_row : Stmt := top 23
abbrev s__law_shows : Stmt := top 24
abbrev s__law_newest : Stmt := top 25
abbrev s__law_no_lead : Stmt := top 26
abbrev s__law_led : Stmt := top 27
abbrev s__law_grown : Stmt := top 28
abbrev s__law_way : Stmt := top 29
abbrev s__law_looked : Stmt := top 30
abbrev s__law_all_again : Stmt := top 31
abbrev s__law_deep : Stmt := top 32
abbrev s_law : Stmt := top 33
abbrev s_NoState__init : Stmt := inClass (top 3) 0
abbrev s_Tree__init : Stmt := inClass (top 14) 0
abbrev s_Tree__check : Stmt := inClass (top 14) 1
abbrev s_Tree__here : Stmt := inClass (top 14) 2
abbrev s_Tree__many : Stmt := inClass (top 14) 3
abbrev s_Tree__text_of : Stmt := inClass (top 14) 4
abbrev s_Tree__elder_of : Stmt := inClass (top 14) 5
abbrev s_Tree__splices_of : Stmt := inClass (top 14) 6
abbrev s_Tree__places_of : Stmt := inClass (top 14) 7
abbrev s_Tree__grow : Stmt := inClass (top 14) 8
abbrev s_Tree__undone : Stmt := inClass (top 14) 9
abbrev s_Tree__done : Stmt := inClass (top 14) 10
abbrev s_Tree__to : Stmt := inClass (top 14) 11
abbrev s_Tree__way : Stmt := inClass (top 14) 12

def cell (ns : List Int) (k : Nat) : Int := ns.getD k 0
def sp_cell (K : PySem.W.Frag) : Sp := fun vs H Q _ => ∃ (a : Addr) (ns : List Int) (k : Nat), vs = [.ref a, .int (k : Int)] ∧ SqL K H a (ns.map V.int) ∧ Q (.int (cell ns k)) H
def sp_law (K : PySem.W.Frag) : Sp := fun vs H Q _ => ∃ (a : Addr) (ns : List Int), vs = [.ref a] ∧ SqL K H a (ns.map V.int) ∧ ns.length ≤ 63 ∧ ∀ H', Q (.bl true) H'
theorem cell_at {ns : List Int} {k : Nat} (h : (k : Int) < ((ns.map V.int).length : Int)) : atI (ns.map V.int) (k : Int) = some (.int (cell ns k)) := by
  rw [List.length_map] at h
  have hk : k < ns.length := by omega
  refine atI_nat ?_
  rw [List.getElem?_map, List.getElem?_eq_getElem hk]
  show some (V.int ns[k]) = some (V.int (cell ns k))
  unfold cell
  rw [List.getD_eq_getElem?_getD, List.getElem?_eq_getElem hk] <;> rfl
theorem cell_out {ns : List Int} {k : Nat} (h : ¬ (k : Int) < ((ns.map V.int).length : Int)) : cell ns k = 0 := by
  rw [List.length_map] at h
  unfold cell
  rw [List.getD_eq_getElem?_getD, List.getElem?_eq_none (by omega)] <;> rfl
section
variable {P : Program} {w : World} {K : PySem.W.Frag} {mg : Str → Option Value} {base : Heap} {f : Addr} {fd : FuncData}
theorem sc__law_cell_at : FnScope ["_law_script", "_law_k"] ["_law_script", "_law_k"] (defScope s__law_cell_at) := ⟨rfl, rfl, rfl, by decide +kernel, rfl, by decide +kernel, by decide +kernel⟩
theorem ok_cell (F : Fun K "_law_cell_at" "_law_cell_at" s__law_cell_at f fd) (m_len : mg "len" = none) : FnOk P w K mg base CX0 1 f fd ["_law_script", "_law_k"] (sp_cell K) := by
  refine F.ok sc__law_cell_at (fun vs H Q E h => ?_) (fun cdv A outer s H vs Q E hr h => ?_)
  · obtain ⟨a, ns, k, rfl, _⟩ := h
    rfl
  obtain ⟨a, ns, k, rfl, hS, q⟩ := h
  refine ⟨_, (pss_cons (ps_if (pt_cmpR op_lt (pv 1) (pe_callB call_len_seq (by rfl) m_len PySem.boot_len (pa_cons (pv 0) pa_nil)) (nomark _)) (pss_one (ps_ret (pe_ix ix_list (pv 0) (pv 1) (fun _ _ => rfl)))) pss_nil)
      (pss_one (ps_ret pe_int))), ?_⟩
  refine ⟨_, rfl, _, rfl, a, _, rfl, .inl hS, _, _, rfl, rfl, _, rfl, ?_⟩
  refine ite2 (fun c => ?_) (fun c => ?_)
  · have c' := of_decide_eq_true c
    exact ⟨_, rfl, _, rfl, a, _, _, _, rfl, rfl, hS, cell_at c', q⟩
  · have c' := of_decide_eq_false (Bool.eq_false_iff.mpr c)
    have q' := q
    rw [cell_out c'] at q'
    exact q'
end
abbrev lit1 : List Nat := [32, 33, 34, 35, 36, 38, 39, 40, 41, 42, 43, 44, 45, 46, 47, 48, 49, 50, 51, 52, 53, 54, 55, 56, 57, 58, 59, 60, 61, 62, 63, 64, 65, 66, 67, 68, 69, 70, 71, 72, 73, 74, 75, 76, 77, 78, 79, 80, 81, 82, 83, 84, 85, 86, 87, 88, 89, 90, 91, 92, 93, 94, 95, 96]
abbrev lit2 : List Nat := [97, 98, 99, 100, 101, 102, 103, 104, 105, 106, 107, 108, 109, 110, 111, 112, 113, 114, 115, 116, 117, 118, 119, 120, 121, 122, 123, 124, 125]
theorem lits : ∀ c ∈ lit1 ++ lit2, c < 128 := by decide
theorem lits_len : (lit1 ++ lit2).length = 93 := by decide

abbrev Spl := Nat × List Nat × List Nat
def splV (sps : List Spl) : List (List V) := sps.map fun s => [nV s.1, .str (S s.2.1), .str (S s.2.2)]
def cutT (l : List Nat) (a b : Nat) : List Nat := (l.drop a).take (b - a)
def walkS (l : List Nat) : List Spl → Option (List Nat)
  | [] => some l
  | s :: rest => if s.1 ≤ l.length ∧ cutT l s.1 (s.1 + s.2.1.length) = s.2.1 then walkS (l.take s.1 ++ s.2.2 ++ l.drop (s.1 + s.2.1.length)) rest else none
theorem walk_snoc : ∀ {sps : List Spl} {l m : List Nat} {s : Spl}, walkS l sps = some m → s.1 ≤ m.length → cutT m s.1 (s.1 + s.2.1.length) = s.2.1 → walkS l (sps ++ [s]) = some (m.take s.1 ++ s.2.2 ++ m.drop (s.1 + s.2.1.length))
  | [], l, m, s, h, h1, h2 => by
    cases h
    show (if s.1 ≤ l.length ∧ cutT l s.1 (s.1 + s.2.1.length) = s.2.1 then some _ else none) = _
    rw [if_pos ⟨h1, h2⟩]
  | x :: xs, l, m, s, h, h1, h2 => by
    have h' : (if x.1 ≤ l.length ∧ cutT l x.1 (x.1 + x.2.1.length) = x.2.1 then walkS (l.take x.1 ++ x.2.2 ++ l.drop (x.1 + x.2.1.length)) xs else none) = some m := h
    show (if x.1 ≤ l.length ∧ cutT l x.1 (x.1 + x.2.1.length) = x.2.1 then walkS (l.take x.1 ++ x.2.2 ++ l.drop (x.1 + x.2.1.length)) (xs ++ [s]) else none) = _
    split at h'
    · rename_i c
      rw [if_pos c]
      exact walk_snoc h' h1 h2
    · cases h'
end My

set_option Elab.async false
set_option linter.all false
set_option maxRecDepth 100000
set_option maxHeartbeats 4000000
namespace My
open PySem L2




/-! modehand.rows: is_whole -/
def sp_whole : Sp := fun vs H Q _ => ∃ i : Int, vs = [.int i] ∧ Q (.bl true) H
section
variable {P : Program} {w : World} {K : PySem.W.Frag} {mg : Str → Option Value} {base : Heap} {f : Addr} {fd : FuncData}
theorem sc_is_whole : FnScope ["value"] ["value"] (defScope s_is_whole) := ⟨rfl, rfl, rfl, by decide +kernel, rfl, by decide +kernel, by decide +kernel⟩
theorem ok_is_whole (F : Fun K "is_whole" "is_whole" s_is_whole f fd) (m_isinstance : mg "isinstance" = none) (m_int : mg "int" = none) (m_bool : mg "bool" = none) : FnOk P w K mg base CX0 1 f fd ["value"] sp_whole := by
  refine F.ok sc_is_whole (fun vs H Q E h => ?_) (fun cdv A outer s H vs Q E hr h => ?_)
  · obtain ⟨x, rfl, _⟩ := h
    rfl
  obtain ⟨x, rfl, q⟩ := h
  refine ⟨_, (pss_one (ps_ret (pe_and (pe_callB call_isi (by rfl) m_isinstance boot_isi (pa_cons (pv 0) (pa_cons (pe_bltn (v := .ty "int") (by rfl) m_int boot_int rfl) pa_nil))) (pe_one (pe_not (pe_callB call_isi (by rfl) m_isinstance boot_isi (pa_cons (pv 0) (pa_cons (pe_bltn (v := .ty "bool") (by rfl) m_bool boot_bool rfl) pa_nil)))))))), ?_⟩
  refine ⟨_, rfl, _, _, _, _, rfl, ⟨_, .inl rfl⟩, .int x, kit_ii, _, rfl, iteT ?_⟩
  exact ⟨_, rfl, _, _, _, _, rfl, ⟨_, .inl rfl⟩, .int x, kit_ib, _, rfl, q⟩
end

/-! modehand.rows: is_place -/
def inP (l : List Nat) (p : Int) : Bool := decide (0 ≤ p) && decide (p ≤ l.length)
theorem inP_iff {l : List Nat} {p : Int} : inP l p = true ↔ 0 ≤ p ∧ p ≤ l.length := by unfold inP; simp
def sp_is_place : Sp := fun vs H Q _ => ∃ (l : List Nat) (p : Int), vs = [.str (S l), .int p] ∧ l.length ≤ 1000000 ∧ Q (.bl (inP l p)) H
section
variable {P : Program} {w : World} {K : PySem.W.Frag} {mg : Str → Option Value} {base : Heap} {f : Addr} {fd : FuncData}
theorem sc_is_place : FnScope ["text", "place"] ["text", "place"] (defScope s_is_place) := ⟨rfl, rfl, rfl, by decide +kernel, rfl, by decide +kernel, by decide +kernel⟩
theorem ok_is_place (F : Fun K "is_place" "is_place" s_is_place f fd) (O_is_whole : Own P w K mg base CX0 1 "is_whole" ["value"] sp_whole) (m_len : mg "len" = none) : FnOk P w K mg base CX0 2 f fd ["text", "place"] sp_is_place := by
  refine F.ok sc_is_place (fun vs H Q E h => ?_) (fun cdv A outer s H vs Q E hr h => ?_)
  · obtain ⟨l, p, rfl, _⟩ := h
    rfl
  obtain ⟨l, p, rfl, hl, q⟩ := h
  refine ⟨_, (pss_one (ps_ret (pe_and (pe_own O_is_whole hr (by rfl) pass0 (pa_cons (pv 1) pa_nil)) (pe_one (pe_chain op_le op_le pe_int (pv 1) (pe_callB call_lenS (by rfl) m_len PySem.boot_len (pa_cons (pv 0) pa_nil))))))), ?_⟩
  refine ⟨_, rfl, _, rfl, _, rfl, iteT ?_⟩
  refine ⟨_, rfl, _, _, rfl, rfl, _, rfl, ?_⟩
  refine ite2 (fun c => ?_) (fun c => ?_)
  · have c' := of_decide_eq_true c
    have e : inP l p = decide (p ≤ l.length) := by unfold inP; rw [decide_eq_true c', Bool.true_and]
    rw [e] at q
    exact ⟨_, rfl, l, rfl, small hl, _, _, rfl, rfl, q⟩
  · have c' := of_decide_eq_false (Bool.eq_false_iff.mpr c)
    have e : inP l p = false := by unfold inP; rw [decide_eq_false c', Bool.false_and]
    rw [e] at q
    exact q
end

/-! modehand.splices: fits, spliced -/
def fitB (l : List Nat) (p : Int) (o : List Nat) : Bool := inP l p && decide (cutL l (some p) (some (p + o.length)) = o)
def putL (l : List Nat) (p : Int) (o u : List Nat) : List Nat := l.take p.toNat ++ u ++ l.drop (p.toNat + o.length)
theorem fit_iff {l o : List Nat} {p : Int} : fitB l p o = true ↔ 0 ≤ p ∧ p + o.length ≤ l.length ∧ (l.drop p.toNat).take o.length = o := by
  unfold fitB
  rw [Bool.and_eq_true, inP_iff, decide_eq_true_eq]
  constructor
  · rintro ⟨⟨h0, h1⟩, h2⟩
    rw [cutL_ii l h0 (by omega)] at h2
    have e : (p + o.length).toNat - p.toNat = o.length := by omega
    rw [e] at h2
    have z := congrArg List.length h2
    rw [List.length_take, List.length_drop] at z
    exact ⟨h0, by omega, h2⟩
  · rintro ⟨h0, h1, h2⟩
    refine ⟨⟨h0, by omega⟩, ?_⟩
    rw [cutL_ii l h0 (by omega)]
    have e : (p + o.length).toNat - p.toNat = o.length := by omega
    rw [e]
    exact h2
theorem put_len {l o u : List Nat} {p : Int} (h : fitB l p o = true) : (putL l p o u).length + o.length = l.length + u.length := by
  obtain ⟨h0, h1, _⟩ := fit_iff.mp h
  unfold putL
  simp
  omega
theorem put_back {l o u : List Nat} {p : Int} (h : fitB l p o = true) : fitB (putL l p o u) p u = true ∧ putL (putL l p o u) p u o = l := by
  obtain ⟨h0, h1, h2⟩ := fit_iff.mp h
  have hz : (l.take p.toNat).length = p.toNat := by rw [List.length_take]; omega
  have d1 : (putL l p o u).drop p.toNat = u ++ l.drop (p.toNat + o.length) := by
    unfold putL
    rw [List.append_assoc]
    have z := List.drop_left (l₁ := l.take p.toNat) (l₂ := u ++ l.drop (p.toNat + o.length))
    rw [hz] at z
    exact z
  have t1 : (putL l p o u).take p.toNat = l.take p.toNat := by
    unfold putL
    rw [List.append_assoc]
    have z := List.take_left (l₁ := l.take p.toNat) (l₂ := u ++ l.drop (p.toNat + o.length))
    rw [hz] at z
    exact z
  have d2 : (putL l p o u).drop (p.toNat + u.length) = l.drop (p.toNat + o.length) := by
    rw [← List.drop_drop, d1]
    exact List.drop_left
  refine ⟨fit_iff.mpr ⟨h0, ?_, ?_⟩, ?_⟩
  · have := put_len (u := u) h
    omega
  · rw [d1]
    exact List.take_left
  · show (putL l p o u).take p.toNat ++ o ++ (putL l p o u).drop (p.toNat + u.length) = l
    rw [t1, d2, List.append_assoc, ← List.drop_drop]
    have e : o ++ (l.drop p.toNat).drop o.length = l.drop p.toNat := by
      have z := List.take_append_drop o.length (l.drop p.toNat)
      rw [h2] at z
      exact z
    rw [e, List.take_append_drop]
def sp_fits (K : PySem.W.Frag) : Sp := fun vs H Q _ => ∃ (l o : List Nat) (p : Int) (t : Addr) (u : V), vs = [.str (S l), .ref t] ∧ SqT K H t [.int p, .str (S o), u] ∧ l.length ≤ 100000 ∧ o.length ≤ 100000 ∧ Q (.bl (fitB l p o)) H
def sp_spliced (K : PySem.W.Frag) (C : Addr) : Sp := fun vs H Q E => ∃ (l o u : List Nat) (p : Int) (t : Addr), vs = [.str (S l), .ref t] ∧ SqT K H t [.int p, .str (S o), .str (S u)] ∧ l.length ≤ 100000 ∧ o.length ≤ 100000 ∧ u.length ≤ 100000 ∧
  if fitB l p o = true then Q (.str (S (putL l p o u))) H else E (.ref C) none H
section
variable {P : Program} {w : World} {K : PySem.W.Frag} {mg : Str → Option Value} {base : Heap} {f C_NoFit : Addr} {fd : FuncData}
theorem sc_fits : FnScope ["text", "splice", "at", "out"] ["text", "splice"] (defScope s_fits) := ⟨rfl, rfl, rfl, by decide +kernel, rfl, by decide +kernel, by decide +kernel⟩
theorem ok_fits (F : Fun K "fits" "fits" s_fits f fd) (O_is_place : Own P w K mg base CX0 2 "is_place" ["text", "place"] sp_is_place) (m_len : mg "len" = none) : FnOk P w K mg base CX0 3 f fd ["text", "splice"] (sp_fits K) := by
  refine F.ok sc_fits (fun vs H Q E h => ?_) (fun cdv A outer s H vs Q E hr h => ?_)
  · obtain ⟨l, o, p, t, u, rfl, _⟩ := h
    rfl
  obtain ⟨l, o, p, t, u, rfl, hT, hl, ho, q⟩ := h
  refine ⟨_, (pss_cons (ps_set (i := 2) sc_fits.nd rfl (Or.inl rfl) (pe_ix ix_tup (pv 1) pe_int (fun _ _ => rfl)))
      (pss_cons (ps_set (i := 3) sc_fits.nd rfl (Or.inl rfl) (pe_ix ix_tup (pv 1) pe_int (fun _ _ => rfl)))
      (pss_one (ps_ret (pe_and (pe_own O_is_place hr (by rfl) pass0 (pa_cons (pv 0) (pa_cons (pv 2) pa_nil))) (pe_one (pe_cmpR op_eq (pe_slice sl_str (pv 0) (po_some (pv 2)) (po_some (pe_op op_add (pv 2) (pe_callB call_lenS (by rfl) m_len PySem.boot_len (pa_cons (pv 3) pa_nil))))) (pv 3) (nomark _)))))))), ?_⟩
  refine ⟨_, rfl, t, _, _, _, rfl, rfl, hT, rfl, ?_⟩
  refine ⟨_, rfl, t, _, _, _, rfl, rfl, hT, rfl, ?_⟩
  refine ⟨_, rfl, _, rfl, l, p, rfl, by omega, _, rfl, ?_⟩
  cases e : inP l p with
  | true =>
    refine iteT ⟨_, rfl, _, rfl, _, rfl, _, rfl, _, rfl, o, rfl, small (by omega), _, _, rfl, rfl, _, rfl, l, rfl, small (by omega), _, rfl, rfl, ?_⟩
    show Q (.bl (decide (V.str (S (cutL l (some p) (some (p + o.length)))) = V.str (S o)))) H
    rw [S_dec]
    have z : fitB l p o = decide (cutL l (some p) (some (p + o.length)) = o) := by unfold fitB; rw [e, Bool.true_and]
    rw [z] at q
    exact q
  | false =>
    have z : fitB l p o = false := by unfold fitB; rw [e, Bool.false_and]
    rw [z] at q
    exact iteF q
theorem sc_spliced : FnScope ["text", "splice", "at", "out", "put"] ["text", "splice"] (defScope s_spliced) := ⟨rfl, rfl, rfl, by decide +kernel, rfl, by decide +kernel, by decide +kernel⟩
theorem ok_spliced (F : Fun K "spliced" "spliced" s_spliced f fd) (O_fits : Own P w K mg base CX0 3 "fits" ["text", "splice"] (sp_fits K)) (m_len : mg "len" = none) (m_NoFit : mg "NoFit" = some (.ref C_NoFit)) (x_NoFit : PySem.W.excIn K C_NoFit bmV "ValueError.__new__" = true) :
    FnOk P w K mg base (CXE P w) 4 f fd ["text", "splice"] (sp_spliced K C_NoFit) := by
  refine F.okX sc_spliced (fun vs H Q E h => ?_) (fun cdv A outer s H vs Q E hr h => ?_)
  · obtain ⟨l, o, u, p, t, rfl, _⟩ := h
    rfl
  obtain ⟨l, o, u, p, t, rfl, hT, hl, ho, hu, q⟩ := h
  refine ⟨_, (pss_cons (ps_if (pt_not (pt_val (pe_own O_fits hr (by rfl) pass0 (pa_cons (pv 0) (pa_cons (pv 1) pa_nil))))) (pss_one (ps_raise rfl (by rfl) m_NoFit x_NoFit (pa_cons pe_str pa_nil) thr_cx)) pss_nil)
      (pss_cons (ps_set (i := 2) sc_spliced.nd rfl (Or.inl rfl) (pe_ix ix_tup (pv 1) pe_int (fun _ _ => rfl)))
      (pss_cons (ps_set (i := 3) sc_spliced.nd rfl (Or.inl rfl) (pe_ix ix_tup (pv 1) pe_int (fun _ _ => rfl)))
      (pss_cons (ps_set (i := 4) sc_spliced.nd rfl (Or.inl rfl) (pe_ix ix_tup (pv 1) pe_int (fun _ _ => rfl)))
      (pss_one (ps_ret (pe_op op_adS (pe_op op_adS (pe_slice sl_str (pv 0) po_none (po_some (pv 2))) (pv 4)) (pe_slice sl_str (pv 0) (po_some (pe_op op_add (pv 2) (pe_callB call_lenS (by rfl) m_len PySem.boot_len (pa_cons (pv 3) pa_nil)))) po_none)))))))), ?_⟩
  refine ⟨_, rfl, _, rfl, l, o, p, t, _, rfl, hT, hl, ho, _, rfl, ?_⟩
  cases e : fitB l p o with
  | true =>
    rw [e] at q
    obtain ⟨h0, h1, _⟩ := fit_iff.mp e
    have q' : Q (.str (S (cutL l none (some p) ++ u ++ cutL l (some (p + o.length)) none))) H := by
      rw [cutL_j l h0, cutL_i l (by omega), show (p + (o.length : Int)).toNat = p.toNat + o.length by omega]
      exact q
    have z1 := cutL_le l none (some p)
    have z2 := cutL_le l (some (p + o.length)) none
    refine iteF ⟨_, rfl, t, _, _, _, rfl, rfl, hT, rfl, ?_⟩
    refine ⟨_, rfl, t, _, _, _, rfl, rfl, hT, rfl, ?_⟩
    refine ⟨_, rfl, t, _, _, _, rfl, rfl, hT, rfl, ?_⟩
    exact ⟨_, rfl, _, rfl, _, rfl, l, rfl, small (by omega), _, rfl, _, _, rfl, rfl, small (by omega), _, rfl, _, rfl, _, rfl, o, rfl, small (by omega), _, _, rfl, rfl, _, rfl, l, rfl, small (by omega), _, _, rfl, rfl, small (by rw [List.length_append]; omega), q'⟩
  | false =>
    rw [e] at q
    exact iteT ⟨by show 1 ≤ sizeLine; decide, q⟩
end

/-! modehand.splices: turned -/
def sp_turned (K : PySem.W.Frag) : Sp := fun vs H Q _ => ∃ (t : Addr) (x y z : V), vs = [.ref t] ∧ SqT K H t [x, y, z] ∧ ∀ p, H p = none → Q (.ref p) (upd H p (.tup [x, z, y]))
section
variable {P : Program} {w : World} {K : PySem.W.Frag} {mg : Str → Option Value} {base : Heap} {f : Addr} {fd : FuncData}
theorem sc_turned : FnScope ["splice"] ["splice"] (defScope s_turned) := ⟨rfl, rfl, rfl, by decide +kernel, rfl, by decide +kernel, by decide +kernel⟩
theorem ok_turned (F : Fun K "turned" "turned" s_turned f fd) : FnOk P w K mg base CX0 1 f fd ["splice"] (sp_turned K) := by
  refine F.ok sc_turned (fun vs H Q E h => ?_) (fun cdv A outer s H vs Q E hr h => ?_)
  · obtain ⟨t, x, y, z, rfl, _⟩ := h
    rfl
  obtain ⟨t, x, y, z, rfl, hT, q⟩ := h
  refine ⟨_, (pss_one (ps_ret (pe_tup (pa_cons (pe_ix ix_tup (pv 0) pe_int (fun _ _ => rfl)) (pa_cons (pe_ix ix_tup (pv 0) pe_int (fun _ _ => rfl)) (pa_cons (pe_ix ix_tup (pv 0) pe_int (fun _ _ => rfl)) pa_nil)))))), ?_⟩
  exact ⟨_, rfl, t, _, _, _, rfl, rfl, hT, rfl, _, rfl, t, _, _, _, rfl, rfl, hT, rfl, _, rfl, t, _, _, _, rfl, rfl, hT, rfl, (by show 3 ≤ sizeLine; decide), q⟩
end

/-! rows of splices -/
abbrev Trip := Int × List Nat × List Nat
abbrev trip (x : Trip) : List V := [.int x.1, .str (S x.2.1), .str (S x.2.2)]
def turnT (x : Trip) : Trip := (x.1, x.2.2, x.2.1)
def Row (H : Hp) (ts : List Addr) (xs : List Trip) : Prop := ts.length = xs.length ∧ ∀ (i : Nat) t x, ts[i]? = some t → xs[i]? = some x → H t = some (.tup (trip x))
theorem Row.same {H H' : Hp} {ts : List Addr} {xs : List Trip} (r : Row H ts xs) (s : Same H H') : Row H' ts xs := ⟨r.1, fun i t x h1 h2 => s _ _ (r.2 i t x h1 h2)⟩
theorem Row.nil {H : Hp} : Row H [] [] := ⟨rfl, fun i t x h => by cases h⟩
theorem Row.snoc {H : Hp} {ts : List Addr} {xs : List Trip} {t : Addr} {x : Trip} (r : Row H ts xs) (h : H t = some (.tup (trip x))) : Row H (ts ++ [t]) (xs ++ [x]) := by
  refine ⟨by simp [r.1], fun i t' x' h1 h2 => ?_⟩
  by_cases hi : i < ts.length
  · rw [List.getElem?_append_left hi] at h1
    rw [List.getElem?_append_left (by rw [← r.1]; exact hi)] at h2
    exact r.2 i t' x' h1 h2
  · rw [List.getElem?_append_right (by omega)] at h1
    rw [List.getElem?_append_right (by rw [← r.1]; omega), ← r.1] at h2
    cases e : i - ts.length with
    | zero =>
      rw [e] at h1 h2
      cases h1
      cases h2
      exact h
    | succ n => rw [e] at h1; cases h1
theorem Row.get {H : Hp} {ts : List Addr} {xs : List Trip} {i : Nat} {t : Addr} (r : Row H ts xs) (h : ts[i]? = some t) : ∃ x, xs[i]? = some x ∧ H t = some (.tup (trip x)) := by
  have hi : i < xs.length := by rw [← r.1]; exact (List.getElem?_eq_some_iff.mp h).1
  exact ⟨xs[i], List.getElem?_eq_getElem hi, r.2 i t _ h (List.getElem?_eq_getElem hi)⟩
theorem Row.updL {H : Hp} {ts : List Addr} {xs : List Trip} {D : Addr} {ys : List V} (o : HO) (r : Row H ts xs) (h : H D = some (.lst ys)) : Row (upd H D o) ts xs := ⟨r.1, fun i t x h1 h2 => by
  have e := r.2 i t x h1 h2
  have ne : t ≠ D := fun z => by rw [z, h] at e; cases e
  rw [upd_ne ne]
  exact e⟩
theorem row_at {ts : List Addr} {i : Nat} {v : V} (h : (ts.map V.ref)[i]? = some v) : ∃ t, ts[i]? = some t ∧ v = V.ref t := by
  rw [List.getElem?_map] at h
  cases e : ts[i]? with
  | none => rw [e] at h; cases h
  | some t => rw [e] at h; exact ⟨t, rfl, (Option.some.inj h).symm⟩
theorem map_snoc (ts : List Addr) (t : Addr) : ts.map V.ref ++ [V.ref t] = (ts ++ [t]).map V.ref := by simp
def walkT : List Nat → List Trip → Option (List Nat)
  | l, [] => some l
  | l, x :: r => if fitB l x.1 x.2.1 = true then walkT (putL l x.1 x.2.1 x.2.2) r else none
theorem walk_step {l m : List Nat} {xs : List Trip} {i : Nat} {x : Trip} (h : walkT l xs = walkT m (xs.drop i)) (e : xs[i]? = some x) : walkT l xs = if fitB m x.1 x.2.1 = true then walkT (putL m x.1 x.2.1 x.2.2) (xs.drop (i + 1)) else none := by
  obtain ⟨hi, e'⟩ := List.getElem?_eq_some_iff.mp e
  rw [h, List.drop_eq_getElem_cons hi, e']
  rfl
theorem put_le {l o u : List Nat} {p : Int} : (putL l p o u).length ≤ l.length + u.length := by
  unfold putL
  simp
  omega
/-! modehand.splices: all_spliced, way_back -/
def sp_all (K : PySem.W.Frag) (C : Addr) : Sp := fun vs H Q E => ∃ (l : List Nat) (a : Addr) (ts : List Addr) (xs : List Trip), vs = [.str (S l), .ref a] ∧ SqL K H a (ts.map V.ref) ∧ Row H ts xs ∧ (∀ x ∈ xs, x.2.1.length ≤ 100000 ∧ x.2.2.length ≤ 1000) ∧ xs.length ≤ 60 ∧ l.length ≤ 1000 ∧
  (∀ r, walkT l xs = some r → Q (.str (S r)) H) ∧ (walkT l xs = none → E (.ref C) none H)
section
variable {P : Program} {w : World} {K : PySem.W.Frag} {mg : Str → Option Value} {base : Heap} {f C_NoFit : Addr} {fd : FuncData}
theorem sc_all_spliced : FnScope ["text", "splices", "splice"] ["text", "splices"] (defScope s_all_spliced) := ⟨rfl, rfl, rfl, by decide +kernel, rfl, by decide +kernel, by decide +kernel⟩
theorem ok_all (F : Fun K "all_spliced" "all_spliced" s_all_spliced f fd) (O_spliced : Own P w K mg base (CXE P w) 4 "spliced" ["text", "splice"] (sp_spliced K C_NoFit)) : FnOk P w K mg base (CXE P w) 5 f fd ["text", "splices"] (sp_all K C_NoFit) := by
  refine F.okX sc_all_spliced (fun vs H Q E h => ?_) (fun cdv A outer s H vs Q E hr h => ?_)
  · obtain ⟨l, a, ts, xs, rfl, _⟩ := h
    rfl
  obtain ⟨l, a, ts, xs, rfl, hS, hR, hx, h60, hl, q1, q2⟩ := h
  refine ⟨_, (pss_cons (ps_for own_cx rfl (pi_list (pv 1)) (pg_name (i := 2) sc_all_spliced.nd rfl (Or.inl rfl)) (pss_one (ps_set (i := 0) sc_all_spliced.nd rfl (Or.inl rfl) (pe_own O_spliced hr (by rfl) (pass_cx fun _ _ _ z => z) (pa_cons (pv 0) (pa_cons (pv 2) pa_nil))))))
      (pss_one (ps_ret (pv 0)))), ?_⟩
  refine ⟨_, rfl, a, rfl, ⟨_, hS⟩, ?_⟩
  refine for_list (xs := ts.map V.ref) (fun i σ H' => H' = H ∧ ∃ (m : List Nat) (y : Option V), σ = [some (.str (S m)), some (.ref a), y] ∧ m.length ≤ 1000 + 1000 * i ∧ walkT l xs = walkT m (xs.drop i)) ⟨rfl, l, none, rfl, by omega, by simp⟩ (fun i σ H' _ h => h.1 ▸ hS) ?_ ?_
  · intro i v σ H' hv hP
    obtain ⟨rfl, m, y, rfl, hm, hw⟩ := hP
    obtain ⟨t, ht, rfl⟩ := row_at hv
    obtain ⟨x, ex, hT⟩ := hR.get ht
    have hi : i < xs.length := (List.getElem?_eq_some_iff.mp ex).1
    have hxx := hx x (List.mem_of_getElem? ex)
    have ws := walk_step hw ex
    refine ⟨_, rfl, _, rfl, m, x.2.1, x.2.2, x.1, t, rfl, SqT.of hT, by omega, by omega, by omega, ?_⟩
    cases e : fitB m x.1 x.2.1 with
    | true =>
      rw [e] at ws
      have := put_le (l := m) (o := x.2.1) (u := x.2.2) (p := x.1)
      refine iteT ⟨rfl, _, _, rfl, by omega, ws⟩
    | false =>
      rw [e] at ws
      exact iteF (q2 ws)
  · intro σ H' hP
    obtain ⟨rfl, m, y, rfl, hm, hw⟩ := hP
    have e : (ts.map V.ref).length = xs.length := by rw [List.length_map, hR.1]
    rw [e, List.drop_length] at hw
    exact ⟨_, rfl, q1 m hw⟩
end
/-! modehand.splices: way_back -/
def sp_back (K : PySem.W.Frag) : Sp := fun vs H Q _ => ∃ (a : Addr) (ts : List Addr) (xs : List Trip), vs = [.ref a] ∧ SqL K H a (ts.map V.ref) ∧ Row H ts xs ∧ xs.length ≤ 60 ∧
  ∀ (D : Addr) (ts' : List Addr) (H' : Hp), Same H H' → H D = none → H' D = some (.lst (ts'.map V.ref)) → Row H' ts' (xs.reverse.map turnT) → Q (.ref D) H'
section
variable {P : Program} {w : World} {K : PySem.W.Frag} {mg : Str → Option Value} {base : Heap} {f C_NoFit : Addr} {fd : FuncData}
theorem sc_way_back : FnScope ["splices"] ["splices"] (defScope s_way_back) := ⟨rfl, rfl, rfl, by decide +kernel, rfl, by decide +kernel, by decide +kernel⟩
theorem ok_back (F : Fun K "way_back" "way_back" s_way_back f fd) (O_turned : Own P w K mg base CX0 1 "turned" ["splice"] (sp_turned K)) (m_reversed : mg "reversed" = none) : FnOk P w K mg base CX0 2 f fd ["splices"] (sp_back K) := by
  refine F.ok sc_way_back (fun vs H Q E h => ?_) (fun cdv A outer s H vs Q E hr h => ?_)
  · obtain ⟨a, ts, xs, rfl, _⟩ := h
    rfl
  obtain ⟨a, ts, xs, rfl, hS, hR, h60, q⟩ := h
  refine ⟨_, (pss_one (ps_ret (pe_comp ["splice"] _ [] rfl (cl_none ["splice"] (by decide +kernel) rfl (by decide +kernel)) (pi_rev (by rfl) m_reversed (pa_cons (pv 0) pa_nil)) (fun _ _ _ _ => pg_name (i := 0) (nd1 _) rfl (Or.inl rfl)) (fun _ _ _ _ => pif_nil) (fun _ _ _ _ => (pe_own O_turned hr (by rfl) pass0 (pa_cons (pv 0) pa_nil)))))), ?_⟩
  have el : (ts.map V.ref).length = xs.length := by rw [List.length_map, hR.1]
  refine ⟨_, rfl, a, _, rfl, hS, fun D hD => ?_⟩
  refine comp_rev (xs := ts.map V.ref) (fun i σ H' => ∃ (y : Option V) (ts' : List Addr), σ = [y] ∧ Same H H' ∧ H' D = some (.lst (ts'.map V.ref)) ∧ Row H' ts' ((xs.reverse.take i).map turnT)) ⟨none, [], rfl, same_new hD _, upd_same, Row.nil⟩ (fun i σ H' _ h => h.choose_spec.choose_spec.2.1.seq hS) ?_ ?_
  · intro i v σ H' hi hv hP
    obtain ⟨y, ts', rfl, hs, hD', hR'⟩ := hP
    obtain ⟨t, ht, rfl⟩ := row_at hv
    obtain ⟨x, ex, hT⟩ := hR.get ht
    rw [el] at hi ex
    have hlen : ts'.length = i := by rw [hR'.1, List.length_map, List.length_take, List.length_reverse]; omega
    refine yes ?_
    refine ⟨_, rfl, t, _, _, _, rfl, SqT.of (hs _ _ hT), fun p hp => ?_⟩
    have np : D ≠ p := fun z => by rw [z, hp] at hD'; cases hD'
    have hD2 : upd H' p (.tup [.int x.1, .str (S x.2.2), .str (S x.2.1)]) D = some (.lst (ts'.map V.ref)) := by rw [upd_ne np]; exact hD'
    have R2 : Row (upd H' p (.tup [.int x.1, .str (S x.2.2), .str (S x.2.1)])) (ts' ++ [p]) ((xs.reverse.take i).map turnT ++ [turnT x]) := (hR'.same (same_new hp _)).snoc upd_same
    refine ⟨_, hD2, (by rw [List.length_map, hlen]; exact Nat.lt_of_lt_of_le hi (small (by omega))), _, ts' ++ [p], rfl, same_upd (hs.trans (same_new hp _)) hD, ?_, ?_⟩
    · rw [upd_same, map_snoc]
    · have e : xs.reverse.take (i + 1) = xs.reverse.take i ++ [x] := by
        rw [List.take_add_one]
        have z : xs.reverse[i]? = some x := by rw [List.getElem?_reverse hi]; exact ex
        rw [z]
        rfl
      rw [e, List.map_append]
      exact R2.updL _ hD2
  · intro σ H' hP
    obtain ⟨y, ts', rfl, hs, hD', hR'⟩ := hP
    rw [el, List.take_of_length_le (by simp)] at hR'
    exact q D ts' H' hs hD hD' hR'
end


end My

set_option Elab.async false
set_option linter.all false
set_option maxRecDepth 100000
set_option maxHeartbeats 4000000
namespace My
open PySem L2



/-! the program's Tree: what it keeps -/

structure Sta where
  tx : List Nat
  el : Option Nat
  sp : List Trip
  ah : Nat
  bh : Nat
structure Tr where
  ss : List Sta
  yg : Nat → Option Nat
  pr : Nat
def TupsT (H : Hp) (q : Addr) (xs : List (List V)) : Prop := ∃ as : List Addr, H q = some (.tup (as.map V.ref)) ∧ as.length = xs.length ∧ ∀ (i : Nat) (a : Addr) (t : List V), as[i]? = some a → xs[i]? = some t → H a = some (.tup t)
def StaAt (H : Hp) (t : Addr) (s : Sta) : Prop := ∃ q pl, H t = some (.tup [.str (S s.tx), optV s.el, .ref q, .ref pl]) ∧ TupsT H q (s.sp.map trip) ∧ H pl = some (.tup [nV s.ah, nV s.bh])
def KnownV (H : Hp) (K : Addr) (ss : List Sta) : Prop := ∃ as : List Addr, H K = some (.lst (as.map V.ref)) ∧ as.length = ss.length ∧ ∀ (i : Nat) (a : Addr) (s : Sta), as[i]? = some a → ss[i]? = some s → StaAt H a s
def trF (K Y : Addr) (n : Nat) : List (Str × V) := [("known", .ref K), ("youngest", .ref Y), ("present", nV n)]
theorem tr_known (K Y : Addr) (n : Nat) : (trF K Y n).lookup ("known" : Str) = some (.ref K) := by unfold trF; rfl
theorem tr_young (K Y : Addr) (n : Nat) : (trF K Y n).lookup ("youngest" : Str) = some (.ref Y) := by unfold trF; rfl
theorem tr_pres (K Y : Addr) (n : Nat) : (trF K Y n).lookup ("present" : Str) = some (nV n) := by unfold trF; rfl
theorem tr_put (K Y : Addr) (n m : Nat) : putF "present" (nV m) (trF K Y n) = trF K Y m := by unfold trF; rfl
structure TreT (K : PySem.W.Frag) (C : Addr) : Prop where
  cl : Cls K C
  nK : NoAttr K C "known"
  nY : NoAttr K C "youngest"
  nP : NoAttr K C "present"
structure TreeAt (C p L Y : Addr) (tr : Tr) (H : Hp) : Prop where
  at_ : ∃ dx, H p = some (.ins C dx (trF L Y tr.pr))
  kn : KnownV H L tr.ss
  yg : ∃ kvs, H Y = some (.dK kvs) ∧ kvs.length ≤ tr.ss.length ∧ ∀ i : Nat, valV kvs (Sum.inl (i : Int) : Key) = (tr.yg i).map nV
  pr : tr.pr < tr.ss.length
  le : tr.ss.length ≤ 2000
  wy : ∀ i j, tr.yg i = some j → i < j ∧ j < tr.ss.length
  we : ∀ (i : Nat) (s : Sta) (e : Nat), tr.ss[i]? = some s → s.el = some e → e < i
def sp_tinit (C : Addr) : Sp := fun vs H Q _ => ∃ (x dx : Addr) (l : List Nat) (k : Nat), vs = [.ref x, .str (S l), .int (k : Int)] ∧ H x = some (.ins C dx []) ∧ ∀ (L Y : Addr) (H' : Hp), Upto x H H' → H L = none → H Y = none → TreeAt C x L Y ⟨[⟨l, none, [], k, k⟩], fun _ => none, 0⟩ H' → Q .non H'
def sp_there (C : Addr) : Sp := fun vs H Q _ => ∃ (p L Y : Addr) (tr : Tr), vs = [.ref p] ∧ TreeAt C p L Y tr H ∧ Q (nV tr.pr) H
def sp_tmany (C : Addr) : Sp := fun vs H Q _ => ∃ (p L Y : Addr) (tr : Tr), vs = [.ref p] ∧ TreeAt C p L Y tr H ∧ Q (nV tr.ss.length) H
section
variable {P : Program} {w : World} {K : PySem.W.Frag} {mg : Str → Option Value} {base : Heap} {f C : Addr} {fd : FuncData}
theorem sc_Tree__here : FnScope ["self"] ["self"] (defScope s_Tree__here) := ⟨rfl, rfl, rfl, by decide +kernel, rfl, by decide +kernel, by decide +kernel⟩
theorem ok_there (F : Fun K "here" "Tree.here" s_Tree__here f fd) (T : TreT K C) : FnOk P w K mg base CX0 1 f fd ["self"] (sp_there C) := by
  refine F.ok sc_Tree__here (fun vs H Q E h => ?_) (fun cdv A outer s H vs Q E hr h => ?_)
  · obtain ⟨p, L, Y, tr, rfl, _⟩ := h
    rfl
  obtain ⟨p, L, Y, tr, rfl, ⟨⟨dx, hp⟩, _⟩, q⟩ := h
  refine ⟨_, (pss_one (ps_ret (pe_fld (pv 0) rfl))), ?_⟩
  exact ⟨_, rfl, p, C, dx, _, _, rfl, hp, T.cl, T.nP, tr_pres _ _ _, q⟩
theorem sc_Tree__init : FnScope ["self", "text", "place"] ["self", "text", "place"] (defScope s_Tree__init) := ⟨rfl, rfl, rfl, by decide +kernel, rfl, by decide +kernel, by decide +kernel⟩
theorem ok_tinit (F : Fun K "__init__" "Tree.__init__" s_Tree__init f fd) (T : TreT K C) : FnOk P w K mg base CX0 1 f fd ["self", "text", "place"] (sp_tinit C) := by
  refine F.ok sc_Tree__init (fun vs H Q E h => ?_) (fun cdv A outer s H vs Q E hr h => ?_)
  · obtain ⟨x, dx, l, k, rfl, _⟩ := h
    rfl
  obtain ⟨x, dx, l, k, rfl, hx, q⟩ := h
  refine ⟨_, (pss_cons (ps_fld (pv 0) (pe_lst (pa_cons (pe_tup (pa_cons (pv 1) (pa_cons pe_non (pa_cons (pe_tup pa_nil) (pa_cons (pe_tup (pa_cons (pv 2) (pa_cons (pv 2) pa_nil))) pa_nil))))) pa_nil)) rfl)
      (pss_cons (ps_fld (pv 0) pe_dnewK rfl)
      (pss_one (ps_fld (pv 0) pe_int rfl)))), ?_⟩
  refine ⟨_, rfl, (by show 0 ≤ sizeLine; decide), fun a1 h1 => ?_⟩
  refine ⟨_, rfl, _, rfl, (by show 2 ≤ sizeLine; decide), fun a2 h2 => ⟨(by show 4 ≤ sizeLine; decide), fun a3 h3 => ⟨(by show 1 ≤ sizeLine; decide), fun L hL => ?_⟩⟩⟩
  have e1 := same_new h1 (.tup [])
  have e2 := same_new h2 (.tup [.int (k : Int), .int (k : Int)])
  have e3 := same_new h3 (.tup [.str (S l), .non, .ref a1, .ref a2])
  have e4 := same_new hL (.lst [.ref a3])
  have SA := e1.trans (e2.trans (e3.trans e4))
  have hx1 := SA _ _ hx
  have g1 := e4 _ _ (e3 _ _ (e2 _ _ (upd_same (H := H) (a := a1) (o := .tup []))))
  have g2 := e4 _ _ (e3 _ _ (upd_same (H := upd H a1 (.tup [])) (a := a2) (o := .tup [.int (k : Int), .int (k : Int)])))
  have g3 := e4 _ _ (upd_same (H := upd (upd H a1 (.tup [])) a2 (.tup [.int (k : Int), .int (k : Int)])) (a := a3) (o := .tup [.str (S l), .non, .ref a1, .ref a2]))
  have hL0 : H L = none := (e1.trans (e2.trans e3)).free hL
  have gL : upd (upd (upd (upd H a1 (.tup [])) a2 (.tup [.int (k : Int), .int (k : Int)])) a3 (.tup [.str (S l), .non, .ref a1, .ref a2])) L (.lst [.ref a3]) L = some (.lst [.ref a3]) := upd_same
  generalize upd (upd (upd (upd H a1 (.tup [])) a2 (.tup [.int (k : Int), .int (k : Int)])) a3 (.tup [.str (S l), .non, .ref a1, .ref a2])) L (.lst [.ref a3]) = H1 at SA hx1 g1 g2 g3 gL
  refine ⟨_, rfl, x, C, dx, _, rfl, hx1, T.cl, T.nK, (by show 0 < 1000; decide), ?_⟩
  have nx : ∀ b u, H1 b = some u → (∀ fs, u ≠ .ins C dx fs) → b ≠ x := fun b u e n z => by
    rw [z, hx1] at e
    exact n _ (Option.some.inj e).symm
  intro Y hY
  have hxY : x ≠ Y := fun z => by
    rw [← z, upd_same] at hY
    cases hY
  have hYH : H1 Y = none := by rw [upd_ne (Ne.symm hxY)] at hY; exact hY
  refine ⟨_, rfl, x, C, dx, _, rfl, (by rw [upd_ne hxY, upd_same]), T.cl, T.nY, (by show 1 < 1000; decide), ?_⟩
  refine ⟨_, rfl, x, C, dx, _, rfl, upd_same, T.cl, T.nP, (by show 2 < 1000; decide), ?_⟩
  have up : ∀ b u, b ≠ x → H1 b = some u → upd (upd (upd (upd H1 x (.ins C dx (putF "known" (.ref L) []))) Y (.dK [])) x (.ins C dx (putF "youngest" (.ref Y) (putF "known" (.ref L) [])))) x (.ins C dx (putF "present" (.int 0) (putF "youngest" (.ref Y) (putF "known" (.ref L) [])))) b = some u := fun b u n e => by
    have nY : b ≠ Y := fun z => by rw [z, hYH] at e; cases e
    rw [upd_ne n, upd_ne n, upd_ne nY, upd_ne n]
    exact e
  refine q L Y _ (((SA.upto x).trans (upto_upd x _ _)).trans (((same_new hY _).upto x).trans ((upto_upd x _ _).trans (upto_upd x _ _)))) hL0 (SA.free hYH) ⟨⟨dx, ?_⟩, ⟨[a3], ?_, rfl, fun i a s e1' e2' => ?_⟩, ⟨[], ?_, Nat.zero_le _, fun _ => rfl⟩, (by show 0 < 1; decide), (by show 1 ≤ 2000; decide), (fun _ _ z => by cases z), fun i s e z1 z2 => ?_⟩
  · rw [upd_same]
    rfl
  · exact up L _ (nx L _ gL (fun fs z => by cases z)) gL
  · cases i with
    | succ i => cases e1'
    | zero =>
      cases e1'
      cases e2'
      exact ⟨a1, a2, up a3 _ (nx a3 _ g3 (fun fs z => by cases z)) g3, ⟨[], up a1 _ (nx a1 _ g1 (fun fs z => by cases z)) g1, rfl, (fun i a t z => by cases z)⟩, up a2 _ (nx a2 _ g2 (fun fs z => by cases z)) g2⟩
  · rw [upd_ne (Ne.symm hxY), upd_ne (Ne.symm hxY), upd_same]
  · cases i with
    | succ i => cases z1
    | zero => cases z1; cases z2
end

section
variable {P : Program} {w : World} {K : PySem.W.Frag} {mg : Str → Option Value} {base : Heap} {f C : Addr} {fd : FuncData}
theorem sc_Tree__many : FnScope ["self"] ["self"] (defScope s_Tree__many) := ⟨rfl, rfl, rfl, by decide +kernel, rfl, by decide +kernel, by decide +kernel⟩
theorem ok_tmany (F : Fun K "many" "Tree.many" s_Tree__many f fd) (T : TreT K C) (m_len : mg "len" = none) : FnOk P w K mg base CX0 1 f fd ["self"] (sp_tmany C) := by
  refine F.ok sc_Tree__many (fun vs H Q E h => ?_) (fun cdv A outer s H vs Q E hr h => ?_)
  · obtain ⟨p, L, Y, tr, rfl, _⟩ := h
    rfl
  obtain ⟨p, L, Y, tr, rfl, ⟨⟨dx, hp⟩, ⟨as, h1, h2, _⟩, _⟩, q⟩ := h
  refine ⟨_, (pss_one (ps_ret (pe_callB call_len_seq (by rfl) m_len PySem.boot_len (pa_cons (pe_fld (pv 0) rfl) pa_nil)))), ?_⟩
  refine ⟨_, rfl, p, C, dx, _, _, rfl, hp, T.cl, T.nK, tr_known _ _ _, L, _, rfl, .inl (SqL.of h1), ?_⟩
  show Q (V.int (((as.map V.ref).length : Nat) : Int)) H
  rw [List.length_map, h2]
  exact q
end

end My

set_option Elab.async false
set_option linter.all false
set_option maxRecDepth 100000
set_option maxHeartbeats 4000000
namespace My
open PySem L2





/-! the program's Tree: what may be refused -/

def noSt (N : Addr) (v : V) (H : Hp) (E : XK) : Prop := ∀ dx, H dx = none → E (.ref N) (some dx) (upd H dx (.xd [("number", v)]))
structure NoSt (P : Program) (w : World) (K : PySem.W.Frag) (mg : Str → Option Value) (base : Heap) (N : Addr) : Prop where
  ex : ∃ fI fd, mg "NoState" = some (.ref N) ∧ MkX K N fI "number" ∧ FnOk P w K mg base CX0 1 fI fd ["self", "number"] (spInit K "number") ∧ Binds K fd ["self", "number"] []
def sp_tcheck (C N : Addr) : Sp := fun vs H Q E => ∃ (p L Y : Addr) (tr : Tr) (z : Int), vs = [.ref p, .int z] ∧ TreeAt C p L Y tr H ∧ (0 ≤ z → z < tr.ss.length → Q .non H) ∧ ((z < 0 ∨ (tr.ss.length : Int) ≤ z) → noSt N (.int z) H E)
def sp_tget (C N : Addr) (g : Hp → Sta → VK → Prop) : Sp := fun vs H Q E => ∃ (p L Y : Addr) (tr : Tr) (z : Int), vs = [.ref p, .int z] ∧ TreeAt C p L Y tr H ∧ (∀ (i : Nat) (s : Sta), z = i → tr.ss[i]? = some s → g H s Q) ∧ ((z < 0 ∨ (tr.ss.length : Int) ≤ z) → noSt N (.int z) H E)
def gText (H : Hp) (s : Sta) (Q : VK) : Prop := Q (.str (S s.tx)) H
def gElder (H : Hp) (s : Sta) (Q : VK) : Prop := Q (optV s.el) H
def gPlaces (H : Hp) (s : Sta) (Q : VK) : Prop := ∀ pl, H pl = some (.tup [nV s.ah, nV s.bh]) → Q (.ref pl) H
def gSpl (H : Hp) (s : Sta) (Q : VK) : Prop := ∀ D H', Same H H' → H D = none → TupsV H' D (s.sp.map trip) → Q (.ref D) H'
theorem TreeAt.get {C p L Y : Addr} {tr : Tr} {H : Hp} (T : TreeAt C p L Y tr H) {i : Nat} {s : Sta} (e : tr.ss[i]? = some s) : ∃ xs a, H L = some (.lst xs) ∧ xs.length = tr.ss.length ∧ atI xs (i : Int) = some (.ref a) ∧ StaAt H a s := by
  obtain ⟨as, h1, h2, h3⟩ := T.kn
  have hi : i < as.length := by rw [h2]; exact (List.getElem?_eq_some_iff.mp e).1
  have ea : as[i]? = some as[i] := List.getElem?_eq_getElem hi
  exact ⟨_, as[i], h1, by rw [List.length_map, h2], atI_nat (by rw [List.getElem?_map, ea]; rfl), h3 i _ s ea e⟩
section
variable {P : Program} {w : World} {K : PySem.W.Frag} {mg : Str → Option Value} {base : Heap} {f C N : Addr} {fd : FuncData}
theorem sc_NoState__init : FnScope ["self", "number"] ["self", "number"] (defScope s_NoState__init) := ⟨rfl, rfl, rfl, by decide +kernel, rfl, by decide +kernel, by decide +kernel⟩
theorem ok_nsinit (F : Fun K "__init__" "NoState.__init__" s_NoState__init f fd) : FnOk P w K mg base CX0 1 f fd ["self", "number"] (spInit K "number") := by
  refine F.ok sc_NoState__init (fun vs H Q E h => ?_) (fun cdv A outer s H vs Q E hr h => ?_)
  · obtain ⟨e, C, t, v, rfl, _⟩ := h
    rfl
  obtain ⟨e, C, t, v, rfl, he, c, q⟩ := h
  refine ⟨_, (pss_one (ps_fldX (pv 0) (pv 1) rfl)), ?_⟩
  exact ⟨_, rfl, _, rfl, e, C, t, rfl, he, c, fun dx h1 h2 => q dx h1 h2⟩
theorem sc_Tree__check : FnScope ["self", "number"] ["self", "number"] (defScope s_Tree__check) := ⟨rfl, rfl, rfl, by decide +kernel, rfl, by decide +kernel, by decide +kernel⟩
theorem ok_tcheck (F : Fun K "check" "Tree.check" s_Tree__check f fd) (T : TreT K C) (NS : NoSt P w K mg base N) (O_is_whole : Own P w K mg base CX0 1 "is_whole" ["value"] sp_whole) (m_len : mg "len" = none) : FnOk P w K mg base (CXD P w) 3 f fd ["self", "number"] (sp_tcheck C N) := by
  obtain ⟨fI, fdI, m_NoState, k_NoState, F_NoState, b_NoState⟩ := NS.ex
  refine F.okD sc_Tree__check (fun vs H Q E h => ?_) (fun cdv A outer s H vs Q E hr h => ?_)
  · obtain ⟨p, L, Y, tr, z, rfl, _⟩ := h
    rfl
  obtain ⟨p, L, Y, tr, z, rfl, ⟨⟨dx, hp⟩, ⟨as, h1, h2, _⟩, _⟩, q1, q2⟩ := h
  refine ⟨_, (pss_one (ps_if (PW.pt (pw_or (pt_not (pt_val (pe_own O_is_whole hr (by rfl) pass0 (pa_cons (pv 1) pa_nil)))) (pw_or1 (pt_not (pt_chain op_le op_lt pe_int (pv 1) (pe_callB call_len_seq (by rfl) m_len PySem.boot_len (pa_cons (pe_fld (pv 0) rfl) pa_nil))))))) (pss_one (ps_raiseI rfl rfl (by rfl) m_NoState k_NoState F_NoState b_NoState (hr.mono (by decide)) (pa_cons (pv 1) pa_nil) thrD_cx)) pss_nil)), ?_⟩
  refine ⟨_, rfl, z, rfl, _, rfl, iteF ?_⟩
  refine ⟨_, rfl, _, _, rfl, rfl, _, rfl, ?_⟩
  have el : ((as.map V.ref).length : Int) = (tr.ss.length : Int) := by rw [List.length_map, h2]
  by_cases z0 : 0 ≤ z
  · refine iteDT z0 ?_
    refine ⟨_, rfl, p, C, dx, _, _, rfl, hp, T.cl, T.nK, tr_known _ _ _, L, _, rfl, .inl (SqL.of h1), ?_⟩
    refine ⟨_, _, rfl, rfl, _, rfl, ?_⟩
    by_cases z1 : z < ((as.map V.ref).length : Int)
    · exact iteNS z1 (q1 z0 (by omega))
    · exact iteNF z1 ⟨_, rfl, _, rfl, fun dx h => q2 (.inr (by omega)) dx h⟩
  · exact iteDF z0 ⟨_, rfl, iteT ⟨_, rfl, _, rfl, fun dx h => q2 (.inl (by omega)) dx h⟩⟩
theorem sc_Tree__text_of : FnScope ["self", "number"] ["self", "number"] (defScope s_Tree__text_of) := ⟨rfl, rfl, rfl, by decide +kernel, rfl, by decide +kernel, by decide +kernel⟩
theorem ok_ttext (F : Fun K "text_of" "Tree.text_of" s_Tree__text_of f fd) (T : TreT K C) (O_Tree__check : OwnM P w K mg base (CXD P w) 3 C "check" ["self", "number"] (sp_tcheck C N)) : FnOk P w K mg base (CXD P w) 4 f fd ["self", "number"] (sp_tget C N gText) := by
  refine F.okD sc_Tree__text_of (fun vs H Q E h => ?_) (fun cdv A outer s H vs Q E hr h => ?_)
  · obtain ⟨p, L, Y, tr, z, rfl, _⟩ := h
    rfl
  obtain ⟨p, L, Y, tr, z, rfl, TA, q1, q2⟩ := h
  obtain ⟨dx, hp⟩ := TA.at_
  refine ⟨_, (pss_cons (ps_expr (pe_ownM O_Tree__check hr (pv 0) (pass_cxD fun _ _ _ z => z) (pa_cons (pv 1) pa_nil)))
      (pss_one (ps_ret (pe_ix ix_tup (pe_ix ix_list (pe_fld (pv 0) rfl) (pv 1) (fun _ _ => rfl)) pe_int (fun _ _ => rfl))))), ?_⟩
  refine ⟨_, rfl, p, dx, _, rfl, hp, rfl, _, rfl, p, L, Y, tr, z, rfl, TA, fun z0 z1 => ?_, fun hz => q2 hz⟩
  obtain ⟨i, rfl⟩ : ∃ i : Nat, z = (i : Int) := ⟨_, (Int.toNat_of_nonneg z0).symm⟩
  have hi : i < tr.ss.length := by omega
  have es : tr.ss[i]? = some tr.ss[i] := List.getElem?_eq_getElem hi
  obtain ⟨xs, a, hL, hlen, hat, q, pl, hA, hq, hpl⟩ := TA.get es
  have qq := q1 i _ rfl es
  generalize tr.ss[i] = sta at qq hA hq hpl
  exact ⟨_, rfl, p, C, dx, _, _, rfl, hp, T.cl, T.nK, tr_known _ _ _, _, rfl, L, _, _, _, rfl, rfl, SqL.of hL, hat, a, _, _, _, rfl, rfl, SqT.of hA, rfl, qq⟩
theorem sc_Tree__elder_of : FnScope ["self", "number"] ["self", "number"] (defScope s_Tree__elder_of) := ⟨rfl, rfl, rfl, by decide +kernel, rfl, by decide +kernel, by decide +kernel⟩
theorem ok_telder (F : Fun K "elder_of" "Tree.elder_of" s_Tree__elder_of f fd) (T : TreT K C) (O_Tree__check : OwnM P w K mg base (CXD P w) 3 C "check" ["self", "number"] (sp_tcheck C N)) : FnOk P w K mg base (CXD P w) 4 f fd ["self", "number"] (sp_tget C N gElder) := by
  refine F.okD sc_Tree__elder_of (fun vs H Q E h => ?_) (fun cdv A outer s H vs Q E hr h => ?_)
  · obtain ⟨p, L, Y, tr, z, rfl, _⟩ := h
    rfl
  obtain ⟨p, L, Y, tr, z, rfl, TA, q1, q2⟩ := h
  obtain ⟨dx, hp⟩ := TA.at_
  refine ⟨_, (pss_cons (ps_expr (pe_ownM O_Tree__check hr (pv 0) (pass_cxD fun _ _ _ z => z) (pa_cons (pv 1) pa_nil)))
      (pss_one (ps_ret (pe_ix ix_tup (pe_ix ix_list (pe_fld (pv 0) rfl) (pv 1) (fun _ _ => rfl)) pe_int (fun _ _ => rfl))))), ?_⟩
  refine ⟨_, rfl, p, dx, _, rfl, hp, rfl, _, rfl, p, L, Y, tr, z, rfl, TA, fun z0 z1 => ?_, fun hz => q2 hz⟩
  obtain ⟨i, rfl⟩ : ∃ i : Nat, z = (i : Int) := ⟨_, (Int.toNat_of_nonneg z0).symm⟩
  have hi : i < tr.ss.length := by omega
  have es : tr.ss[i]? = some tr.ss[i] := List.getElem?_eq_getElem hi
  obtain ⟨xs, a, hL, hlen, hat, q, pl, hA, hq, hpl⟩ := TA.get es
  have qq := q1 i _ rfl es
  generalize tr.ss[i] = sta at qq hA hq hpl
  exact ⟨_, rfl, p, C, dx, _, _, rfl, hp, T.cl, T.nK, tr_known _ _ _, _, rfl, L, _, _, _, rfl, rfl, SqL.of hL, hat, a, _, _, _, rfl, rfl, SqT.of hA, rfl, qq⟩
theorem sc_Tree__places_of : FnScope ["self", "number"] ["self", "number"] (defScope s_Tree__places_of) := ⟨rfl, rfl, rfl, by decide +kernel, rfl, by decide +kernel, by decide +kernel⟩
theorem ok_tplc (F : Fun K "places_of" "Tree.places_of" s_Tree__places_of f fd) (T : TreT K C) (O_Tree__check : OwnM P w K mg base (CXD P w) 3 C "check" ["self", "number"] (sp_tcheck C N)) : FnOk P w K mg base (CXD P w) 4 f fd ["self", "number"] (sp_tget C N gPlaces) := by
  refine F.okD sc_Tree__places_of (fun vs H Q E h => ?_) (fun cdv A outer s H vs Q E hr h => ?_)
  · obtain ⟨p, L, Y, tr, z, rfl, _⟩ := h
    rfl
  obtain ⟨p, L, Y, tr, z, rfl, TA, q1, q2⟩ := h
  obtain ⟨dx, hp⟩ := TA.at_
  refine ⟨_, (pss_cons (ps_expr (pe_ownM O_Tree__check hr (pv 0) (pass_cxD fun _ _ _ z => z) (pa_cons (pv 1) pa_nil)))
      (pss_one (ps_ret (pe_ix ix_tup (pe_ix ix_list (pe_fld (pv 0) rfl) (pv 1) (fun _ _ => rfl)) pe_int (fun _ _ => rfl))))), ?_⟩
  refine ⟨_, rfl, p, dx, _, rfl, hp, rfl, _, rfl, p, L, Y, tr, z, rfl, TA, fun z0 z1 => ?_, fun hz => q2 hz⟩
  obtain ⟨i, rfl⟩ : ∃ i : Nat, z = (i : Int) := ⟨_, (Int.toNat_of_nonneg z0).symm⟩
  have hi : i < tr.ss.length := by omega
  have es : tr.ss[i]? = some tr.ss[i] := List.getElem?_eq_getElem hi
  obtain ⟨xs, a, hL, hlen, hat, q, pl, hA, hq, hpl⟩ := TA.get es
  have qq := q1 i _ rfl es
  generalize tr.ss[i] = sta at qq hA hq hpl
  exact ⟨_, rfl, p, C, dx, _, _, rfl, hp, T.cl, T.nK, tr_known _ _ _, _, rfl, L, _, _, _, rfl, rfl, SqL.of hL, hat, a, _, _, _, rfl, rfl, SqT.of hA, rfl, qq pl hpl⟩
end

section
variable {P : Program} {w : World} {K : PySem.W.Frag} {mg : Str → Option Value} {base : Heap} {f C N : Addr} {fd : FuncData}
theorem sc_Tree__splices_of : FnScope ["self", "number"] ["self", "number"] (defScope s_Tree__splices_of) := ⟨rfl, rfl, rfl, by decide +kernel, rfl, by decide +kernel, by decide +kernel⟩
theorem ok_tspl (F : Fun K "splices_of" "Tree.splices_of" s_Tree__splices_of f fd) (T : TreT K C) (O_Tree__check : OwnM P w K mg base (CXD P w) 3 C "check" ["self", "number"] (sp_tcheck C N)) (m_list : mg "list" = none) : FnOk P w K mg base (CXD P w) 4 f fd ["self", "number"] (sp_tget C N gSpl) := by
  refine F.okD sc_Tree__splices_of (fun vs H Q E h => ?_) (fun cdv A outer s H vs Q E hr h => ?_)
  · obtain ⟨p, L, Y, tr, z, rfl, _⟩ := h
    rfl
  obtain ⟨p, L, Y, tr, z, rfl, TA, q1, q2⟩ := h
  obtain ⟨dx, hp⟩ := TA.at_
  refine ⟨_, (pss_cons (ps_expr (pe_ownM O_Tree__check hr (pv 0) (pass_cxD fun _ _ _ z => z) (pa_cons (pv 1) pa_nil)))
      (pss_one (ps_ret (pe_callTy call_list_of (by rfl) m_list boot_list (pa_cons (pe_ix ix_tup (pe_ix ix_list (pe_fld (pv 0) rfl) (pv 1) (fun _ _ => rfl)) pe_int (fun _ _ => rfl)) pa_nil))))), ?_⟩
  refine ⟨_, rfl, p, dx, _, rfl, hp, rfl, _, rfl, p, L, Y, tr, z, rfl, TA, fun z0 z1 => ?_, fun hz => q2 hz⟩
  obtain ⟨i, rfl⟩ : ∃ i : Nat, z = (i : Int) := ⟨_, (Int.toNat_of_nonneg z0).symm⟩
  have hi : i < tr.ss.length := by omega
  have es : tr.ss[i]? = some tr.ss[i] := List.getElem?_eq_getElem hi
  obtain ⟨xs, a, hL, hlen, hat, q, pl, hA, hq, hpl⟩ := TA.get es
  have qq := q1 i _ rfl es
  generalize tr.ss[i] = sta at qq hA hq hpl
  obtain ⟨as, t1, t2, t3⟩ := hq
  refine ⟨_, rfl, p, C, dx, _, _, rfl, hp, T.cl, T.nK, tr_known _ _ _, _, rfl, L, _, _, _, rfl, rfl, SqL.of hL, hat, a, _, _, _, rfl, rfl, SqT.of hA, rfl, q, _, rfl, .inr (SqT.of t1), fun D hD => ?_⟩
  exact qq D _ (same_new hD _) hD ⟨as, upd_same, t2, fun i a t e1 e2 => same_new hD _ _ _ (t3 i a t e1 e2)⟩
end

end My

set_option Elab.async false
set_option linter.all false
set_option maxRecDepth 100000
set_option maxHeartbeats 4000000
namespace My
open PySem L2






/-! what stays as it was but for some objects -/
def Kp (bad : List Addr) (H H' : Hp) : Prop := (∀ a u, a ∉ bad → H a = some u → H' a = some u) ∧ ∀ a t, H a = some (.tup t) → H' a = some (.tup t)
theorem Kp.of {bad : List Addr} {H H' : Hp} (s : Same H H') : Kp bad H H' := ⟨fun a u _ h => s a u h, fun a t h => s a _ h⟩
theorem Kp.trans {bad : List Addr} {H H1 H2 : Hp} (x : Kp bad H H1) (y : Kp bad H1 H2) : Kp bad H H2 := ⟨fun a u n h => y.1 a u n (x.1 a u n h), fun a t h => y.2 a t (x.2 a t h)⟩
theorem Kp.mono {b1 b2 : List Addr} {H H' : Hp} (x : Kp b1 H H') (h : ∀ a, a ∈ b1 → a ∈ b2) : Kp b2 H H' := ⟨fun a u n e => x.1 a u (fun z => n (h a z)) e, x.2⟩
theorem Kp.upd {bad : List Addr} {H : Hp} {a : Addr} {o : HO} (h : a ∈ bad) (n : ∀ t, H a ≠ some (.tup t)) : Kp bad H (upd H a o) := ⟨fun b u nb e => by
  have ne : b ≠ a := fun z => nb (z ▸ h)
  rw [upd_ne ne]
  exact e, fun b t e => by
  have ne : b ≠ a := fun z => n t (z ▸ e)
  rw [upd_ne ne]
  exact e⟩
theorem Kp.free {bad : List Addr} {H H' : Hp} {a : Addr} (x : Kp bad H H') (h : H' a = none) (n : a ∉ bad) : H a = none := by
  cases e : H a with
  | none => rfl
  | some u => rw [x.1 a u n e] at h; cases h
theorem Kp.lst {bad : List Addr} {H H' : Hp} {D : Addr} {ts : List (List V)} (x : Kp bad H H') (n : D ∉ bad) (h : TupsV H D ts) : TupsV H' D ts := by
  obtain ⟨as, h1, h2, h3⟩ := h
  exact ⟨as, x.1 _ _ n h1, h2, fun i a t e1 e2 => x.2 _ _ (h3 i a t e1 e2)⟩
theorem Kp.sta {bad : List Addr} {H H' : Hp} {t : Addr} {s : Sta} (x : Kp bad H H') (h : StaAt H t s) : StaAt H' t s := by
  obtain ⟨q, pl, h1, ⟨as, h2, h3, h4⟩, h5⟩ := h
  exact ⟨q, pl, x.2 _ _ h1, ⟨as, x.2 _ _ h2, h3, fun i a t e1 e2 => x.2 _ _ (h4 i a t e1 e2)⟩, x.2 _ _ h5⟩
theorem Kp.tree {bad : List Addr} {H H' : Hp} {C p L Y : Addr} {tr : Tr} (x : Kp bad H H') (np : p ∉ bad) (nL : L ∉ bad) (nY : Y ∉ bad) (h : TreeAt C p L Y tr H) : TreeAt C p L Y tr H' := by
  obtain ⟨⟨dx, h1⟩, ⟨as, h2, h3, h4⟩, ⟨kvs, h5, h6⟩, h7, h8, h9, h10⟩ := h
  exact ⟨⟨dx, x.1 _ _ np h1⟩, ⟨as, x.1 _ _ nL h2, h3, fun i a s e1 e2 => x.sta (h4 i a s e1 e2)⟩, ⟨kvs, x.1 _ _ nY h5, h6⟩, h7, h8, h9, h10⟩
theorem TreeAt.same {C p L Y : Addr} {tr : Tr} {H H' : Hp} (h : TreeAt C p L Y tr H) (s : Same H H') : TreeAt C p L Y tr H' := (Kp.of (bad := []) s).tree (fun z => by cases z) (fun z => by cases z) (fun z => by cases z) h
theorem tups_row {H : Hp} {D : Addr} {xs : List Trip} (h : TupsV H D (xs.map trip)) : ∃ ts : List Addr, H D = some (.lst (ts.map V.ref)) ∧ Row H ts xs := by
  obtain ⟨as, h1, h2, h3⟩ := h
  refine ⟨as, h1, by rw [h2, List.length_map], fun i t x e1 e2 => h3 i t _ e1 ?_⟩
  rw [List.getElem?_map, e2]
  rfl
theorem Row.tups {H : Hp} {D : Addr} {ts : List Addr} {xs : List Trip} (r : Row H ts xs) (h : H D = some (.lst (ts.map V.ref))) : TupsV H D (xs.map trip) := by
  refine ⟨ts, h, by rw [List.length_map, r.1], fun i a t e1 e2 => ?_⟩
  rw [List.getElem?_map] at e2
  cases e : xs[i]? with
  | none => rw [e] at e2; cases e2
  | some x => rw [e] at e2; cases e2; exact r.2 i a x e1 e
def Tr.grown (tr : Tr) (m : List Nat) (xs : List Trip) (ah bh : Nat) : Tr := ⟨tr.ss ++ [⟨m, some tr.pr, xs, ah, bh⟩], fun i => if i = tr.pr then some tr.ss.length else tr.yg i, tr.ss.length⟩
def sp_tgrow (C F : Addr) : Sp := fun vs H Q E => ∃ (p L Y a : Addr) (tr : Tr) (s : Sta) (xs : List Trip) (ah bh : Nat), vs = [.ref p, .ref a, nV ah, nV bh] ∧ TreeAt C p L Y tr H ∧ tr.ss[tr.pr]? = some s ∧ s.tx.length ≤ 1000 ∧ TupsV H a (xs.map trip) ∧ (∀ x ∈ xs, x.2.1.length ≤ 100000 ∧ x.2.2.length ≤ 1000) ∧ xs.length ≤ 60 ∧ tr.ss.length < 2000 ∧
  (∀ m H', walkT s.tx xs = some m → Kp [p, L, Y] H H' → TreeAt C p L Y (tr.grown m xs ah bh) H' → Q (nV tr.ss.length) H') ∧ (walkT s.tx xs = none → E (.ref F) none H)
theorem nin1 {a b : Addr} (h : a ≠ b) : a ∉ [b] := fun z => h (List.mem_singleton.mp z)
theorem nin3 {a b c d : Addr} (h1 : a ≠ b) (h2 : a ≠ c) (h3 : a ≠ d) : a ∉ [b, c, d] := fun z => by
  rcases List.mem_cons.mp z with h | h
  · exact h1 h
  rcases List.mem_cons.mp h with h | h
  · exact h2 h
  exact h3 (List.mem_singleton.mp h)
section
variable {P : Program} {w : World} {K : PySem.W.Frag} {mg : Str → Option Value} {base : Heap} {f C N C_NoFit : Addr} {fd : FuncData}
theorem sc_Tree__grow : FnScope ["self", "splices", "ahead", "behind", "text"] ["self", "splices", "ahead", "behind"] (defScope s_Tree__grow) := ⟨rfl, rfl, rfl, by decide +kernel, rfl, by decide +kernel, by decide +kernel⟩
theorem ok_tgrow (F : Fun K "grow" "Tree.grow" s_Tree__grow f fd) (T : TreT K C) (O_Tree__text_of : OwnM P w K mg base (CXD P w) 4 C "text_of" ["self", "number"] (sp_tget C N gText)) (O_all_spliced : Own P w K mg base (CXD P w) 5 "all_spliced" ["text", "splices"] (sp_all K C_NoFit)) (m_len : mg "len" = none) (m_tuple : mg "tuple" = none) : FnOk P w K mg base (CXD P w) 6 f fd ["self", "splices", "ahead", "behind"] (sp_tgrow C C_NoFit) := by
  refine F.okD sc_Tree__grow (fun vs H Q E h => ?_) (fun cdv A outer s H vs Q E hr h => ?_)
  · obtain ⟨p, L, Y, a, tr, s, xs, ah, bh, rfl, _⟩ := h
    rfl
  obtain ⟨p, L, Y, a, tr, s, xs, ah, bh, rfl, TA, es, hl, hT, hx, h60, hlt, q1, q2⟩ := h
  obtain ⟨dx, hp⟩ := TA.at_
  obtain ⟨ts, hA, hR⟩ := tups_row hT
  refine ⟨_, (pss_cons (ps_set (i := 4) sc_Tree__grow.nd rfl (Or.inl rfl) (pe_own O_all_spliced hr (by rfl) (pass_cxD fun _ _ _ z => z) (pa_cons (pe_ownM O_Tree__text_of hr (pv 0) (pass_cxD fun _ _ _ z => z) (pa_cons (pe_fld (pv 0) rfl) pa_nil)) (pa_cons (pv 1) pa_nil))))
      (pss_cons (ps_expr (pe_bm PySem.F.plainAttrs_list PySem.F.slot_list_append PySem.F.type_list_append mt_append (pe_fld (pv 0) rfl) (pa_cons (pe_tup (pa_cons (pv 4) (pa_cons (pe_fld (pv 0) rfl) (pa_cons (pe_callTy call_tuple_of (by rfl) m_tuple boot_tuple (pa_cons (pv 1) pa_nil)) (pa_cons (pe_tup (pa_cons (pv 2) (pa_cons (pv 3) pa_nil))) pa_nil))))) pa_nil)))
      (pss_cons (ps_dput hr.u1 (pe_fld (pv 0) rfl) (pe_fld (pv 0) rfl) (pe_op op_sub (pe_callB call_len_seq (by rfl) m_len PySem.boot_len (pa_cons (pe_fld (pv 0) rfl) pa_nil)) pe_int) rfl)
      (pss_cons (ps_fld (pv 0) (pe_op op_sub (pe_callB call_len_seq (by rfl) m_len PySem.boot_len (pa_cons (pe_fld (pv 0) rfl) pa_nil)) pe_int) rfl)
      (pss_one (ps_ret (pe_fld (pv 0) rfl))))))), ?_⟩
  have hi := (List.getElem?_eq_some_iff.mp es).1
  refine ⟨_, rfl, p, dx, _, rfl, hp, rfl, _, rfl, p, C, dx, _, _, rfl, hp, T.cl, T.nP, tr_pres _ _ _, p, L, Y, tr, _, rfl, TA, fun i s' ei e' => ?_, fun hz => by omega⟩
  have ei' : tr.pr = i := Int.ofNat_inj.mp ei
  subst ei'
  rw [es] at e'
  cases e'
  refine ⟨_, rfl, s.tx, a, ts, xs, rfl, SqL.of hA, hR, hx, h60, hl, fun m hm => ?_, fun hn => q2 hn⟩
  have qq := fun H' => q1 m H' hm
  obtain ⟨as, kL, kl, kS⟩ := TA.kn
  refine ⟨_, rfl, p, C, dx, _, _, rfl, hp, T.cl, T.nK, tr_known _ _ _, .inl ⟨rfl, _, SqL.of kL⟩, ?_⟩
  refine ⟨_, rfl, _, rfl, p, C, dx, _, _, rfl, hp, T.cl, T.nP, tr_pres _ _ _, ?_⟩
  refine ⟨_, rfl, a, _, rfl, .inl ⟨SqL.of hA, fun b1 n1 => ?_⟩⟩
  refine ⟨_, rfl, _, rfl, (by show 2 ≤ sizeLine; decide), fun b2 n2 => ⟨(by show 4 ≤ sizeLine; decide), fun b3 n3 => ?_⟩⟩
  have e1 := same_new n1 (.tup (ts.map V.ref))
  have e2 := same_new n2 (.tup [nV ah, nV bh])
  have e3 := same_new n3 (.tup [.str (S m), nV tr.pr, .ref b1, .ref b2])
  have SA := e1.trans (e2.trans e3)
  have g1 := e3 _ _ (e2 _ _ (upd_same (H := H) (a := b1) (o := .tup (ts.map V.ref))))
  have g2 := e3 _ _ (upd_same (H := upd H b1 (.tup (ts.map V.ref))) (a := b2) (o := .tup [nV ah, nV bh]))
  have g3 : upd (upd (upd H b1 (.tup (ts.map V.ref))) b2 (.tup [nV ah, nV bh])) b3 (.tup [.str (S m), nV tr.pr, .ref b1, .ref b2]) b3 = some (.tup [.str (S m), nV tr.pr, .ref b1, .ref b2]) := upd_same
  generalize upd (upd (upd H b1 (.tup (ts.map V.ref))) b2 (.tup [nV ah, nV bh])) b3 (.tup [.str (S m), nV tr.pr, .ref b1, .ref b2]) = H3 at SA g1 g2 g3
  have T3 := TA.same SA
  obtain ⟨kvs, hY, hYl, hYv⟩ := T3.yg
  have kL3 := SA _ _ kL
  have hp3 := SA _ _ hp
  have npL : p ≠ L := fun z => by rw [z, kL3] at hp3; cases hp3
  have nYL : Y ≠ L := fun z => by rw [z, kL3] at hY; cases hY
  have npY : p ≠ Y := fun z => by rw [z, hY] at hp3; cases hp3
  have lit : (as.map V.ref).length = tr.ss.length := by rw [List.length_map, kl]
  refine ⟨L, _, _, rfl, rfl, kL3, by rw [lit]; exact Nat.lt_of_lt_of_le (show _ < 1000000 by omega) (small (Nat.le_refl _)), ?_⟩
  have hp4 : upd H3 L (.lst (as.map V.ref ++ [.ref b3])) p = some (.ins C dx (trF L Y tr.pr)) := by rw [upd_ne npL]; exact hp3
  have hL4 : upd H3 L (.lst (as.map V.ref ++ [.ref b3])) L = some (.lst (as.map V.ref ++ [.ref b3])) := upd_same
  have hY4 : upd H3 L (.lst (as.map V.ref ++ [.ref b3])) Y = some (.dK kvs) := by rw [upd_ne nYL]; exact hY
  have K4 : Kp [p, L, Y] H3 (upd H3 L (.lst (as.map V.ref ++ [.ref b3]))) := Kp.upd (by simp) (fun t z => by rw [kL3] at z; cases z)
  have ll : (as.map V.ref ++ [V.ref b3]).length = tr.ss.length + 1 := by rw [List.length_append, lit]; rfl
  generalize upd H3 L (.lst (as.map V.ref ++ [.ref b3])) = H4 at hp4 hL4 hY4 K4
  refine ⟨_, rfl, p, C, dx, _, _, rfl, hp4, T.cl, T.nK, tr_known _ _ _, L, _, rfl, .inl (SqL.of hL4), _, _, rfl, rfl, ?_⟩
  refine ⟨_, rfl, p, C, dx, _, _, rfl, hp4, T.cl, T.nY, tr_young _ _ _, ?_⟩
  refine ⟨_, rfl, p, C, dx, _, _, rfl, hp4, T.cl, T.nP, tr_pres _ _ _, ?_⟩
  have ev : V.int (((as.map V.ref ++ [V.ref b3]).length : Int) - 1) = nV tr.ss.length := by
    rw [ll]
    show V.int (((tr.ss.length + 1 : Nat) : Int) - 1) = V.int (tr.ss.length : Int)
    rw [show (((tr.ss.length + 1 : Nat) : Int) - 1) = (tr.ss.length : Int) by omega]
  refine ⟨Y, upd H4 Y (.dK (putK kvs (Sum.inl (tr.pr : Int) : Key) (nV tr.ss.length))), rfl, (by
    show DPut H4 Y _ (V.int (((as.map V.ref ++ [V.ref b3]).length : Int) - 1)) _
    rw [ev]
    exact DPut.k (k := (Sum.inl (tr.pr : Int) : Key)) hY4 (Nat.lt_of_le_of_lt hYl (Nat.lt_of_lt_of_le (show _ < 1000000 by omega) (small (Nat.le_refl _))))), ?_⟩
  have hp5 : upd H4 Y (.dK (putK kvs (Sum.inl (tr.pr : Int) : Key) (nV tr.ss.length))) p = some (.ins C dx (trF L Y tr.pr)) := by rw [upd_ne npY]; exact hp4
  have hL5 : upd H4 Y (.dK (putK kvs (Sum.inl (tr.pr : Int) : Key) (nV tr.ss.length))) L = some (.lst (as.map V.ref ++ [.ref b3])) := by rw [upd_ne (Ne.symm nYL)]; exact hL4
  have hY5 : upd H4 Y (.dK (putK kvs (Sum.inl (tr.pr : Int) : Key) (nV tr.ss.length))) Y = some (.dK (putK kvs (Sum.inl (tr.pr : Int) : Key) (nV tr.ss.length))) := upd_same
  have K5 : Kp [p, L, Y] H4 (upd H4 Y (.dK (putK kvs (Sum.inl (tr.pr : Int) : Key) (nV tr.ss.length)))) := Kp.upd (by simp) (fun t z => by rw [hY4] at z; cases z)
  generalize upd H4 Y (.dK (putK kvs (Sum.inl (tr.pr : Int) : Key) (nV tr.ss.length))) = H5 at hp5 hL5 hY5 K5
  refine ⟨_, rfl, p, C, dx, _, _, rfl, hp5, T.cl, T.nK, tr_known _ _ _, L, _, rfl, .inl (SqL.of hL5), _, _, rfl, rfl, _, rfl, p, C, dx, _, rfl, hp5, T.cl, T.nP, (by show 3 < 1000; decide), ?_⟩
  refine ⟨_, rfl, p, C, dx, _, nV tr.ss.length, rfl, upd_same, T.cl, T.nP, (by
    show (putF "present" (V.int (((as.map V.ref ++ [V.ref b3]).length : Int) - 1)) (trF L Y tr.pr)).lookup ("present" : Str) = _
    rw [ev, tr_put]
    exact tr_pres _ _ _), ?_⟩
  show Q (nV tr.ss.length) (upd H5 p (.ins C dx (putF "present" (V.int (((as.map V.ref ++ [V.ref b3]).length : Int) - 1)) (trF L Y tr.pr))))
  rw [ev, tr_put]
  have K6 : Kp [p, L, Y] H5 (upd H5 p (.ins C dx (trF L Y tr.ss.length))) := Kp.upd (by simp) (fun t z => by rw [hp5] at z; cases z)
  have KA : Kp [p, L, Y] H3 (upd H5 p (.ins C dx (trF L Y tr.ss.length))) := K4.trans (K5.trans K6)
  refine qq _ ((Kp.of SA).trans KA) ⟨⟨dx, upd_same⟩, ⟨as ++ [b3], ?_, ?_, fun i b s' i1 i2 => ?_⟩, ⟨putK kvs (Sum.inl (tr.pr : Int) : Key) (nV tr.ss.length), ?_, ?_, fun i => ?_⟩, ?_, ?_, fun i j e => ?_, fun i s' e i1 i2 => ?_⟩
  · rw [upd_ne (Ne.symm npL), List.map_append]
    exact hL5
  · show (as ++ [b3]).length = (tr.ss ++ [_]).length
    rw [List.length_append, List.length_append, kl]
    rfl
  · have i2' : (tr.ss ++ [⟨m, some tr.pr, xs, ah, bh⟩])[i]? = some s' := i2
    by_cases hi : i < as.length
    · rw [List.getElem?_append_left hi] at i1
      rw [List.getElem?_append_left (by omega)] at i2'
      exact KA.sta ((Kp.of (bad := []) SA).sta (kS i b s' i1 i2'))
    · rw [List.getElem?_append_right (by omega)] at i1
      rw [List.getElem?_append_right (by omega)] at i2'
      have hi0 : i - as.length = 0 := by
        have := (List.getElem?_eq_some_iff.mp i1).1
        simp at this
        omega
      rw [hi0] at i1
      rw [show i - tr.ss.length = 0 by omega] at i2'
      cases i1
      cases i2'
      refine KA.sta ⟨b1, b2, g3, ⟨ts, g1, by rw [List.length_map, hR.1], fun i a t j1 j2 => ?_⟩, g2⟩
      rw [List.getElem?_map] at j2
      cases e : xs[i]? with
      | none => rw [e] at j2; cases j2
      | some x => rw [e] at j2; cases j2; exact SA _ _ (hR.2 i a x j1 e)
  · rw [upd_ne (Ne.symm npY)]
    exact hY5
  · have h1 := length_putK kvs (Sum.inl (tr.pr : Int) : Key) (nV tr.ss.length)
    show _ ≤ (tr.ss ++ [_]).length
    rw [List.length_append]
    exact Nat.le_trans h1 (Nat.succ_le_succ hYl)
  · rw [valV_put, hYv i]
    show _ = Option.map nV (if i = tr.pr then some tr.ss.length else tr.yg i)
    by_cases c : i = tr.pr
    · rw [if_pos c, if_pos (by rw [c])]
      rfl
    · rw [if_neg c, if_neg (fun z => c (Int.ofNat_inj.mp (Sum.inl.inj z)))]
  · show tr.ss.length < (tr.ss ++ [_]).length
    rw [List.length_append]
    exact Nat.lt_succ_self _
  · show (tr.ss ++ [_]).length ≤ 2000
    rw [List.length_append]
    exact hlt
  · have e' : (if i = tr.pr then some tr.ss.length else tr.yg i) = some j := e
    show i < j ∧ j < (tr.ss ++ [_]).length
    rw [List.length_append]
    show i < j ∧ j < tr.ss.length + 1
    split at e'
    · cases e'
      omega
    · have := TA.wy i j e'
      omega
  · have i1' : (tr.ss ++ [⟨m, some tr.pr, xs, ah, bh⟩])[i]? = some s' := i1
    by_cases hi : i < tr.ss.length
    · rw [List.getElem?_append_left hi] at i1'
      exact TA.we i s' e i1' i2
    · rw [List.getElem?_append_right (by omega)] at i1'
      have hi0 : i - tr.ss.length = 0 := by
        have := (List.getElem?_eq_some_iff.mp i1').1
        simp at this
        omega
      rw [hi0] at i1'
      cases i1'
      cases i2
      omega
end

end My

set_option Elab.async false
set_option linter.all false
set_option maxRecDepth 100000
set_option maxHeartbeats 4000000
namespace My
open PySem L2





/-! the law's own list of states, beside the tree -/
def LSta (H : Hp) (d t : Addr) (s : Sta) : Prop := H t = some (.tup [.str (S s.tx), .ref d, nV s.ah, nV s.bh, optV s.el]) ∧ TupsV H d (s.sp.map trip)
def LStD (H : Hp) (SL L : Addr) (ds : List Addr) (ss : List Sta) : Prop := SL ≠ L ∧ ∃ as : List Addr, H SL = some (.lst (as.map V.ref)) ∧ as.length = ss.length ∧ ds.length = ss.length ∧ (∀ d ∈ ds, d ≠ L ∧ d ≠ SL) ∧ ∀ (i : Nat) a d s, as[i]? = some a → ds[i]? = some d → ss[i]? = some s → LSta H d a s
def LSt (H : Hp) (SL L : Addr) (ss : List Sta) : Prop := ∃ ds, LStD H SL L ds ss
structure GoodS (ss : List Sta) (i : Nat) (s : Sta) : Prop where
  len : s.tx.length ≤ 40 + 9 * i
  asc : ∀ c ∈ s.tx, c < 128
  few : s.sp.length ≤ 3
  sml : ∀ x ∈ s.sp, x.2.1.length ≤ 4 ∧ x.2.2.length ≤ 4
  ah : s.ah ≤ 40 + 9 * i
  bh : s.bh ≤ 40 + 9 * i
  fst : s.el = none → s.sp = [] ∧ i = 0
  old : ∀ e, s.el = some e → e < i ∧ ∃ s', ss[e]? = some s' ∧ walkT s'.tx s.sp = some s.tx
def Good (ss : List Sta) : Prop := ∀ i s, ss[i]? = some s → GoodS ss i s
theorem getElem?_snoc {α : Type} {l : List α} {x y : α} {i : Nat} (h : (l ++ [x])[i]? = some y) : (i < l.length ∧ l[i]? = some y) ∨ (i = l.length ∧ y = x) := by
  by_cases hi : i < l.length
  · rw [List.getElem?_append_left hi] at h
    exact .inl ⟨hi, h⟩
  · rw [List.getElem?_append_right (by omega)] at h
    have hi0 : i - l.length = 0 := by
      have := (List.getElem?_eq_some_iff.mp h).1
      simp at this
      omega
    rw [hi0] at h
    cases h
    exact .inr ⟨by omega, rfl⟩
theorem getElem?_pre {α : Type} {l : List α} {x y : α} {i : Nat} (h : l[i]? = some y) : (l ++ [x])[i]? = some y := by
  rw [List.getElem?_append_left (List.getElem?_eq_some_iff.mp h).1]
  exact h
theorem Good.snoc {ss : List Sta} {e : Nat} {s' : Sta} {m : List Nat} {xs : List Trip} {ah bh : Nat} (g : Good ss) (he : ss[e]? = some s') (hw : walkT s'.tx xs = some m) (hx : xs.length ≤ 3) (h4 : ∀ x ∈ xs, x.2.1.length ≤ 4 ∧ x.2.2.length ≤ 4) (hm : m.length ≤ s'.tx.length + 9) (hc : ∀ c ∈ m, c < 128) (ha : ah ≤ s'.tx.length) (hb : bh ≤ m.length) : Good (ss ++ [⟨m, some e, xs, ah, bh⟩]) := by
  intro i s h
  rcases getElem?_snoc h with ⟨hi, h'⟩ | ⟨hi, rfl⟩
  · obtain ⟨h1, h2, h3, h4, h5, h6, h7, h8⟩ := g i s h'
    exact ⟨h1, h2, h3, h4, h5, h6, h7, fun e' z => ⟨(h8 e' z).1, (h8 e' z).2.choose, getElem?_pre (h8 e' z).2.choose_spec.1, (h8 e' z).2.choose_spec.2⟩⟩
  · have hl := (g e s' he).len
    have hei := (List.getElem?_eq_some_iff.mp he).1
    refine ⟨?_, hc, hx, h4, ?_, ?_, (fun z => by cases z), fun e' z => ?_⟩
    · show m.length ≤ 40 + 9 * i
      omega
    · show ah ≤ 40 + 9 * i
      omega
    · show bh ≤ 40 + 9 * i
      omega
    · cases z
      exact ⟨by omega, s', getElem?_pre he, hw⟩
structure Both (C p L Y SL : Addr) (tr : Tr) (H : Hp) : Prop where
  tree : TreeAt C p L Y tr H
  law : LSt H SL L tr.ss
  good : Good tr.ss
theorem LStD.kp {bad : List Addr} {H H' : Hp} {SL L : Addr} {ds : List Addr} {ss : List Sta} (h : LStD H SL L ds ss) (x : Kp bad H H') (n1 : SL ∉ bad) (n2 : ∀ d ∈ ds, d ∉ bad) : LStD H' SL L ds ss := by
  obtain ⟨n, as, h1, h2, h3, h4, h5⟩ := h
  refine ⟨n, as, x.1 _ _ n1 h1, h2, h3, h4, fun i a d s e1 e2 e3 => ?_⟩
  obtain ⟨g1, g2⟩ := h5 i a d s e1 e2 e3
  exact ⟨x.2 _ _ g1, x.lst (n2 d (List.mem_of_getElem? e2)) g2⟩
theorem LStD.isl {H : Hp} {SL L : Addr} {ds : List Addr} {ss : List Sta} (h : LStD H SL L ds ss) : ∀ d ∈ ds, ∃ xs, H d = some (.lst xs) := fun d hd => by
  obtain ⟨n, as, h1, h2, h3, h4, h5⟩ := h
  obtain ⟨i, hi, e⟩ := List.getElem_of_mem hd
  have e' : ds[i]? = some d := by rw [List.getElem?_eq_getElem hi, e]
  obtain ⟨_, ys, g, _⟩ := h5 i (as[i]'(by omega)) d (ss[i]'(by omega)) (List.getElem?_eq_getElem (by omega)) e' (List.getElem?_eq_getElem (by omega))
  exact ⟨_, g⟩
theorem LStD.bad {bad : List Addr} {H : Hp} {SL L : Addr} {ds : List Addr} {ss : List Sta} (h : LStD H SL L ds ss) (hb : ∀ b ∈ bad, b = L ∨ ∀ xs, H b ≠ some (.lst xs)) : SL ∉ bad ∧ ∀ d ∈ ds, d ∉ bad := by
  have h' := h
  obtain ⟨n, as, h1, h2, h3, h4, h5⟩ := h'
  refine ⟨fun z => ?_, fun d hd z => ?_⟩
  · rcases hb _ z with w | w
    · exact n w
    · exact w _ h1
  · rcases hb _ z with w | w
    · exact (h4 d hd).1 w
    · obtain ⟨xs, g⟩ := h.isl d hd
      exact w _ g
theorem TreeAt.bad {C p L Y : Addr} {tr : Tr} {H : Hp} (h : TreeAt C p L Y tr H) : ∀ b ∈ [p, L, Y], b = L ∨ ∀ xs, H b ≠ some (.lst xs) := fun b hb => by
  rcases List.mem_cons.mp hb with rfl | hb
  · obtain ⟨dx, h⟩ := h.at_
    exact .inr fun xs z => by rw [h] at z; cases z
  rcases List.mem_cons.mp hb with rfl | hb
  · exact .inl rfl
  rw [List.mem_singleton.mp hb]
  obtain ⟨kvs, h, _⟩ := h.yg
  exact .inr fun xs z => by rw [h] at z; cases z
theorem kp_same {bad : List Addr} {H0 H H' : Hp} (s : Same H0 H) (x : Kp bad H H') (n : ∀ b ∈ bad, H0 b = none) : Same H0 H' := fun a u h => x.1 a u (fun z => by rw [n a z] at h; cases h) (s a u h)
theorem LStD.snoc {H : Hp} {SL L d t : Addr} {ds : List Addr} {ss : List Sta} {s : Sta} (h : LStD H SL L ds ss) (hs : LSta H d t s) (n1 : d ≠ L) (n2 : d ≠ SL) : ∃ xs, H SL = some (.lst xs) ∧ xs.length = ss.length ∧ LStD (upd H SL (.lst (xs ++ [.ref t]))) SL L (ds ++ [d]) (ss ++ [s]) := by
  obtain ⟨n, as, h1, h2, h3, h4, h5⟩ := h
  have K : Kp [SL] H (upd H SL (.lst (as.map V.ref ++ [.ref t]))) := Kp.upd (List.mem_singleton.mpr rfl) (fun t z => by rw [h1] at z; cases z)
  refine ⟨_, h1, by rw [List.length_map, h2], n, as ++ [t], ?_, ?_, ?_, fun d' hd => ?_, fun i a' d' s' e1 e2 e3 => ?_⟩
  · rw [upd_same, List.map_append]
    rfl
  · rw [List.length_append, List.length_append, h2]
    rfl
  · rw [List.length_append, List.length_append, h3]
    rfl
  · rcases List.mem_append.mp hd with hd | hd
    · exact h4 d' hd
    · rw [List.mem_singleton.mp hd]
      exact ⟨n1, n2⟩
  · rcases getElem?_snoc e1 with ⟨i1, e1'⟩ | ⟨i1, rfl⟩
    · rcases getElem?_snoc e2 with ⟨i2, e2'⟩ | ⟨i2, rfl⟩
      · rcases getElem?_snoc e3 with ⟨i3, e3'⟩ | ⟨i3, rfl⟩
        · obtain ⟨g1, g2⟩ := h5 i a' d' s' e1' e2' e3'
          exact ⟨K.2 _ _ g1, K.lst (nin1 (h4 d' (List.mem_of_getElem? e2')).2) g2⟩
        · omega
      · omega
    · rcases getElem?_snoc e2 with ⟨i2, e2'⟩ | ⟨i2, rfl⟩
      · omega
      · rcases getElem?_snoc e3 with ⟨i3, e3'⟩ | ⟨i3, rfl⟩
        · omega
        · exact ⟨K.2 _ _ hs.1, K.lst (nin1 n2) hs.2⟩
theorem LSt.get {H : Hp} {SL L : Addr} {ss : List Sta} {i : Nat} {s : Sta} (h : LSt H SL L ss) (e : ss[i]? = some s) : ∃ xs a d, H SL = some (.lst xs) ∧ xs.length = ss.length ∧ atI xs (i : Int) = some (.ref a) ∧ LSta H d a s ∧ d ≠ L ∧ d ≠ SL := by
  obtain ⟨ds, n, as, h1, h2, h3, h4, h5⟩ := h
  have hi := (List.getElem?_eq_some_iff.mp e).1
  have ea : as[i]? = some (as[i]'(by omega)) := List.getElem?_eq_getElem (by omega)
  have ed : ds[i]? = some (ds[i]'(by omega)) := List.getElem?_eq_getElem (by omega)
  exact ⟨_, _, _, h1, by rw [List.length_map, h2], atI_nat (by rw [List.getElem?_map, ea]; rfl), h5 i _ _ s ea ed e, h4 _ (List.mem_of_getElem? ed)⟩
/-! the splices drawn, as triples -/
def tripOf (s : Spl) : Trip := ((s.1 : Int), s.2.1, s.2.2)
theorem trip_spl (sps : List Spl) : (sps.map tripOf).map trip = splV sps := by
  rw [List.map_map]
  rfl
theorem walk_TS : ∀ {sps : List Spl} {l m : List Nat}, walkS l sps = some m → walkT l (sps.map tripOf) = some m
  | [], l, m, h => h
  | x :: xs, l, m, h => by
    have h' : (if x.1 ≤ l.length ∧ cutT l x.1 (x.1 + x.2.1.length) = x.2.1 then walkS (l.take x.1 ++ x.2.2 ++ l.drop (x.1 + x.2.1.length)) xs else none) = some m := h
    split at h'
    · rename_i c
      have ft : fitB l (x.1 : Int) x.2.1 = true := by
        unfold fitB
        rw [Bool.and_eq_true, inP_iff, decide_eq_true_eq]
        refine ⟨⟨by omega, by omega⟩, ?_⟩
        have e := cutL_nn l x.1 (x.1 + x.2.1.length)
        rw [show ((x.1 : Int) + (x.2.1.length : Int)) = ((x.1 + x.2.1.length : Nat) : Int) by omega, e]
        exact c.2
      show (if fitB l (x.1 : Int) x.2.1 = true then walkT (putL l (x.1 : Int) x.2.1 x.2.2) (xs.map tripOf) else none) = some m
      rw [if_pos ft]
      exact walk_TS h'
    · cases h'
theorem spl_small {sps : List Spl} (h : ∀ s ∈ sps, s.2.1.length ≤ 4 ∧ s.2.2.length ≤ 4) : ∀ x ∈ sps.map tripOf, x.2.1.length ≤ 4 ∧ x.2.2.length ≤ 4 := fun x hx => by
  obtain ⟨s, hs, rfl⟩ := List.mem_map.mp hx
  exact h s hs

def sp_sameT : Sp := fun vs H Q _ => ∃ v, vs = [v, v] ∧ (v = .non ∨ ∃ z, v = .int z) ∧ Q (.bl true) H
def sp_lrowT : Sp := fun vs H Q _ => ∃ (D D' : Addr) (xs : List Trip), vs = [.ref D, .ref D'] ∧ TupsV H D (xs.map trip) ∧ TupsV H D' (xs.map trip) ∧ Q (.bl true) H
theorem optV_same (a : Option Nat) : optV a = .non ∨ ∃ z, optV a = .int z := by
  cases a with
  | none => exact .inl rfl
  | some n => exact .inr ⟨_, rfl⟩
section
variable {P : Program} {w : World} {K : PySem.W.Frag} {mg : Str → Option Value} {base : Heap} {f : Addr} {fd : FuncData}
theorem sc__law_same : FnScope ["_law_found", "_law_due"] ["_law_found", "_law_due"] (defScope s__law_same) := ⟨rfl, rfl, rfl, by decide +kernel, rfl, by decide +kernel, by decide +kernel⟩
theorem ok_sameT (F : Fun K "_law_same" "_law_same" s__law_same f fd) (m_isinstance : mg "isinstance" = none) (m_int : mg "int" = none) (m_bool : mg "bool" = none) : FnOk P w K mg base CX0 1 f fd ["_law_found", "_law_due"] sp_sameT := by
  refine F.ok sc__law_same (fun vs H Q E h => ?_) (fun cdv A outer s H vs Q E hr h => ?_)
  · obtain ⟨v, rfl, _⟩ := h
    rfl
  obtain ⟨v, rfl, hv, q⟩ := h
  refine ⟨_, (pss_cons (ps_if (pt_cmpR op_isN (pv 1) pe_non (nomark _)) (pss_one (ps_ret (pe_cmpR op_isN (pv 0) pe_non (nomark _)))) pss_nil)
      (pss_one (ps_ret (pe_and (pe_callB call_isi (by rfl) m_isinstance boot_isi (pa_cons (pv 0) (pa_cons (pe_bltn (v := .ty "int") (by rfl) m_int boot_int rfl) pa_nil))) (pe_and (pe_not (pe_callB call_isi (by rfl) m_isinstance boot_isi (pa_cons (pv 0) (pa_cons (pe_bltn (v := .ty "bool") (by rfl) m_bool boot_bool rfl) pa_nil)))) (pe_one (pe_cmpR op_eq (pv 0) (pv 1) (nomark _)))))))), ?_⟩
  rcases hv with rfl | ⟨z, rfl⟩
  · exact ⟨_, rfl, rfl, _, rfl, iteDT rfl ⟨_, rfl, rfl, q⟩⟩
  · refine ⟨_, rfl, rfl, _, rfl, iteDF (fun z => by cases z) ?_⟩
    refine ⟨_, rfl, _, _, _, _, rfl, ⟨_, .inl rfl⟩, .int _, kit_ii, _, rfl, iteT ?_⟩
    refine ⟨_, rfl, _, _, _, _, rfl, ⟨_, .inl rfl⟩, .int _, kit_ib, _, rfl, _, rfl, iteT ?_⟩
    refine ⟨_, rfl, _, rfl, rfl, ?_⟩
    rw [decide_eq_true rfl]
    exact q
end

end My

set_option Elab.async false
set_option linter.all false
set_option maxRecDepth 100000
set_option maxHeartbeats 4000000
namespace My
open PySem L2







/-! the law's own comparison of rows -/
section
variable {P : Program} {w : World} {K : PySem.W.Frag} {mg : Str → Option Value} {base : Heap} {f : Addr} {fd : FuncData}
theorem sc__law_row : FnScope ["_law_found", "_law_due", "_law_one"] ["_law_found", "_law_due"] (defScope s__law_row) := ⟨rfl, rfl, rfl, by decide +kernel, rfl, by decide +kernel, by decide +kernel⟩
theorem ok_lrowT (F : Fun K "_law_row" "_law_row" s__law_row f fd) (m_isinstance : mg "isinstance" = none) (m_int : mg "int" = none) (m_bool : mg "bool" = none) (m_str : mg "str" = none) (m_tuple : mg "tuple" = none) (m_list : mg "list" = none) (m_len : mg "len" = none) : FnOk P w K mg base CX0 1 f fd ["_law_found", "_law_due"] sp_lrowT := by
  refine F.ok sc__law_row (fun vs H Q E h => ?_) (fun cdv A outer s H vs Q E hr h => ?_)
  · obtain ⟨D, D', xs, rfl, _⟩ := h
    rfl
  obtain ⟨D, D', xs, rfl, hD, hD', q⟩ := h
  obtain ⟨as, h1, r1⟩ := tups_row hD
  obtain ⟨bs, h2, r2⟩ := tups_row hD'
  refine ⟨_, (pss_cons (ps_if (PW.pt (pw_or (pt_not (pt_val (pe_callB call_isi (by rfl) m_isinstance boot_isi (pa_cons (pv 0) (pa_cons (pe_bltn (v := .ty "list") (by rfl) m_list boot_list rfl) pa_nil))))) (pw_or1 (pt_cmpR op_ne (pe_callB call_len_seq (by rfl) m_len PySem.boot_len (pa_cons (pv 0) pa_nil)) (pe_callB call_len_seq (by rfl) m_len PySem.boot_len (pa_cons (pv 1) pa_nil)) (nomark _))))) (pss_one (ps_ret pe_bl)) pss_nil)
      (pss_cons (ps_for PassesOwn.never rfl (pi_list (pv 0)) (pg_name (i := 2) sc__law_row.nd rfl (Or.inl rfl)) (pss_cons (ps_if (PW.pt (pw_or (pt_not (pt_val (pe_callB call_isi (by rfl) m_isinstance boot_isi (pa_cons (pv 2) (pa_cons (pe_bltn (v := .ty "tuple") (by rfl) m_tuple boot_tuple rfl) pa_nil))))) (pw_or (pt_cmpR op_ne (pe_callB call_len_seq (by rfl) m_len PySem.boot_len (pa_cons (pv 2) pa_nil)) pe_int (nomark _)) (pw_or (pt_val (pe_callB call_isi (by rfl) m_isinstance boot_isi (pa_cons (pe_ix ix_tup (pv 2) pe_int (fun _ _ => rfl)) (pa_cons (pe_bltn (v := .ty "bool") (by rfl) m_bool boot_bool rfl) pa_nil)))) (pw_or1 (pt_not (pt_val (pe_callB call_isi (by rfl) m_isinstance boot_isi (pa_cons (pe_ix ix_tup (pv 2) pe_int (fun _ _ => rfl)) (pa_cons (pe_bltn (v := .ty "int") (by rfl) m_int boot_int rfl) pa_nil)))))))))) (pss_one (ps_ret pe_bl)) pss_nil)
      (pss_one (ps_if (PW.pt (pw_or (pt_not (pt_val (pe_callB call_isi (by rfl) m_isinstance boot_isi (pa_cons (pe_ix ix_tup (pv 2) pe_int (fun _ _ => rfl)) (pa_cons (pe_bltn (v := .ty "str") (by rfl) m_str boot_str rfl) pa_nil))))) (pw_or1 (pt_not (pt_val (pe_callB call_isi (by rfl) m_isinstance boot_isi (pa_cons (pe_ix ix_tup (pv 2) pe_int (fun _ _ => rfl)) (pa_cons (pe_bltn (v := .ty "str") (by rfl) m_str boot_str rfl) pa_nil)))))))) (pss_one (ps_ret pe_bl)) pss_nil))))
      (pss_one (ps_ret (pe_cmpR (op_eqP hr.u1) (pv 0) (pv 1) (nomark _)))))), ?_⟩
  refine ⟨_, rfl, _, _, _, _, rfl, ⟨_, .inl rfl⟩, .lst h1, kit_ll, _, rfl, iteF ?_⟩
  refine ⟨_, rfl, D, _, rfl, .inl (SqL.of h1), _, rfl, D', _, rfl, .inl (SqL.of h2), rfl, _, rfl, ?_⟩
  refine iteNS (by rw [List.length_map, List.length_map, r1.1, r2.1]) ?_
  refine ⟨_, rfl, D, rfl, ⟨_, SqL.of h1⟩, ?_⟩
  refine for_list (xs := as.map V.ref) (fun i σ H' => H = H' ∧ ∃ y : Option V, σ = [some (.ref D), some (.ref D'), y]) ⟨rfl, none, rfl⟩ (fun i σ H' _ h => h.1 ▸ SqL.of h1) ?_ ?_
  · rintro i v σ H' hv ⟨rfl, y, rfl⟩
    obtain ⟨t, ht, rfl⟩ := row_at hv
    obtain ⟨x, ex, hT⟩ := r1.get ht
    refine ⟨_, rfl, _, _, _, _, rfl, ⟨_, .inl rfl⟩, .tup hT, kit_tt, _, rfl, iteF ?_⟩
    refine ⟨_, rfl, t, _, rfl, .inr (SqT.of hT), rfl, _, rfl, iteF ?_⟩
    refine ⟨_, rfl, t, _, _, _, rfl, rfl, SqT.of hT, rfl, _, _, _, _, rfl, ⟨_, .inl rfl⟩, .int _, kit_ib, _, rfl, iteF ?_⟩
    refine ⟨_, rfl, t, _, _, _, rfl, rfl, SqT.of hT, rfl, _, _, _, _, rfl, ⟨_, .inl rfl⟩, .int _, kit_ii, _, rfl, iteF ?_⟩
    refine ⟨_, rfl, t, _, _, _, rfl, rfl, SqT.of hT, rfl, _, _, _, _, rfl, ⟨_, .inl rfl⟩, .str _, kit_ss, _, rfl, iteF ?_⟩
    exact ⟨_, rfl, t, _, _, _, rfl, rfl, SqT.of hT, rfl, _, _, _, _, rfl, ⟨_, .inl rfl⟩, .str _, kit_ss, _, rfl, iteF ⟨rfl, _, rfl⟩⟩
  · rintro σ H' ⟨rfl, y, rfl⟩
    refine ⟨_, rfl, _, rfl, D, D', as, bs, rfl, rfl, SqL.of h1, SqL.of h2, by rw [r1.1, r2.1], fun j a b e1 e2 => ?_, q⟩
    obtain ⟨x, ex, hT⟩ := r1.get e1
    have hT2 := r2.2 j b x e2 ex
    exact ⟨trip x, SqT.of hT, SqT.of hT2, rfl, by simp [eqs, eqV]⟩
end

end My

set_option Elab.async false
set_option linter.all false
set_option maxRecDepth 100000
set_option maxHeartbeats 4000000
namespace My
open PySem L2







/-! the program's Tree: another state becomes the present one -/
theorem FnOk.mono {P : Program} {w : World} {K : PySem.W.Frag} {mg : Str → Option Value} {base : Heap} {CX : CXT} {k : Nat} {f : Addr} {fd : FuncData} {ps : List Str} {sp sp' : Sp} (F : FnOk P w K mg base CX k f fd ps sp) (h : ∀ vs H Q E, sp' vs H Q E → sp vs H Q E) : FnOk P w K mg base CX k f fd ps sp' :=
  ⟨fun vs H Q E q => F.len vs H Q E (h _ _ _ _ q), fun A outer s H args us vs Q E hr he hb hv hs => F.run A outer s H args us vs Q E hr he hb hv (h _ _ _ _ hs)⟩
theorem own_mono {P : Program} {w : World} {K : PySem.W.Frag} {mg : Str → Option Value} {base : Heap} {CX : CXT} {k : Nat} {x : Str} {ps : List Str} {sp sp' : Sp} (O : Own P w K mg base CX k x ps sp) (h : ∀ vs H Q E, sp' vs H Q E → sp vs H Q E) : Own P w K mg base CX k x ps sp' := by
  obtain ⟨f, fd, F, r⟩ := O.ex
  exact ⟨f, fd, FnOk.mono F h, r⟩
def Tr.led (tr : Tr) (i : Nat) : Tr := ⟨tr.ss, tr.yg, i⟩
theorem TreeAt.led {C p L Y dx : Addr} {tr : Tr} {H : Hp} {i : Nat} (h : TreeAt C p L Y tr H) (hp : H p = some (.ins C dx (trF L Y tr.pr))) (hi : i < tr.ss.length) : Kp [p] H (upd H p (.ins C dx (trF L Y i))) ∧ TreeAt C p L Y (tr.led i) (upd H p (.ins C dx (trF L Y i))) := by
  have K : Kp [p] H (upd H p (.ins C dx (trF L Y i))) := Kp.upd (List.mem_singleton.mpr rfl) (fun t z => by rw [hp] at z; cases z)
  obtain ⟨_, ⟨as, h2, h3, h4⟩, ⟨kvs, h5, h6⟩, h7, h8, h9, h10⟩ := h
  have n1 : L ≠ p := fun z => by rw [z, hp] at h2; cases h2
  have n2 : Y ≠ p := fun z => by rw [z, hp] at h5; cases h5
  exact ⟨K, ⟨dx, upd_same⟩, ⟨as, K.1 _ _ (nin1 n1) h2, h3, fun i a s e1 e2 => K.sta (h4 i a s e1 e2)⟩, ⟨kvs, K.1 _ _ (nin1 n2) h5, h6⟩, hi, h8, h9, h10⟩
def sp_tto (C N : Addr) : Sp := fun vs H Q E => ∃ (p L Y : Addr) (tr : Tr) (z : Int), vs = [.ref p, .int z] ∧ TreeAt C p L Y tr H ∧ (∀ (i : Nat) (s : Sta) H', z = i → tr.ss[i]? = some s → Kp [p] H H' → TreeAt C p L Y (tr.led i) H' → Q (nV s.bh) H') ∧ ((z < 0 ∨ (tr.ss.length : Int) ≤ z) → noSt N (.int z) H E)
section
variable {P : Program} {w : World} {K : PySem.W.Frag} {mg : Str → Option Value} {base : Heap} {f C N : Addr} {fd : FuncData}
theorem sc_Tree__to : FnScope ["self", "number"] ["self", "number"] (defScope s_Tree__to) := ⟨rfl, rfl, rfl, by decide +kernel, rfl, by decide +kernel, by decide +kernel⟩
theorem ok_tto (F : Fun K "to" "Tree.to" s_Tree__to f fd) (T : TreT K C) (O_Tree__check : OwnM P w K mg base (CXD P w) 3 C "check" ["self", "number"] (sp_tcheck C N)) (O_Tree__places_of : OwnM P w K mg base (CXD P w) 4 C "places_of" ["self", "number"] (sp_tget C N gPlaces)) : FnOk P w K mg base (CXD P w) 5 f fd ["self", "number"] (sp_tto C N) := by
  refine F.okD sc_Tree__to (fun vs H Q E h => ?_) (fun cdv A outer s H vs Q E hr h => ?_)
  · obtain ⟨p, L, Y, tr, z, rfl, _⟩ := h
    rfl
  obtain ⟨p, L, Y, tr, z, rfl, TA, q1, q2⟩ := h
  obtain ⟨dx, hp⟩ := TA.at_
  refine ⟨_, (pss_cons (ps_expr (pe_ownM O_Tree__check hr (pv 0) (pass_cxD fun _ _ _ z => z) (pa_cons (pv 1) pa_nil)))
      (pss_cons (ps_fld (pv 0) (pv 1) rfl)
      (pss_one (ps_ret (pe_ix ix_tup (pe_ownM O_Tree__places_of hr (pv 0) (pass_cxD fun _ _ _ z => z) (pa_cons (pv 1) pa_nil)) pe_int (fun _ _ => rfl)))))), ?_⟩
  refine ⟨_, rfl, p, dx, _, rfl, hp, rfl, _, rfl, p, L, Y, tr, z, rfl, TA, fun z0 z1 => ?_, fun hz => q2 hz⟩
  obtain ⟨i, rfl⟩ : ∃ i : Nat, z = (i : Int) := ⟨_, (Int.toNat_of_nonneg z0).symm⟩
  have hi : i < tr.ss.length := by omega
  have es : tr.ss[i]? = some tr.ss[i] := List.getElem?_eq_getElem hi
  generalize tr.ss[i] = s at es
  refine ⟨_, rfl, _, rfl, p, C, dx, _, rfl, hp, T.cl, T.nP, (by show 3 < 1000; decide), ?_⟩
  have hput : putF "present" (V.int (i : Int)) (trF L Y tr.pr) = trF L Y i := tr_put _ _ _ _
  rw [hput]
  obtain ⟨K1, T1⟩ := TA.led hp hi
  refine ⟨_, rfl, p, dx, _, rfl, upd_same, rfl, _, rfl, p, L, Y, tr.led i, (i : Int), rfl, T1, fun j s' ej es' pl hpl => ?_, fun hz => by
    have : (tr.led i).ss.length = tr.ss.length := rfl
    omega⟩
  have : i = j := Int.ofNat_inj.mp ej
  subst this
  have es'' : tr.ss[i]? = some s' := es'
  rw [es] at es''
  cases es''
  exact ⟨pl, _, _, _, rfl, rfl, SqT.of hpl, rfl, q1 i s _ rfl es K1 T1⟩
end

/-! the program's Tree: undone, done -/
def sp_tundone (C N : Addr) : Sp := fun vs H Q E => ∃ (p L Y : Addr) (tr : Tr) (s : Sta), vs = [.ref p] ∧ TreeAt C p L Y tr H ∧ tr.ss[tr.pr]? = some s ∧ (∀ e H', s.el = some e → Kp [p] H H' → TreeAt C p L Y (tr.led e) H' → Q (nV s.ah) H') ∧ (s.el = none → noSt N .non H E)
def sp_tdone (C N : Addr) : Sp := fun vs H Q E => ∃ (p L Y : Addr) (tr : Tr), vs = [.ref p] ∧ TreeAt C p L Y tr H ∧ (∀ j s H', tr.yg tr.pr = some j → tr.ss[j]? = some s → Kp [p] H H' → TreeAt C p L Y (tr.led j) H' → Q (nV s.bh) H') ∧ (tr.yg tr.pr = none → noSt N .non H E)
section
variable {P : Program} {w : World} {K : PySem.W.Frag} {mg : Str → Option Value} {base : Heap} {f C N : Addr} {fd : FuncData}
theorem sc_Tree__undone : FnScope ["self", "elder", "place"] ["self"] (defScope s_Tree__undone) := ⟨rfl, rfl, rfl, by decide +kernel, rfl, by decide +kernel, by decide +kernel⟩
theorem ok_tundone (F : Fun K "undone" "Tree.undone" s_Tree__undone f fd) (T : TreT K C) (NS : NoSt P w K mg base N) (O_Tree__elder_of : OwnM P w K mg base (CXD P w) 4 C "elder_of" ["self", "number"] (sp_tget C N gElder)) (O_Tree__places_of : OwnM P w K mg base (CXD P w) 4 C "places_of" ["self", "number"] (sp_tget C N gPlaces)) : FnOk P w K mg base (CXD P w) 5 f fd ["self"] (sp_tundone C N) := by
  obtain ⟨fI, fdI, m_NoState, k_NoState, F_NoState, b_NoState⟩ := NS.ex
  refine F.okD sc_Tree__undone (fun vs H Q E h => ?_) (fun cdv A outer s H vs Q E hr h => ?_)
  · obtain ⟨p, L, Y, tr, s, rfl, _⟩ := h
    rfl
  obtain ⟨p, L, Y, tr, s, rfl, TA, es, q1, q2⟩ := h
  obtain ⟨dx, hp⟩ := TA.at_
  have hi := (List.getElem?_eq_some_iff.mp es).1
  refine ⟨_, (pss_cons (ps_set (i := 1) sc_Tree__undone.nd rfl (Or.inl rfl) (pe_ownM O_Tree__elder_of hr (pv 0) (pass_cxD fun _ _ _ z => z) (pa_cons (pe_fld (pv 0) rfl) pa_nil)))
      (pss_cons (ps_if (pt_cmpR op_isN (pv 1) pe_non (nomark _)) (pss_one (ps_raiseI rfl rfl (by rfl) m_NoState k_NoState F_NoState b_NoState (hr.mono (by decide)) (pa_cons pe_non pa_nil) thrD_cx)) pss_nil)
      (pss_cons (ps_set (i := 2) sc_Tree__undone.nd rfl (Or.inl rfl) (pe_ix ix_tup (pe_ownM O_Tree__places_of hr (pv 0) (pass_cxD fun _ _ _ z => z) (pa_cons (pe_fld (pv 0) rfl) pa_nil)) pe_int (fun _ _ => rfl)))
      (pss_cons (ps_fld (pv 0) (pv 1) rfl)
      (pss_one (ps_ret (pv 2))))))), ?_⟩
  refine ⟨_, rfl, p, dx, _, rfl, hp, rfl, _, rfl, p, C, dx, _, _, rfl, hp, T.cl, T.nP, tr_pres _ _ _, p, L, Y, tr, _, rfl, TA, fun j s' ej es' => ?_, fun hz => by omega⟩
  have : tr.pr = j := Int.ofNat_inj.mp ej
  subst this
  rw [es] at es'
  cases es'
  show gName _ (optV s.el) _ _ _
  cases he : s.el with
  | none => exact ⟨_, rfl, rfl, _, rfl, iteDT rfl ⟨_, rfl, fun d h => q2 he d h⟩⟩
  | some e =>
    refine ⟨_, rfl, rfl, _, rfl, iteDF (fun z => by cases z) ?_⟩
    refine ⟨_, rfl, p, dx, _, rfl, hp, rfl, _, rfl, p, C, dx, _, _, rfl, hp, T.cl, T.nP, tr_pres _ _ _, p, L, Y, tr, _, rfl, TA, fun j s' ej es' pl hpl => ?_, fun hz => by omega⟩
    have : tr.pr = j := Int.ofNat_inj.mp ej
    subst this
    rw [es] at es'
    cases es'
    refine ⟨pl, _, _, _, rfl, rfl, SqT.of hpl, rfl, ?_⟩
    have hel := TA.we tr.pr s e es he
    obtain ⟨K1, T1⟩ := TA.led (i := e) hp (by omega)
    refine ⟨_, rfl, _, rfl, p, C, dx, _, rfl, hp, T.cl, T.nP, (by show 3 < 1000; decide), ?_⟩
    have hput : putF "present" (optV (some e)) (trF L Y tr.pr) = trF L Y e := tr_put _ _ _ _
    rw [hput]
    exact ⟨_, rfl, q1 e _ he K1 T1⟩
theorem sc_Tree__done : FnScope ["self"] ["self"] (defScope s_Tree__done) := ⟨rfl, rfl, rfl, by decide +kernel, rfl, by decide +kernel, by decide +kernel⟩
theorem ok_tdone (F : Fun K "done" "Tree.done" s_Tree__done f fd) (T : TreT K C) (NS : NoSt P w K mg base N) (O_Tree__to : OwnM P w K mg base (CXD P w) 5 C "to" ["self", "number"] (sp_tto C N)) : FnOk P w K mg base (CXD P w) 6 f fd ["self"] (sp_tdone C N) := by
  obtain ⟨fI, fdI, m_NoState, k_NoState, F_NoState, b_NoState⟩ := NS.ex
  refine F.okD sc_Tree__done (fun vs H Q E h => ?_) (fun cdv A outer s H vs Q E hr h => ?_)
  · obtain ⟨p, L, Y, tr, rfl, _⟩ := h
    rfl
  obtain ⟨p, L, Y, tr, rfl, TA, q1, q2⟩ := h
  obtain ⟨dx, hp⟩ := TA.at_
  obtain ⟨kvs, hY, hYl, hYv⟩ := TA.yg
  have hv := hYv tr.pr
  refine ⟨_, (pss_cons (ps_if (pt_cmp (pc_dnotin hr.u1 (pe_fld (pv 0) rfl) (pe_fld (pv 0) rfl))) (pss_one (ps_raiseI rfl rfl (by rfl) m_NoState k_NoState F_NoState b_NoState (hr.mono (by decide)) (pa_cons pe_non pa_nil) thrD_cx)) pss_nil)
      (pss_one (ps_ret (pe_ownM O_Tree__to hr (pv 0) (pass_cxD fun _ _ _ z => z) (pa_cons (pe_dget hr.u1 (pe_fld (pv 0) rfl) (pe_fld (pv 0) rfl) (fun _ _ => rfl)) pa_nil))))), ?_⟩
  refine ⟨_, rfl, p, C, dx, _, _, rfl, hp, T.cl, T.nP, tr_pres _ _ _, _, rfl, p, C, dx, _, _, rfl, hp, T.cl, T.nY, tr_young _ _ _, Y, _, rfl, DGet.k (k := (Sum.inl (tr.pr : Int) : Key)) hY, _, rfl, ?_⟩
  rw [hv]
  cases e : tr.yg tr.pr with
  | none => exact iteT ⟨_, rfl, fun d h => q2 e d h⟩
  | some j =>
    rw [e] at hv
    have hj := TA.wy _ _ e
    have es : tr.ss[j]? = some tr.ss[j] := List.getElem?_eq_getElem hj.2
    refine iteF ⟨_, rfl, p, dx, _, rfl, hp, rfl, _, rfl, p, C, dx, _, _, rfl, hp, T.cl, T.nY, tr_young _ _ _, _, rfl, p, C, dx, _, _, rfl, hp, T.cl, T.nP, tr_pres _ _ _, Y, nV j, rfl, (by
      have h := DGet.k (k := (Sum.inl (tr.pr : Int) : Key)) hY
      rw [hv] at h
      exact h), p, L, Y, tr, (j : Int), rfl, TA, fun i s H' ei ess k t => ?_, fun hz => by omega⟩
    have : j = i := Int.ofNat_inj.mp ei
    subst this
    exact q1 j s H' e ess k t
end

end My

set_option Elab.async false
set_option linter.all false
set_option maxRecDepth 100000
set_option maxHeartbeats 4000000
namespace My
open PySem L2






/-! the way from state to state, as the document says it -/
def elS (ss : List Sta) (i : Nat) : Option Nat := (ss[i]?).bind Sta.el
def spS (ss : List Sta) (i : Nat) : List Trip := ((ss[i]?).map Sta.sp).getD []
def backS (ss : List Sta) (i : Nat) : List Trip := (spS ss i).reverse.map turnT
theorem elS_of {ss : List Sta} {i : Nat} {s : Sta} (e : ss[i]? = some s) : elS ss i = s.el := by unfold elS; rw [e]; rfl
theorem spS_of {ss : List Sta} {i : Nat} {s : Sta} (e : ss[i]? = some s) : spS ss i = s.sp := by unfold spS; rw [e]; rfl
inductive IsRc (ss : List Sta) : Nat → List Nat → Prop where
  | root {i : Nat} : i < ss.length → elS ss i = none → IsRc ss i [i]
  | step {i e : Nat} {l : List Nat} : i < ss.length → elS ss i = some e → e < i → IsRc ss e l → IsRc ss i (l ++ [i])
theorem IsRc.le {ss : List Sta} {i : Nat} {c : List Nat} (h : IsRc ss i c) : ∀ x ∈ c, x ≤ i := by
  induction h with
  | root _ _ => intro x hx; rw [List.mem_singleton.mp hx]; exact Nat.le_refl _
  | step _ _ lt _ ih =>
    intro x hx
    rcases List.mem_append.mp hx with h | h
    · have := ih x h; omega
    · rw [List.mem_singleton.mp h]; exact Nat.le_refl _
theorem IsRc.lt {ss : List Sta} {i : Nat} {c : List Nat} (h : IsRc ss i c) : i < ss.length := by cases h <;> assumption
theorem IsRc.uniq {ss : List Sta} {i : Nat} {c : List Nat} (h : IsRc ss i c) : ∀ c', IsRc ss i c' → c = c' := by
  induction h with
  | root _ e =>
    intro c' h'
    cases h' with
    | root _ _ => rfl
    | step _ e' _ _ => rw [e] at e'; cases e'
  | step _ e _ _ ih =>
    intro c' h'
    cases h' with
    | root _ e' => rw [e] at e'; cases e'
    | step _ e' _ h'' =>
      rw [e] at e'
      cases e'
      rw [ih _ h'']
structure Fam (ss : List Sta) : Prop where
  few : ∀ (i : Nat) (s : Sta), ss[i]? = some s → s.sp.length ≤ 60
  root : ∀ (i : Nat) (s : Sta), ss[i]? = some s → s.el = none → i = 0
  old : ∀ (i : Nat) (s : Sta) (e : Nat), ss[i]? = some s → s.el = some e → e < i
theorem Good.fam {ss : List Sta} (g : Good ss) : Fam ss := ⟨fun i s e => Nat.le_trans (g i s e).few (by decide), fun i s e z => ((g i s e).fst z).2, fun i s e h1 h2 => ((g i s h1).old e h2).1⟩
theorem IsRc.ex {ss : List Sta} (F : Fam ss) : ∀ (n i : Nat), i ≤ n → i < ss.length → ∃ c, IsRc ss i c := by
  intro n
  induction n with
  | zero =>
    intro i hi hl
    have es : ss[i]? = some ss[i] := List.getElem?_eq_getElem hl
    cases he : ss[i].el with
    | none => exact ⟨_, .root hl (by rw [elS_of es, he])⟩
    | some e => have := F.old i _ e es he; omega
  | succ n ih =>
    intro i hi hl
    have es : ss[i]? = some ss[i] := List.getElem?_eq_getElem hl
    cases he : ss[i].el with
    | none => exact ⟨_, .root hl (by rw [elS_of es, he])⟩
    | some e =>
      have h := F.old i _ e es he
      obtain ⟨c, hc⟩ := ih e (by omega) (by omega)
      exact ⟨_, .step hl (by rw [elS_of es, he]) h hc⟩
def strip : List Nat → List Nat → List Nat × List Nat
  | a :: as, b :: bs => if a = b then strip as bs else (a :: as, b :: bs)
  | [], bs => ([], bs)
  | a :: as, [] => (a :: as, [])
theorem strip_self : ∀ xs : List Nat, strip xs xs = ([], [])
  | [] => rfl
  | x :: xs => by unfold strip; rw [if_pos rfl]; exact strip_self xs
theorem strip_l : ∀ (xs ys : List Nat) (i : Nat), i ∉ ys → strip (xs ++ [i]) ys = ((strip xs ys).1 ++ [i], (strip xs ys).2)
  | [], [], i, h => rfl
  | [], b :: bs, i, h => by
    show strip [i] (b :: bs) = _
    unfold strip
    rw [if_neg (fun z => h (by rw [z]; exact List.mem_cons_self ..))]
    rfl
  | a :: as, [], i, h => rfl
  | a :: as, b :: bs, i, h => by
    show strip (a :: (as ++ [i])) (b :: bs) = _
    unfold strip
    by_cases c : a = b
    · rw [if_pos c, if_pos c]
      exact strip_l as bs i (fun z => h (List.mem_cons_of_mem _ z))
    · rw [if_neg c, if_neg c]
      rfl
theorem strip_r : ∀ (xs ys : List Nat) (j : Nat), j ∉ xs → strip xs (ys ++ [j]) = ((strip xs ys).1, (strip xs ys).2 ++ [j])
  | [], [], j, h => rfl
  | [], b :: bs, j, h => rfl
  | a :: as, [], j, h => by
    show strip (a :: as) [j] = _
    unfold strip
    rw [if_neg (fun z => h (by rw [← z]; exact List.mem_cons_self ..))]
    rfl
  | a :: as, b :: bs, j, h => by
    show strip (a :: as) (b :: (bs ++ [j])) = _
    unfold strip
    by_cases c : a = b
    · rw [if_pos c, if_pos c]
      exact strip_r as bs j (fun z => h (List.mem_cons_of_mem _ z))
    · rw [if_neg c, if_neg c]
      rfl
def wayOf (ss : List Sta) (ci cj : List Nat) : List Trip := ((strip ci cj).1.reverse.flatMap (backS ss)) ++ (strip ci cj).2.flatMap (spS ss)
theorem way_self {ss : List Sta} {c : List Nat} : wayOf ss c c = [] := by unfold wayOf; rw [strip_self]; rfl
theorem way_up {ss : List Sta} {l cj : List Nat} {i : Nat} (h : i ∉ cj) : wayOf ss (l ++ [i]) cj = backS ss i ++ wayOf ss l cj := by
  unfold wayOf
  rw [strip_l l cj i h]
  show ((strip l cj).1 ++ [i]).reverse.flatMap (backS ss) ++ _ = _
  rw [List.reverse_append]
  show (i :: (strip l cj).1.reverse).flatMap (backS ss) ++ _ = _
  rw [List.flatMap_cons, List.append_assoc]
theorem way_down {ss : List Sta} {ci l : List Nat} {j : Nat} (h : j ∉ ci) : wayOf ss ci (l ++ [j]) = wayOf ss ci l ++ spS ss j := by
  unfold wayOf
  rw [strip_r ci l j h]
  show _ ++ ((strip ci l).2 ++ [j]).flatMap (spS ss) = _
  rw [List.flatMap_append, ← List.append_assoc]
  congr 1
  simp
theorem row_app {H : Hp} {ts us : List Addr} {xs ys : List Trip} (r : Row H ts xs) (r' : Row H us ys) : Row H (ts ++ us) (xs ++ ys) := by
  refine ⟨by rw [List.length_append, List.length_append, r.1, r'.1], fun i t x h1 h2 => ?_⟩
  by_cases hi : i < ts.length
  · rw [List.getElem?_append_left hi] at h1
    rw [List.getElem?_append_left (by rw [← r.1]; exact hi)] at h2
    exact r.2 i t x h1 h2
  · rw [List.getElem?_append_right (by omega)] at h1
    rw [List.getElem?_append_right (by rw [← r.1]; omega), ← r.1] at h2
    exact r'.2 _ t x h1 h2
/-! the program's Tree: way -/
def sp_tway (C N : Addr) : Sp := fun vs H Q E => ∃ (p L Y : Addr) (tr : Tr) (z1 z2 : Int), vs = [.ref p, .int z1, .int z2] ∧ TreeAt C p L Y tr H ∧ Fam tr.ss ∧
  (∀ (i j : Nat) (ci cj : List Nat) D H', z1 = i → z2 = j → IsRc tr.ss i ci → IsRc tr.ss j cj → Same H H' → H D = none → TupsV H' D ((wayOf tr.ss ci cj).map trip) → Q (.ref D) H') ∧
  ((z1 < 0 ∨ (tr.ss.length : Int) ≤ z1) → noSt N (.int z1) H E) ∧ (0 ≤ z1 → z1 < (tr.ss.length : Int) → (z2 < 0 ∨ (tr.ss.length : Int) ≤ z2) → noSt N (.int z2) H E)
section
variable {P : Program} {w : World} {K : PySem.W.Frag} {mg : Str → Option Value} {base : Heap} {f C N : Addr} {fd : FuncData}
theorem sc_Tree__way : FnScope ["self", "one", "other", "splices", "downwards", "number"] ["self", "one", "other"] (defScope s_Tree__way) := ⟨rfl, rfl, rfl, by decide +kernel, rfl, by decide +kernel, by decide +kernel⟩
theorem ok_tway (F : Fun K "way" "Tree.way" s_Tree__way f fd) (T : TreT K C) (O_Tree__check : OwnM P w K mg base (CXD P w) 3 C "check" ["self", "number"] (sp_tcheck C N)) (O_Tree__elder_of : OwnM P w K mg base (CXD P w) 4 C "elder_of" ["self", "number"] (sp_tget C N gElder)) (O_Tree__splices_of : OwnM P w K mg base (CXD P w) 4 C "splices_of" ["self", "number"] (sp_tget C N gSpl)) (O_way_back : Own P w K mg base CX0 2 "way_back" ["splices"] (sp_back K)) (m_reversed : mg "reversed" = none) : FnOk P w K mg base (CXD P w) 5 f fd ["self", "one", "other"] (sp_tway C N) := by
  refine F.okD sc_Tree__way (fun vs H Q E h => ?_) (fun cdv A outer s H vs Q E hr h => ?_)
  · obtain ⟨p, L, Y, tr, z1, z2, rfl, _⟩ := h
    rfl
  obtain ⟨p, L, Y, tr, z1, z2, rfl, TA, FM, q0, q1, q2⟩ := h
  obtain ⟨dx, hp⟩ := TA.at_
  refine ⟨_, (pss_cons (ps_expr (pe_ownM O_Tree__check hr (pv 0) (pass_cxD fun _ _ _ z => z) (pa_cons (pv 1) pa_nil)))
      (pss_cons (ps_expr (pe_ownM O_Tree__check hr (pv 0) (pass_cxD fun _ _ _ z => z) (pa_cons (pv 2) pa_nil)))
      (pss_cons (ps_set (i := 3) sc_Tree__way.nd rfl (Or.inl rfl) (pe_lst pa_nil))
      (pss_cons (ps_set (i := 4) sc_Tree__way.nd rfl (Or.inl rfl) (pe_lst pa_nil))
      (pss_cons (ps_while own_cxD (pt_cmpR op_ne (pv 1) (pv 2) (nomark _)) (pss_one (ps_if (pt_cmpR op_gt (pv 1) (pv 2) (nomark _)) (pss_cons (ps_expr (pe_bm PySem.F.plainAttrs_list PySem.F.slot_list_extend PySem.F.type_list_extend mt_extend (pv 3) (pa_cons (pe_own O_way_back hr (by rfl) pass0 (pa_cons (pe_ownM O_Tree__splices_of hr (pv 0) (pass_cxD fun _ _ _ z => z) (pa_cons (pv 1) pa_nil)) pa_nil)) pa_nil)))
      (pss_one (ps_set (i := 1) sc_Tree__way.nd rfl (Or.inl rfl) (pe_ownM O_Tree__elder_of hr (pv 0) (pass_cxD fun _ _ _ z => z) (pa_cons (pv 1) pa_nil))))) (pss_cons (ps_expr (pe_bm PySem.F.plainAttrs_list PySem.F.slot_list_append PySem.F.type_list_append mt_append (pv 4) (pa_cons (pv 2) pa_nil)))
      (pss_one (ps_set (i := 2) sc_Tree__way.nd rfl (Or.inl rfl) (pe_ownM O_Tree__elder_of hr (pv 0) (pass_cxD fun _ _ _ z => z) (pa_cons (pv 2) pa_nil))))))))
      (pss_cons (ps_for own_cxD rfl (pi_rev (by rfl) m_reversed (pa_cons (pv 4) pa_nil)) (pg_name (i := 5) sc_Tree__way.nd rfl (Or.inl rfl)) (pss_one (ps_expr (pe_bm PySem.F.plainAttrs_list PySem.F.slot_list_extend PySem.F.type_list_extend mt_extend (pv 3) (pa_cons (pe_ownM O_Tree__splices_of hr (pv 0) (pass_cxD fun _ _ _ z => z) (pa_cons (pv 5) pa_nil)) pa_nil)))))
      (pss_one (ps_ret (pv 3))))))))), ?_⟩
  refine ⟨_, rfl, p, dx, _, rfl, hp, rfl, _, rfl, p, L, Y, tr, z1, rfl, TA, fun z0 z01 => ?_, fun hz => q1 hz⟩
  refine ⟨_, rfl, p, dx, _, rfl, hp, rfl, _, rfl, p, L, Y, tr, z2, rfl, TA, fun z00 z02 => ?_, fun hz => q2 z0 z01 hz⟩
  obtain ⟨i0, rfl⟩ : ∃ i : Nat, z1 = (i : Int) := ⟨_, (Int.toNat_of_nonneg z0).symm⟩
  obtain ⟨j0, rfl⟩ : ∃ i : Nat, z2 = (i : Int) := ⟨_, (Int.toNat_of_nonneg z00).symm⟩
  obtain ⟨ci0, hci0⟩ := IsRc.ex FM i0 i0 (Nat.le_refl _) (by omega)
  obtain ⟨cj0, hcj0⟩ := IsRc.ex FM j0 j0 (Nat.le_refl _) (by omega)
  have le := TA.le
  have qq := fun D H' => q0 i0 j0 ci0 cj0 D H' rfl rfl hci0 hcj0
  refine ⟨(by show 0 ≤ sizeLine; decide), fun D nD => ⟨(by show 0 ≤ sizeLine; decide), fun W nW => ?_⟩⟩
  have E1 := same_new nD (.lst [])
  have nWH : H W = none := E1.free nW
  have E2 : Same H (upd (upd H D (.lst [])) W (.lst [])) := same_upd E1 nWH
  have hD2 : upd (upd H D (.lst [])) W (.lst []) D = some (.lst []) := by
    rw [upd_ne (fun z => by rw [← z, upd_same] at nW; cases nW)]
    exact upd_same
  have nDW : D ≠ W := fun z => by rw [← z, upd_same] at nW; cases nW
  have hW2 : upd (upd H D (.lst [])) W (.lst []) W = some (.lst []) := upd_same
  generalize upd (upd H D (.lst [])) W (.lst []) = H2 at E2 hD2 hW2
  refine gname_go (seq_at (seq_to (fun σ H' => Same H H' ∧ ∃ (xs : List Trip) (ws : List Nat) (x1 x2 x3 : Option V), TupsV H' D (xs.map trip) ∧ H' W = some (.lst (ws.map nV)) ∧ (∀ k ∈ ws, k < tr.ss.length) ∧ xs.length ≤ 120000 ∧ ws.length ≤ 2000 ∧ wayOf tr.ss ci0 cj0 = xs ++ ws.reverse.flatMap (spS tr.ss) ∧ σ = [some (.ref p), x1, x2, some (.ref D), some (.ref W), x3]) (fun nx fin => ?_) ?_))
  · refine ⟨fun m σ H' => Same H H' ∧ ∃ (xs : List Trip) (ws : List Nat) (i j : Nat) (ci cj : List Nat) (x3 : Option V), m = i + j ∧ TupsV H' D (xs.map trip) ∧ H' W = some (.lst (ws.map nV)) ∧ (∀ k ∈ ws, k < tr.ss.length) ∧ IsRc tr.ss i ci ∧ IsRc tr.ss j cj ∧ xs.length + 60 * i ≤ 120000 ∧ ws.length + j ≤ 2000 ∧ wayOf tr.ss ci0 cj0 = xs ++ wayOf tr.ss ci cj ++ ws.reverse.flatMap (spS tr.ss) ∧ σ = [some (.ref p), some (nV i), some (nV j), some (.ref D), some (.ref W), x3], ⟨i0 + j0, E2, [], [], i0, j0, ci0, cj0, none, rfl, TupsV.nil hD2, hW2, (fun k z => by cases z), hci0, hcj0, by show 0 + 60 * i0 ≤ _; omega, by show 0 + j0 ≤ _; omega, by simp, rfl⟩, ?_⟩
    rintro m σ H' ⟨SS, xs, ws, i, j, ci, cj, x3, rfl, hD, hW, hwl, hci, hcj, hxb, hwb, hway, rfl⟩
    have hil := hci.lt
    have hjl := hcj.lt
    have TA' := TA.same SS
    have hp' := SS _ _ hp
    obtain ⟨ds, hDl, hDR⟩ := tups_row hD
    refine ⟨_, rfl, _, rfl, rfl, _, rfl, ?_⟩
    by_cases hij : i = j
    · subst hij
      have ec := hci.uniq _ hcj
      subst ec
      rw [way_self, List.append_nil] at hway
      refine iteNS rfl (fin _ _ ⟨SS, xs, ws, _, _, _, hD, hW, hwl, by omega, by omega, hway, rfl⟩)
    · refine iteNF (fun z => hij (Int.ofNat_inj.mp (V.int.inj z))) ⟨_, (fun _ _ h => h), ?_⟩
      refine ⟨_, rfl, _, rfl, _, _, rfl, rfl, _, rfl, ?_⟩
      by_cases hlt : j < i
      · refine iteDT (by omega) ?_
        have nij : i ∉ cj := fun z => by have := hcj.le i z; omega
        cases hci with
        | root _ e =>
          have es : tr.ss[i]? = some tr.ss[i] := List.getElem?_eq_getElem hil
          rw [elS_of es] at e
          have := FM.root i _ es e
          omega
        | @step _ e l _ he hei hl =>
          have es : tr.ss[i]? = some tr.ss[i] := List.getElem?_eq_getElem hil
          generalize tr.ss[i] = s at es
          rw [elS_of es] at he
          have hfew := FM.few i s es
          refine ⟨_, rfl, .inl ⟨rfl, _, SqL.of hDl⟩, _, rfl, p, dx, _, rfl, hp', rfl, _, rfl, p, L, Y, tr, (i : Int), rfl, TA', fun i' s' ei es' D1 H3 S3 n3 hD3 => ?_, fun hz => by omega⟩
          have : i = i' := Int.ofNat_inj.mp ei
          subst this
          rw [es] at es'
          cases es'
          obtain ⟨ts1, hD3l, hD3R⟩ := tups_row hD3
          refine ⟨D1, ts1, s.sp, rfl, SqL.of hD3l, hD3R, hfew, fun D2 ts2 H4 S4 n4 hD4 hR4 => ?_⟩
          have S34 := S3.trans S4
          have hx2 : ts2.length = s.sp.length := by rw [hR4.1, List.length_map, List.length_reverse]
          refine ⟨D, D2, _, _, rfl, rfl, S34 _ _ hDl, hD4, ?_, ?_⟩
          · rw [List.length_map, List.length_map, hDR.1, hx2]
            exact Nat.le_trans (show _ ≤ 1000000 by omega) (small (Nat.le_refl _))
          have RR := (row_app (hDR.same S34) hR4).updL (.lst (ds.map V.ref ++ ts2.map V.ref)) (S34 _ _ hDl)
          have TT := RR.tups (D := D) (by rw [upd_same, List.map_append])
          have SS5 : Same H (upd H4 D (.lst (ds.map V.ref ++ ts2.map V.ref))) := same_upd (SS.trans S34) nD
          have hW5 : upd H4 D (.lst (ds.map V.ref ++ ts2.map V.ref)) W = some (.lst (ws.map nV)) := by rw [upd_ne (Ne.symm nDW)]; exact S34 _ _ hW
          generalize upd H4 D (.lst (ds.map V.ref ++ ts2.map V.ref)) = H5 at TT SS5 hW5
          refine ⟨_, rfl, p, dx, _, rfl, SS5 _ _ hp, rfl, _, rfl, p, L, Y, tr, (i : Int), rfl, TA.same SS5, fun i' s' ei es' => ?_, fun hz => by omega⟩
          have : i = i' := Int.ofNat_inj.mp ei
          subst this
          rw [es] at es'
          cases es'
          show gName _ (optV s.el) _ _ _
          rw [he]
          refine ⟨e + j, by omega, SS5, xs ++ s.sp.reverse.map turnT, ws, e, j, l, cj, _, rfl, TT, hW5, hwl, hl, hcj, ?_, hwb, ?_, rfl⟩
          · rw [List.length_append, List.length_map, List.length_reverse]
            omega
          · rw [hway, way_up nij]
            unfold backS
            rw [spS_of es]
            simp
      · refine iteDF (by omega) ?_
        have nji : j ∉ ci := fun z => by have := hci.le j z; omega
        cases hcj with
        | root _ e =>
          have es : tr.ss[j]? = some tr.ss[j] := List.getElem?_eq_getElem hjl
          rw [elS_of es] at e
          have := FM.root j _ es e
          omega
        | @step _ e l _ he hei hl =>
          have es : tr.ss[j]? = some tr.ss[j] := List.getElem?_eq_getElem hjl
          generalize tr.ss[j] = s at es
          rw [elS_of es] at he
          refine ⟨_, rfl, .inl ⟨rfl, _, SqL.of hW⟩, _, rfl, W, _, _, rfl, rfl, hW, by rw [List.length_map]; exact Nat.lt_of_lt_of_le (show _ < 1000000 by omega) (small (Nat.le_refl _)), ?_⟩
          have SS5 : Same H (upd H' W (.lst (ws.map nV ++ [nV j]))) := same_upd SS nWH
          have K5 : Kp [W] H' (upd H' W (.lst (ws.map nV ++ [nV j]))) := Kp.upd (List.mem_singleton.mpr rfl) (fun t z => by rw [hW] at z; cases z)
          have TT := K5.lst (nin1 nDW) hD
          have hW5 : upd H' W (.lst (ws.map nV ++ [nV j])) W = some (.lst ((ws ++ [j]).map nV)) := by rw [upd_same, List.map_append]; rfl
          generalize upd H' W (.lst (ws.map nV ++ [nV j])) = H5 at TT SS5 hW5
          refine ⟨_, rfl, p, dx, _, rfl, SS5 _ _ hp, rfl, _, rfl, p, L, Y, tr, (j : Int), rfl, TA.same SS5, fun i' s' ei es' => ?_, fun hz => by omega⟩
          have : j = i' := Int.ofNat_inj.mp ei
          subst this
          rw [es] at es'
          cases es'
          show gName _ (optV s.el) _ _ _
          rw [he]
          refine ⟨i + e, by omega, SS5, xs, ws ++ [j], i, e, ci, l, _, rfl, TT, hW5, (fun k hk => ?_), hci, hl, hxb, ?_, ?_, rfl⟩
          · rcases List.mem_append.mp hk with h | h
            · exact hwl k h
            · rw [List.mem_singleton.mp h]; exact hjl
          · rw [List.length_append]
            show ws.length + 1 + e ≤ 2000
            omega
          · rw [hway, way_down nji]
            simp
  · rintro σ H' ⟨SS, xs, ws, x1, x2, x3, hD, hW, hwl, hxb, hwb, hway, rfl⟩
    refine ⟨_, rfl, W, _, rfl, SqL.of hW, ?_⟩
    refine for_rev (xs := ws.map nV) (fun k σ H' => Same H H' ∧ ∃ y : Option V, TupsV H' D ((xs ++ (ws.reverse.take k).flatMap (spS tr.ss)).map trip) ∧ H' W = some (.lst (ws.map nV)) ∧ ((ws.reverse.take k).flatMap (spS tr.ss)).length ≤ 60 * k ∧ σ = [some (.ref p), x1, x2, some (.ref D), some (.ref W), y]) ⟨SS, x3, by simpa using hD, hW, by simp, rfl⟩ (fun k σ H' _ h => SqL.of h.2.choose_spec.2.1) ?_ ?_
    · rintro k v σ H3 hk hv ⟨SS3, y, hD3, hW3, hfl, rfl⟩
      rw [List.length_map] at hk hv
      rw [List.getElem?_map] at hv
      have hkr : ws.reverse[k]? = ws[ws.length - 1 - k]? := List.getElem?_reverse hk
      cases hn : ws[ws.length - 1 - k]? with
      | none => rw [hn] at hv; cases hv
      | some n =>
        rw [hn] at hv hkr
        cases hv
        have hnl := hwl n (List.mem_of_getElem? hn)
        have es : tr.ss[n]? = some tr.ss[n] := List.getElem?_eq_getElem hnl
        generalize tr.ss[n] = s at es
        have hfew := FM.few n s es
        obtain ⟨ds, hDl, hDR⟩ := tups_row hD3
        refine ⟨_, rfl, .inl ⟨rfl, _, SqL.of hDl⟩, _, rfl, p, dx, _, rfl, SS3 _ _ hp, rfl, _, rfl, p, L, Y, tr, (n : Int), rfl, TA.same SS3, fun i' s' ei es' D1 H4 S4 n4 hD4 => ?_, fun hz => by omega⟩
        have : n = i' := Int.ofNat_inj.mp ei
        subst this
        rw [es] at es'
        cases es'
        obtain ⟨ts1, hD4l, hD4R⟩ := tups_row hD4
        refine ⟨D, D1, _, _, rfl, rfl, S4 _ _ hDl, hD4l, ?_, ?_⟩
        · rw [List.length_map, List.length_map, hDR.1, hD4R.1, List.length_append]
          exact Nat.le_trans (show _ ≤ 1000000 by omega) (small (Nat.le_refl _))
        have RR := (row_app (hDR.same S4) hD4R).updL (.lst (ds.map V.ref ++ ts1.map V.ref)) (S4 _ _ hDl)
        have TT := RR.tups (D := D) (by rw [upd_same, List.map_append])
        have e1 : ws.reverse.take (k + 1) = ws.reverse.take k ++ [n] := by rw [List.take_add_one, hkr]; rfl
        refine ⟨same_upd (SS3.trans S4) nD, _, ?_, by rw [upd_ne (Ne.symm nDW)]; exact S4 _ _ hW3, ?_, rfl⟩
        · rw [e1, List.flatMap_append, ← List.append_assoc]
          have e2 : [n].flatMap (spS tr.ss) = s.sp := by rw [← spS_of es]; simp
          rw [e2]
          exact TT
        · rw [e1, List.flatMap_append, List.length_append]
          have e2 : [n].flatMap (spS tr.ss) = s.sp := by rw [← spS_of es]; simp
          rw [e2]
          omega
    · rintro σ H3 ⟨SS3, y, hD3, hW3, hfl, rfl⟩
      rw [List.length_map, List.take_of_length_le (by simp), ← hway] at hD3
      exact ⟨_, rfl, qq D H3 SS3 nD hD3⟩
end

end My

set_option Elab.async false
set_option linter.all false
set_option maxRecDepth 100000
set_option maxHeartbeats 4000000
namespace My
open PySem L2






/-! the law shows a state -/

def sp_tgetS (C : Addr) (g : Hp → Sta → VK → Prop) : Sp := fun vs H Q _ => ∃ (p L Y : Addr) (tr : Tr) (i : Nat) (s : Sta), vs = [.ref p, nV i] ∧ TreeAt C p L Y tr H ∧ tr.ss[i]? = some s ∧ g H s Q
theorem get_sure {C N : Addr} {g : Hp → Sta → VK → Prop} : ∀ vs H Q E, sp_tgetS C g vs H Q E → sp_tget C N g vs H Q (fun _ _ _ => False) := fun vs H Q E ⟨p, L, Y, tr, i, s, e, T, es, q⟩ => ⟨p, L, Y, tr, (i : Int), e, T, (fun j s' ej es' => by
  have : i = j := Int.ofNat_inj.mp ej
  subst this
  rw [es] at es'
  cases es'
  exact q), fun hz => by
  have := (List.getElem?_eq_some_iff.mp es).1
  omega⟩
def sp_tshow (C : Addr) : Sp := fun vs H Q _ => ∃ (p L Y SL : Addr) (tr : Tr) (i : Nat) (s : Sta), vs = [.ref p, .ref SL, nV i] ∧ Both C p L Y SL tr H ∧ tr.ss[i]? = some s ∧ tr.ss.length ≤ 100 ∧ ∀ H', Same H H' → Q (.bl true) H'
section
variable {P : Program} {w : World} {K : PySem.W.Frag} {mg : Str → Option Value} {base : Heap} {f C : Addr} {fd : FuncData}
theorem sc__law_shows : FnScope ["_law_tree", "_law_states", "_law_number", "_law_made", "_law_splices", "_law_ahead", "_law_behind", "_law_elder", "_law_text", "_law_two"] ["_law_tree", "_law_states", "_law_number"] (defScope s__law_shows) := ⟨rfl, rfl, rfl, by decide +kernel, rfl, by decide +kernel, by decide +kernel⟩
theorem ok_tshow (F : Fun K "_law_shows" "_law_shows" s__law_shows f fd) (O_Tree__text_of : OwnM P w K mg base CX0 4 C "text_of" ["self", "number"] (sp_tgetS C gText)) (O_Tree__places_of : OwnM P w K mg base CX0 4 C "places_of" ["self", "number"] (sp_tgetS C gPlaces)) (O_Tree__elder_of : OwnM P w K mg base CX0 4 C "elder_of" ["self", "number"] (sp_tgetS C gElder)) (O_Tree__splices_of : OwnM P w K mg base CX0 4 C "splices_of" ["self", "number"] (sp_tgetS C gSpl))
    (O__law_same : Own P w K mg base CX0 1 "_law_same" ["_law_found", "_law_due"] sp_sameT) (O__law_row : Own P w K mg base CX0 1 "_law_row" ["_law_found", "_law_due"] sp_lrowT) (m_isinstance : mg "isinstance" = none) (m_str : mg "str" = none) (m_tuple : mg "tuple" = none) (m_len : mg "len" = none) : FnOk P w K mg base CX0 5 f fd ["_law_tree", "_law_states", "_law_number"] (sp_tshow C) := by
  refine F.ok sc__law_shows (fun vs H Q E h => ?_) (fun cdv A outer s H vs Q E hr h => ?_)
  · obtain ⟨p, L, Y, SL, tr, i, s, rfl, _⟩ := h
    rfl
  obtain ⟨p, L, Y, SL, tr, i, s, rfl, B, es, h100, q⟩ := h
  obtain ⟨dx, hp⟩ := B.tree.at_
  obtain ⟨xs, a, d, hSL, hlen, hat, ⟨hA, hd⟩, _, _⟩ := B.law.get es
  have hi := (List.getElem?_eq_some_iff.mp es).1
  have hl := (B.good i s es).len
  refine ⟨_, (pss_cons (ps_asg (pe_ix ix_list (pv 1) (pv 2) (fun _ _ => rfl)) (pg_tup rfl (pgs_cons (pg_name (i := 3) sc__law_shows.nd rfl (Or.inl rfl)) (pgs_cons (pg_name (i := 4) sc__law_shows.nd rfl (Or.inl rfl)) (pgs_cons (pg_name (i := 5) sc__law_shows.nd rfl (Or.inl rfl)) (pgs_cons (pg_name (i := 6) sc__law_shows.nd rfl (Or.inl rfl)) (pgs_cons (pg_name (i := 7) sc__law_shows.nd rfl (Or.inl rfl)) pgs_nil)))))))
      (pss_cons (ps_set (i := 8) sc__law_shows.nd rfl (Or.inl rfl) (pe_ownM O_Tree__text_of hr (pv 0) pass0 (pa_cons (pv 2) pa_nil)))
      (pss_cons (ps_set (i := 9) sc__law_shows.nd rfl (Or.inl rfl) (pe_ownM O_Tree__places_of hr (pv 0) pass0 (pa_cons (pv 2) pa_nil)))
      (pss_cons (ps_if (PW.pt (pw_or (pt_not (pt_val (pe_callB call_isi (by rfl) m_isinstance boot_isi (pa_cons (pv 8) (pa_cons (pe_bltn (v := .ty "str") (by rfl) m_str boot_str rfl) pa_nil))))) (pw_or (pt_cmpR op_ne (pv 8) (pv 3) (nomark _)) (pw_or1 (pt_not (pt_val (pe_own O__law_same hr (by rfl) pass0 (pa_cons (pe_ownM O_Tree__elder_of hr (pv 0) pass0 (pa_cons (pv 2) pa_nil)) (pa_cons (pv 7) pa_nil))))))))) (pss_one (ps_ret pe_bl)) pss_nil)
      (pss_cons (ps_if (PW.pt (pw_or (pt_not (pt_val (pe_callB call_isi (by rfl) m_isinstance boot_isi (pa_cons (pv 9) (pa_cons (pe_bltn (v := .ty "tuple") (by rfl) m_tuple boot_tuple rfl) pa_nil))))) (pw_or (pt_cmpR op_ne (pe_callB call_len_seq (by rfl) m_len PySem.boot_len (pa_cons (pv 9) pa_nil)) pe_int (nomark _)) (pw_or (pt_not (pt_val (pe_own O__law_same hr (by rfl) pass0 (pa_cons (pe_ix ix_tup (pv 9) pe_int (fun _ _ => rfl)) (pa_cons (pv 5) pa_nil))))) (pw_or1 (pt_not (pt_val (pe_own O__law_same hr (by rfl) pass0 (pa_cons (pe_ix ix_tup (pv 9) pe_int (fun _ _ => rfl)) (pa_cons (pv 6) pa_nil)))))))))) (pss_one (ps_ret pe_bl)) pss_nil)
      (pss_one (ps_ret (pe_own O__law_row hr (by rfl) pass0 (pa_cons (pe_ownM O_Tree__splices_of hr (pv 0) pass0 (pa_cons (pv 2) pa_nil)) (pa_cons (pv 4) pa_nil)))))))))), ?_⟩
  refine ⟨_, rfl, _, rfl, SL, _, _, _, rfl, rfl, SqL.of hSL, hat, a, _, rfl, SqT.of hA, rfl, _, _, rfl, _, _, rfl, _, _, rfl, _, _, rfl, _, _, rfl, rfl, ?_⟩
  refine ⟨_, rfl, p, dx, _, rfl, hp, rfl, _, rfl, p, L, Y, tr, i, s, rfl, B.tree, es, ?_⟩
  refine ⟨_, rfl, p, dx, _, rfl, hp, rfl, _, rfl, p, L, Y, tr, i, s, rfl, B.tree, es, fun pl hpl => ?_⟩
  refine ⟨_, rfl, _, _, _, _, rfl, ⟨_, .inl rfl⟩, .str _, kit_ss, _, rfl, iteF ?_⟩
  refine ⟨_, rfl, _, rfl, rfl, _, rfl, iteNS rfl ?_⟩
  refine ⟨_, rfl, p, dx, _, rfl, hp, rfl, _, rfl, p, L, Y, tr, i, s, rfl, B.tree, es, ?_⟩
  refine ⟨_, rfl, _, rfl, optV_same _, _, rfl, iteF ?_⟩
  refine ⟨_, rfl, _, _, _, _, rfl, ⟨_, .inl rfl⟩, .tup hpl, kit_tt, _, rfl, iteF ?_⟩
  refine ⟨_, rfl, pl, _, rfl, .inr (SqT.of hpl), rfl, _, rfl, iteF ?_⟩
  refine ⟨_, rfl, pl, _, _, _, rfl, rfl, SqT.of hpl, rfl, _, rfl, _, rfl, .inr ⟨_, rfl⟩, _, rfl, iteF ?_⟩
  refine ⟨_, rfl, pl, _, _, _, rfl, rfl, SqT.of hpl, rfl, _, rfl, _, rfl, .inr ⟨_, rfl⟩, _, rfl, iteF ?_⟩
  refine ⟨_, rfl, p, dx, _, rfl, hp, rfl, _, rfl, p, L, Y, tr, i, s, rfl, B.tree, es, fun D H' SS nD hD => ?_⟩
  exact ⟨_, rfl, D, d, s.sp, rfl, hD, hd.same SS, q H' SS⟩
end

/-! the tree grows, as the law asks -/
theorem nat_modL (a : Int) {b : Nat} (h : 0 < b) : ∃ c : Nat, a % (b : Int) = (c : Int) ∧ c < b := by
  have h0 : 0 ≤ a % (b : Int) := Int.emod_nonneg _ (by omega)
  have h1 : a % (b : Int) < (b : Int) := Int.emod_lt_of_pos _ (by omega)
  exact ⟨(a % (b : Int)).toNat, by omega, by omega⟩
def sp_tgrowS (C : Addr) : Sp := fun vs H Q _ => ∃ (p L Y a : Addr) (tr : Tr) (s : Sta) (xs : List Trip) (ah bh : Nat) (m : List Nat), vs = [.ref p, .ref a, nV ah, nV bh] ∧ TreeAt C p L Y tr H ∧ tr.ss[tr.pr]? = some s ∧ s.tx.length ≤ 1000 ∧ TupsV H a (xs.map trip) ∧ (∀ x ∈ xs, x.2.1.length ≤ 100000 ∧ x.2.2.length ≤ 1000) ∧ xs.length ≤ 60 ∧ tr.ss.length < 2000 ∧ walkT s.tx xs = some m ∧
  ∀ H', Kp [p, L, Y] H H' → TreeAt C p L Y (tr.grown m xs ah bh) H' → Q (nV tr.ss.length) H'
theorem grow_sure {C F : Addr} : ∀ vs H Q E, sp_tgrowS C vs H Q E → sp_tgrow C F vs H Q (fun _ _ _ => False) := fun vs H Q E ⟨p, L, Y, a, tr, s, xs, ah, bh, m, e, T, es, h1, h2, h3, h4, h5, hw, q⟩ => ⟨p, L, Y, a, tr, s, xs, ah, bh, e, T, es, h1, h2, h3, h4, h5, (fun m' H' e' k t => by
  rw [hw] at e'
  cases e'
  exact q H' k t), fun z => by rw [hw] at z; cases z⟩
/-! k52: the newest state that came from one -/
def NewS (ss : List Sta) (i : Nat) : Option Nat → Prop
  | some j => (∃ s, ss[j]? = some s ∧ s.el = some i) ∧ ∀ j' s', j < j' → ss[j']? = some s' → s'.el ≠ some i
  | none => ∀ (j' : Nat) s', ss[j']? = some s' → s'.el ≠ some i
theorem NewS.uniq {ss : List Sta} {i : Nat} {r r' : Option Nat} (h : NewS ss i r) (h' : NewS ss i r') : r = r' := by
  cases r with
  | none =>
    cases r' with
    | none => rfl
    | some j => obtain ⟨⟨s, e1, e2⟩, _⟩ := h'; exact (h j s e1 e2).elim
  | some j =>
    obtain ⟨⟨s, e1, e2⟩, n⟩ := h
    cases r' with
    | none => exact (h' j s e1 e2).elim
    | some j' =>
      obtain ⟨⟨s', e1', e2'⟩, n'⟩ := h'
      rcases Nat.lt_trichotomy j j' with c | c | c
      · exact (n j' s' c e1' e2').elim
      · rw [c]
      · exact (n' j s c e1 e2).elim
def YgOk (tr : Tr) : Prop := ∀ i, NewS tr.ss i (tr.yg i)
theorem YgOk.grown {tr : Tr} {m : List Nat} {xs : List Trip} {ah bh : Nat} (h : YgOk tr) : YgOk (tr.grown m xs ah bh) := fun i => by
  show NewS (tr.ss ++ [⟨m, some tr.pr, xs, ah, bh⟩]) i (if i = tr.pr then some tr.ss.length else tr.yg i)
  by_cases c : i = tr.pr
  · rw [if_pos c]
    refine ⟨⟨⟨m, some tr.pr, xs, ah, bh⟩, ?_, by rw [c]⟩, fun j' s' hj e => ?_⟩
    · rw [List.getElem?_append_right (Nat.le_refl _), Nat.sub_self]
      rfl
    · rcases getElem?_snoc e with ⟨z, _⟩ | ⟨z, _⟩ <;> omega
  · rw [if_neg c]
    have h1 := h i
    cases e0 : tr.yg i with
    | none =>
      rw [e0] at h1
      intro j' s' e
      rcases getElem?_snoc e with ⟨_, z⟩ | ⟨_, z⟩
      · exact h1 j' s' z
      · rw [z]
        exact fun w => c (Option.some.inj w).symm
    | some j =>
      rw [e0] at h1
      obtain ⟨⟨s, e1, e2⟩, n⟩ := h1
      refine ⟨⟨s, getElem?_pre e1, e2⟩, fun j' s' hj e => ?_⟩
      rcases getElem?_snoc e with ⟨_, z⟩ | ⟨_, z⟩
      · exact n j' s' hj z
      · rw [z]
        exact fun w => c (Option.some.inj w).symm
def sp_tnew : Sp := fun vs H Q _ => ∃ (SL L : Addr) (ss : List Sta) (i : Nat), vs = [.ref SL, nV i] ∧ LSt H SL L ss ∧ Good ss ∧ i < ss.length ∧ ss.length ≤ 100 ∧ ∀ r, NewS ss i r → Q (optV r) H
section
variable {P : Program} {w : World} {K : PySem.W.Frag} {mg : Str → Option Value} {base : Heap} {f C : Addr} {fd : FuncData}
theorem sc__law_newest : FnScope ["_law_states", "_law_at", "_law_number"] ["_law_states", "_law_at"] (defScope s__law_newest) := ⟨rfl, rfl, rfl, by decide +kernel, rfl, by decide +kernel, by decide +kernel⟩
theorem ok_tnew (F : Fun K "_law_newest" "_law_newest" s__law_newest f fd) (m_len : mg "len" = none) (m_range : mg "range" = none) : FnOk P w K mg base CX0 1 f fd ["_law_states", "_law_at"] sp_tnew := by
  refine F.ok sc__law_newest (fun vs H Q E h => ?_) (fun cdv A outer s H vs Q E hr h => ?_)
  · obtain ⟨SL, L, ss, i, rfl, _⟩ := h
    rfl
  obtain ⟨SL, L, ss, i, rfl, hLS, g, hi, h100, q⟩ := h
  refine ⟨_, (pss_cons (ps_for PassesOwn.never rfl (pi_range3 (by rfl) m_range (pa_cons (pe_op op_sub (pe_callB call_len_seq (by rfl) m_len PySem.boot_len (pa_cons (pv 0) pa_nil)) pe_int) (pa_cons (pv 1) (pa_cons (pe_un un_neg pe_int) pa_nil)))) (pg_name (i := 2) sc__law_newest.nd rfl (Or.inl rfl)) (pss_one (ps_if (pt_cmpR op_eq (pe_ix ix_tup (pe_ix ix_list (pv 0) (pv 2) (fun _ _ => rfl)) pe_int (fun _ _ => rfl)) (pv 1) (nomark _)) (pss_one (ps_ret (pv 2))) pss_nil)))
      (pss_one (ps_ret pe_non))), ?_⟩
  obtain ⟨ls, _, _, hSL, hlen, _⟩ := hLS.get (List.getElem?_eq_getElem hi)
  refine ⟨_, rfl, SL, _, rfl, .inl (SqL.of hSL), _, _, rfl, rfl, _, rfl, _, rfl, (ls.length : Int) - 1, (i : Int), -1, _, rfl, Stp.down (by omega) (by omega) (by omega) (by omega), ?_⟩
  refine for_step (fun k σ H' => H = H' ∧ (∀ (j' : Nat) (s' : Sta), (ss.length : Int) - 1 - k < (j' : Int) → ss[j']? = some s' → s'.el ≠ some i) ∧ ∃ x : Option V, σ = [some (.ref SL), some (nV i), x]) ⟨rfl, (fun j' s' hj e => by have := (List.getElem?_eq_some_iff.mp e).1; omega), none, rfl⟩ ?_ ?_
  · rintro k σ H' hk ⟨rfl, hn, x, rfl⟩
    have hk' : (k : Int) < (ls.length : Int) - 1 - i := by omega
    obtain ⟨c, hc⟩ : ∃ c : Nat, (ls.length : Int) - 1 + k * -1 = (c : Int) := ⟨((ls.length : Int) - 1 + k * -1).toNat, by omega⟩
    have hcl : c < ss.length := by omega
    have es : ss[c]? = some ss[c] := List.getElem?_eq_getElem hcl
    generalize ss[c] = s at es
    obtain ⟨ls', a, d, hSL', hlen', hat, ⟨hA, _⟩, _, _⟩ := hLS.get es
    rw [hc]
    refine ⟨_, rfl, _, rfl, SL, _, _, _, rfl, rfl, SqL.of hSL', hat, a, _, _, _, rfl, rfl, SqT.of hA, rfl, _, rfl, ?_⟩
    by_cases he : s.el = some i
    · refine ⟨by rw [he]; rfl, _, rfl, iteDT (by rw [he]; rfl) ⟨_, rfl, q (some c) ⟨⟨s, es, he⟩, fun j' s' hj e => hn j' s' (by omega) e⟩⟩⟩
    · refine ⟨by cases s.el <;> rfl, _, rfl, iteDF (fun z => he ?_) ⟨rfl, fun j' s' hj e => ?_, _, rfl⟩⟩
      · cases hh : s.el with
        | none => rw [hh] at z; cases z
        | some e => rw [hh] at z; rw [Int.ofNat_inj.mp (V.int.inj z)]
      · by_cases c' : j' = c
        · rw [c', es] at e
          cases e
          exact he
        · exact hn j' s' (by omega) e
  · rintro σ H' ⟨rfl, hn, x, rfl⟩
    refine q none (fun j' s' e z => ?_)
    have h1 := (g j' s' e).old i z
    by_cases c : (ss.length : Int) - 1 - (((ls.length : Int) - 1 - i).toNat : Nat) < (j' : Int)
    · exact hn j' s' c e z
    · omega
end

def sp_ttoS (C : Addr) : Sp := fun vs H Q _ => ∃ (p L Y : Addr) (tr : Tr) (i : Nat) (s : Sta), vs = [.ref p, nV i] ∧ TreeAt C p L Y tr H ∧ tr.ss[i]? = some s ∧ ∀ H', Kp [p] H H' → TreeAt C p L Y (tr.led i) H' → Q (nV s.bh) H'
theorem to_sure {C N : Addr} : ∀ vs H Q E, sp_ttoS C vs H Q E → sp_tto C N vs H Q (fun _ _ _ => False) := fun vs H Q E ⟨p, L, Y, tr, i, s, e, T, es, q⟩ => ⟨p, L, Y, tr, (i : Int), e, T, (fun j s' H' ej es' => by
  have : i = j := Int.ofNat_inj.mp ej
  subst this
  rw [es] at es'
  cases es'
  exact q H'), fun hz => by
  have := (List.getElem?_eq_some_iff.mp es).1
  omega⟩

end My

set_option Elab.async false
set_option linter.all false
set_option maxRecDepth 100000
set_option maxHeartbeats 4000000
namespace My
open PySem L2

theorem boot_abs : bootBuiltins "abs" = some (.builtin "abs") := by decide +kernel





/-! the law's own room of numbers -/
abbrev roomD (L A : Int) (c : Addr) : HO := .dK [(Sum.inr "left", .int L), (Sum.inr "at", .int A), (Sum.inr "cells", .ref c)]
def Rm (H : Hp) (r c : Addr) (n : Int) : Prop := ∃ (L A : Int) (cs : List Int), H r = some (roomD L A c) ∧ H c = some (.lst (cs.map V.int)) ∧ 0 < cs.length ∧ cs.length ≤ 100 ∧ -1 ≤ A ∧ A ≤ n
def SameX (r : Addr) (H H' : Hp) : Prop := ∀ b o, b ≠ r → H b = some o → H' b = some o
theorem SameX.refl (r : Addr) (H : Hp) : SameX r H H := fun _ _ _ h => h
theorem SameX.trans {r : Addr} {H H1 H2 : Hp} (a : SameX r H H1) (b : SameX r H1 H2) : SameX r H H2 := fun c o n h => b c o n (a c o n h)
theorem SameX.upd {r : Addr} {H : Hp} {o : HO} : SameX r H (upd H r o) := fun b u n h => by rw [upd_ne n]; exact h
theorem Rm.mono {H : Hp} {r c : Addr} {n m : Int} (h : Rm H r c n) (hm : n ≤ m) : Rm H r c m := let ⟨L, A, cs, h1, h2, h3, h4, h5, h6⟩ := h; ⟨L, A, cs, h1, h2, h3, h4, h5, by omega⟩
theorem Rm.same {H H' : Hp} {r c : Addr} {n : Int} (h : Rm H r c n) (s : Same H H') : Rm H' r c n := let ⟨L, A, cs, h1, h2, h3⟩ := h; ⟨L, A, cs, s _ _ h1, s _ _ h2, h3⟩
def sp_room (K : PySem.W.Frag) : Sp := fun vs H Q _ => ∃ (a : Addr) (ns : List Int), vs = [.ref a] ∧ SqL K H a (ns.map V.int) ∧ ns.length ≤ 63 ∧ ∀ (r c : Addr) (H' : Hp), Same H H' → H r = none → Rm H' r c 0 → Q (.ref r) H'
def sp_take : Sp := fun vs H Q _ => ∃ (r c : Addr) (m n : Int), vs = [.ref r, .int m] ∧ Rm H r c n ∧ (0 ≤ n ∧ n < 1000000) ∧ (0 < m ∧ m < 100000) ∧ ∀ (v : Int) (H' : Hp), 0 ≤ v → v < m → SameX r H H' → Rm H' r c (n + 1) → Q (.int v) H'
section
variable {P : Program} {w : World} {K : PySem.W.Frag} {mg : Str → Option Value} {base : Heap} {f : Addr} {fd : FuncData}
theorem sc__law_room : FnScope ["_law_script", "_law_cells"] ["_law_script"] (defScope s__law_room) := ⟨rfl, rfl, rfl, by decide +kernel, rfl, by decide +kernel, by decide +kernel⟩
theorem ok_room (F : Fun K "_law_room" "_law_room" s__law_room f fd) (O__law_cell_at : Own P w K mg base CX0 1 "_law_cell_at" ["_law_script", "_law_k"] (sp_cell K)) (m_abs : mg "abs" = none) : FnOk P w K mg base CX0 2 f fd ["_law_script"] (sp_room K) := by
  refine F.ok sc__law_room (fun vs H Q E h => ?_) (fun cdv A outer s H vs Q E hr h => ?_)
  · obtain ⟨a, ns, rfl, _⟩ := h
    rfl
  obtain ⟨a, ns, rfl, hS, h63, q⟩ := h
  refine ⟨_, (pss_cons (ps_set (i := 1) sc__law_room.nd rfl (Or.inl rfl) (pe_op op_cat (pe_comp ["_law_cell"] _ [] rfl (cl_none ["_law_cell"] (by decide +kernel) rfl (by decide +kernel)) (pi_list (pv 0)) (fun _ _ _ _ => pg_name (i := 0) (nd1 _) rfl (Or.inl rfl)) (fun _ _ _ _ => pif_nil) (fun _ _ _ _ => (pe_op op_mod (pv 0) pe_int))) (pe_lst (pa_cons pe_int pa_nil))))
      (pss_cons (ps_if (pt_cmpR op_eq (pe_op op_mod (pe_own O__law_cell_at hr (by rfl) pass0 (pa_cons (pv 0) (pa_cons pe_int pa_nil))) pe_int) pe_int (nomark _)) (pss_one (ps_ret (pe_disp (pps_cons pe_str (pe_callB call_abs (by rfl) m_abs boot_abs (pa_cons (pe_own O__law_cell_at hr (by rfl) pass0 (pa_cons (pv 0) (pa_cons pe_int pa_nil))) pa_nil)) (pps_cons pe_str (pe_un un_neg pe_int) (pps_cons pe_str (pv 1) pps_nil))) rfl rfl (by intro h; cases h) (by decide)))) pss_nil)
      (pss_one (ps_ret (pe_disp (pps_cons pe_str pe_int (pps_cons pe_str pe_int (pps_cons pe_str (pv 1) pps_nil))) rfl rfl (by intro h; cases h) (by decide)))))), ?_⟩
  have el : (ns.map V.int).length = ns.length := List.length_map ..
  refine ⟨_, rfl, a, rfl, ⟨_, hS⟩, fun D hD => ?_⟩
  refine comp_list (xs := ns.map V.int) (fun i σ H' => ∃ (y : Option V) (cs : List Int), σ = [y] ∧ Same H H' ∧ H' D = some (.lst (cs.map V.int)) ∧ cs.length = i) ?_ (fun i σ H' _ h => h.choose_spec.choose_spec.2.1.seq hS) ?_ ?_
  · exact ⟨none, [], rfl, same_new hD _, upd_same, rfl⟩
  · intro i v σ H' hv hP
    obtain ⟨y, cs, rfl, hs, hD', hi⟩ := hP
    have hlt : i < ns.length := by rw [← el]; exact (List.getElem?_eq_some_iff.mp hv).1
    obtain ⟨c, rfl⟩ : ∃ c, v = V.int c := by
      rw [List.getElem?_map] at hv
      cases e : ns[i]? with
      | none => rw [e] at hv; cases hv
      | some n => rw [e] at hv; exact ⟨n, (Option.some.inj hv).symm⟩
    refine yes ?_
    refine ⟨_, rfl, _, _, rfl, rfl, (by show (0 : Int) < 1000000007; decide), _, hD', (by rw [List.length_map, hi]; exact Nat.lt_of_lt_of_le hlt (small (by omega))), _, cs ++ [c % 1000000007], rfl, same_upd hs hD, (by rw [upd_same, List.map_append]; rfl), (by simp [hi])⟩
  · intro σ H' hP
    obtain ⟨y, cs, rfl, hs, hD', hi⟩ := hP
    rw [el] at hi
    refine ⟨(by show 1 ≤ sizeLine; decide), fun d hd => ?_⟩
    have D1 := same_new hd (.lst [.int 0])
    refine ⟨D, d, _, _, rfl, rfl, D1 _ _ hD', upd_same, (by rw [List.length_map, hi]; exact small (by show ns.length + 1 ≤ _; omega)), fun c hc => ?_⟩
    have C1 := same_new hc (.lst (cs.map V.int ++ [.int 0]))
    have hs2 := hs.trans (D1.trans C1)
    have hcl : ((cs ++ [0]).map V.int) = cs.map V.int ++ [.int 0] := by simp
    have hDn : H D = none := hD
    have fin : ∀ (L A : Int) (r : Addr), -1 ≤ A → A ≤ 0 → (upd (upd H' d (.lst [.int 0])) c (.lst (cs.map V.int ++ [.int 0]))) r = none → Q (.ref r) (upd (upd (upd (upd H' d (.lst [.int 0])) c (.lst (cs.map V.int ++ [.int 0]))) r (.dK [])) r (roomD L A c)) := fun L A r h1 h2 hr0 => by
      have ne : c ≠ r := fun z => by rw [← z, upd_same] at hr0; cases hr0
      refine q r c _ ?_ (hs2.free hr0) ⟨L, A, cs ++ [0], upd_same, ?_, (by simp), (by simp; omega), h1, h2⟩
      · exact same_upd (hs2.trans (same_new hr0 _)) (hs2.free hr0)
      · rw [upd_ne ne, upd_ne ne, hcl, upd_same]
    refine ⟨_, rfl, a, ns, 0, rfl, hs2.seq hS, _, _, rfl, rfl, (by show (0 : Int) < 2; decide), rfl, _, rfl, ?_⟩
    refine ite2 (fun g => ?_) (fun g => ?_)
    · intro r hr0
      have R0 := same_new hr0 (.dK [])
      refine ⟨_, rfl, a, ns, 1, rfl, (hs2.trans R0).seq hS, _, rfl, _, rfl, _, rfl, upd_same, [(Sum.inr "left", _), (Sum.inr "at", _), (Sum.inr "cells", _)], rfl, (by show 3 ≤ 15; decide), ?_⟩
      exact fin _ _ r (by decide) (by decide) hr0
    · intro r hr0
      refine ⟨_, rfl, upd_same, [(Sum.inr "left", _), (Sum.inr "at", _), (Sum.inr "cells", _)], rfl, (by show 3 ≤ 15; decide), ?_⟩
      exact fin _ _ r (by decide) (by decide) hr0
theorem get_left {H : Hp} {r c : Addr} {L A : Int} (h : H r = some (roomD L A c)) : DGet H r (.str "left") (some (.int L)) := DGet.k (k := Sum.inr "left") h
theorem get_at {H : Hp} {r c : Addr} {L A : Int} (h : H r = some (roomD L A c)) : DGet H r (.str "at") (some (.int A)) := DGet.k (k := Sum.inr "at") h
theorem get_cells {H : Hp} {r c : Addr} {L A : Int} (h : H r = some (roomD L A c)) : DGet H r (.str "cells") (some (.ref c)) := DGet.k (k := Sum.inr "cells") h
theorem put_left {H : Hp} {r c : Addr} {L A v : Int} (h : H r = some (roomD L A c)) : DPut H r (.str "left") (.int v) (upd H r (roomD v A c)) := DPut.k (k := Sum.inr "left") h (by show 3 < sizeLine; decide)
theorem put_at {H : Hp} {r c : Addr} {L A v : Int} (h : H r = some (roomD L A c)) : DPut H r (.str "at") (.int v) (upd H r (roomD L v c)) := DPut.k (k := Sum.inr "at") h (by show 3 < sizeLine; decide)
theorem m29 (i : Int) : -(2 ^ 64) < i % 2147483629 ∧ i % 2147483629 < 2 ^ 64 := by
  have h0 : 0 ≤ i % 2147483629 := Int.emod_nonneg _ (by decide)
  have h1 : i % 2147483629 < 2147483629 := Int.emod_lt_of_pos _ (by decide)
  omega
theorem m87 (i : Int) : -(2 ^ 64) < i % 2147483587 ∧ i % 2147483587 < 2 ^ 64 := by
  have h0 : 0 ≤ i % 2147483587 := Int.emod_nonneg _ (by decide)
  have h1 : i % 2147483587 < 2147483587 := Int.emod_lt_of_pos _ (by decide)
  omega
theorem sc__law_take : FnScope ["_law_room_here", "_law_many", "_law_k", "_law_cell", "_law_one", "_law_two", "_law_found"] ["_law_room_here", "_law_many"] (defScope s__law_take) := ⟨rfl, rfl, rfl, by decide +kernel, rfl, by decide +kernel, by decide +kernel⟩
theorem ok_take (F : Fun K "_law_take" "_law_take" s__law_take f fd) (m_len : mg "len" = none) : FnOk P w K mg base CX0 1 f fd ["_law_room_here", "_law_many"] sp_take := by
  refine F.ok sc__law_take (fun vs H Q E h => ?_) (fun cdv A outer s H vs Q E hr h => ?_)
  · obtain ⟨r, c, m, n, rfl, _⟩ := h
    rfl
  obtain ⟨r, c, m, n, rfl, ⟨L, A, cs, h1, h2, h3, h4, h5, h6⟩, hn, hm, q⟩ := h
  refine ⟨_, (pss_cons (ps_set (i := 2) sc__law_take.nd rfl (Or.inl rfl) (pe_dget hr.u1 (pv 0) pe_str (fun _ _ => rfl)))
      (pss_cons (ps_if (PW.pt (pw_and (pt_cmpR op_lt (pv 2) pe_int (nomark _)) (pw_and1 (pt_cmpR op_eq (pe_dget hr.u1 (pv 0) pe_str (fun _ _ => rfl)) pe_int (nomark _))))) (pss_one (ps_set (i := 2) sc__law_take.nd rfl (Or.inl rfl) pe_int)) pss_nil)
      (pss_cons (ps_if (PW.pt (pw_and (pt_cmpR op_ge (pv 2) pe_int (nomark _)) (pw_and1 (pt_cmpR op_lt (pe_dget hr.u1 (pv 0) pe_str (fun _ _ => rfl)) (pe_op op_pow pe_int pe_int) (nomark _))))) (pss_cons (ps_set (i := 3) sc__law_take.nd rfl (Or.inl rfl) (pe_ix ix_list (pe_dget hr.u1 (pv 0) pe_str (fun _ _ => rfl)) (pe_op op_mod (pv 2) (pe_callB call_len_seq (by rfl) m_len PySem.boot_len (pa_cons (pe_dget hr.u1 (pv 0) pe_str (fun _ _ => rfl)) pa_nil))) (fun _ _ => rfl)))
      (pss_cons (ps_set (i := 4) sc__law_take.nd rfl (Or.inl rfl) (pe_op op_mod (pe_op op_mul (pe_op op_add (pe_op op_add (pe_op op_add (pv 3) (pe_op op_mul (pe_op op_mul pe_int (pv 2)) (pv 2))) (pv 2)) pe_int) pe_int) pe_int))
      (pss_cons (ps_set (i := 5) sc__law_take.nd rfl (Or.inl rfl) (pe_op op_mod (pe_op op_add (pe_op op_add (pe_op op_mul (pv 4) (pv 4)) (pe_op op_mul (pe_op op_mul pe_int (pv 2)) (pv 2))) pe_int) pe_int))
      (pss_cons (ps_dput hr.u1 (pv 0) pe_str (pe_op op_add (pe_op op_mul (pv 5) pe_int) (pe_op op_mul (pv 4) pe_int)) rfl)
      (pss_one (ps_dput hr.u1 (pv 0) pe_str (pe_op op_add (pv 2) pe_int) rfl)))))) pss_nil)
      (pss_cons (ps_set (i := 6) sc__law_take.nd rfl (Or.inl rfl) (pe_op op_mod (pe_dget hr.u1 (pv 0) pe_str (fun _ _ => rfl)) (pv 1)))
      (pss_cons (ps_dput hr.u1 (pv 0) pe_str (pe_op op_fdiv (pe_dget hr.u1 (pv 0) pe_str (fun _ _ => rfl)) (pv 1)) rfl)
      (pss_one (ps_ret (pv 6)))))))), ?_⟩
  have el : (cs.map V.int).length = cs.length := List.length_map ..
  have ne : c ≠ r := fun z => by rw [z, h1] at h2; cases h2
  have fin : ∀ (L' A' : Int) (H2 : Hp), H2 r = some (roomD L' A' c) → SameX r H H2 → -1 ≤ A' → A' ≤ n + 1 → Q (.int (L' % m)) (upd H2 r (roomD (L' / m) A' c)) := fun L' A' H2 e s a0 a1 =>
    q _ _ (Int.emod_nonneg _ (by omega)) (Int.emod_lt_of_pos _ hm.1) (s.trans SameX.upd) ⟨L' / m, A', cs, upd_same, SameX.upd _ _ ne (s _ _ ne h2), h3, h4, a0, a1⟩
  refine ⟨_, rfl, r, _, rfl, get_at h1, ?_⟩
  refine ⟨_, rfl, _, _, rfl, rfl, _, rfl, ?_⟩
  refine ite2 (fun g1 => ?_) (fun g1 => ?_)
  · refine ⟨_, rfl, r, _, rfl, get_left h1, rfl, _, rfl, ?_⟩
    refine ite2 (fun g2 => ?_) (fun g2 => ?_)
    · refine ⟨_, rfl, _, _, rfl, rfl, _, rfl, ?_⟩
      refine ite2 (fun g3 => ?_) (fun g3 => ?_)
      · have k0 : 0 ≤ (0 : Int) := of_decide_eq_true g3
        refine ⟨_, rfl, r, _, rfl, get_left h1, _, _, rfl, rfl, ⟨by decide, by decide, by decide⟩, _, _, rfl, rfl, _, rfl, ?_⟩
        refine ite2 (fun g4 => ?_) (fun g4 => ?_)
        · have j0 : 0 ≤ (0 : Int) % ((cs.map V.int).length : Int) := Int.emod_nonneg _ (by omega)
          have j1 : (0 : Int) % ((cs.map V.int).length : Int) < ((cs.map V.int).length : Int) := Int.emod_lt_of_pos _ (by omega)
          have hat := atI_in (cs.map V.int) j0 (by omega)
          rw [List.getElem_map] at hat
          refine ⟨_, rfl, r, _, rfl, get_cells h1, _, rfl, _, rfl, r, _, rfl, get_cells h1, c, _, rfl, .inl (SqL.of h2), _, _, rfl, rfl, (by show 0 < ((cs.map V.int).length : Int); omega), c, _, _, _, rfl, rfl, SqL.of h2, hat, ?_⟩
          refine ⟨_, rfl, _, rfl, _, _, rfl, rfl, .inl ⟨by decide, by decide⟩, _, rfl, _, _, rfl, rfl, .inr ⟨by omega, by omega⟩, _, _, rfl, rfl, _, rfl, _, _, rfl, rfl, _, _, rfl, rfl, _, _, rfl, rfl, .inr ⟨by decide, by decide⟩, _, _, rfl, rfl, (by show (0 : Int) < 2147483629; decide), ?_⟩
          refine ⟨_, rfl, _, rfl, _, _, rfl, rfl, .inl (m29 _), _, rfl, _, _, rfl, rfl, .inl ⟨by decide, by decide⟩, _, rfl, _, _, rfl, rfl, .inr ⟨by omega, by omega⟩, _, _, rfl, rfl, _, _, rfl, rfl, _, _, rfl, rfl, (by show (0 : Int) < 2147483587; decide), ?_⟩
          refine ⟨_, rfl, _, _, rfl, rfl, .inl (m87 _), _, rfl, _, _, rfl, rfl, .inl (m29 _), _, _, rfl, rfl, _, rfl, r, _, rfl, put_left h1, ?_⟩
          refine ⟨_, rfl, _, _, rfl, rfl, _, rfl, r, _, rfl, put_at upd_same, ?_⟩
          refine ⟨_, rfl, r, _, rfl, get_left upd_same, _, rfl, _, _, rfl, rfl, hm.1, ?_⟩
          refine ⟨_, rfl, r, _, rfl, get_left upd_same, _, rfl, _, _, rfl, rfl, ⟨hm.1, Int.lt_trans hm.2 (by decide)⟩, _, rfl, r, _, rfl, put_left upd_same, ?_⟩
          exact ⟨_, rfl, fin _ _ _ upd_same (SameX.upd.trans SameX.upd) (by show -1 ≤ (0 : Int) + 1; omega) (by show (0 : Int) + 1 ≤ n + 1; omega)⟩
        · refine ⟨_, rfl, r, _, rfl, get_left h1, _, rfl, _, _, rfl, rfl, hm.1, ?_⟩
          refine ⟨_, rfl, r, _, rfl, get_left h1, _, rfl, _, _, rfl, rfl, ⟨hm.1, Int.lt_trans hm.2 (by decide)⟩, _, rfl, r, _, rfl, put_left h1, ?_⟩
          exact ⟨_, rfl, fin _ _ _ h1 (SameX.refl _ _) h5 (by omega)⟩
      · refine ⟨_, rfl, r, _, rfl, get_left h1, _, rfl, _, _, rfl, rfl, hm.1, ?_⟩
        refine ⟨_, rfl, r, _, rfl, get_left h1, _, rfl, _, _, rfl, rfl, ⟨hm.1, Int.lt_trans hm.2 (by decide)⟩, _, rfl, r, _, rfl, put_left h1, ?_⟩
        exact ⟨_, rfl, fin _ _ _ h1 (SameX.refl _ _) h5 (by omega)⟩
    · refine ⟨_, rfl, _, _, rfl, rfl, _, rfl, ?_⟩
      refine ite2 (fun g3 => ?_) (fun g3 => ?_)
      · have k0 : 0 ≤ A := of_decide_eq_true g3
        refine ⟨_, rfl, r, _, rfl, get_left h1, _, _, rfl, rfl, ⟨by decide, by decide, by decide⟩, _, _, rfl, rfl, _, rfl, ?_⟩
        refine ite2 (fun g4 => ?_) (fun g4 => ?_)
        · have j0 : 0 ≤ A % ((cs.map V.int).length : Int) := Int.emod_nonneg _ (by omega)
          have j1 : A % ((cs.map V.int).length : Int) < ((cs.map V.int).length : Int) := Int.emod_lt_of_pos _ (by omega)
          have hat := atI_in (cs.map V.int) j0 (by omega)
          rw [List.getElem_map] at hat
          refine ⟨_, rfl, r, _, rfl, get_cells h1, _, rfl, _, rfl, r, _, rfl, get_cells h1, c, _, rfl, .inl (SqL.of h2), _, _, rfl, rfl, (by show 0 < ((cs.map V.int).length : Int); omega), c, _, _, _, rfl, rfl, SqL.of h2, hat, ?_⟩
          refine ⟨_, rfl, _, rfl, _, _, rfl, rfl, .inl ⟨by decide, by decide⟩, _, rfl, _, _, rfl, rfl, .inr ⟨by omega, by omega⟩, _, _, rfl, rfl, _, rfl, _, _, rfl, rfl, _, _, rfl, rfl, _, _, rfl, rfl, .inr ⟨by decide, by decide⟩, _, _, rfl, rfl, (by show (0 : Int) < 2147483629; decide), ?_⟩
          refine ⟨_, rfl, _, rfl, _, _, rfl, rfl, .inl (m29 _), _, rfl, _, _, rfl, rfl, .inl ⟨by decide, by decide⟩, _, rfl, _, _, rfl, rfl, .inr ⟨by omega, by omega⟩, _, _, rfl, rfl, _, _, rfl, rfl, _, _, rfl, rfl, (by show (0 : Int) < 2147483587; decide), ?_⟩
          refine ⟨_, rfl, _, _, rfl, rfl, .inl (m87 _), _, rfl, _, _, rfl, rfl, .inl (m29 _), _, _, rfl, rfl, _, rfl, r, _, rfl, put_left h1, ?_⟩
          refine ⟨_, rfl, _, _, rfl, rfl, _, rfl, r, _, rfl, put_at upd_same, ?_⟩
          refine ⟨_, rfl, r, _, rfl, get_left upd_same, _, rfl, _, _, rfl, rfl, hm.1, ?_⟩
          refine ⟨_, rfl, r, _, rfl, get_left upd_same, _, rfl, _, _, rfl, rfl, ⟨hm.1, Int.lt_trans hm.2 (by decide)⟩, _, rfl, r, _, rfl, put_left upd_same, ?_⟩
          exact ⟨_, rfl, fin _ _ _ upd_same (SameX.upd.trans SameX.upd) (by show -1 ≤ A + 1; omega) (by show A + 1 ≤ n + 1; omega)⟩
        · refine ⟨_, rfl, r, _, rfl, get_left h1, _, rfl, _, _, rfl, rfl, hm.1, ?_⟩
          refine ⟨_, rfl, r, _, rfl, get_left h1, _, rfl, _, _, rfl, rfl, ⟨hm.1, Int.lt_trans hm.2 (by decide)⟩, _, rfl, r, _, rfl, put_left h1, ?_⟩
          exact ⟨_, rfl, fin _ _ _ h1 (SameX.refl _ _) h5 (by omega)⟩
      · refine ⟨_, rfl, r, _, rfl, get_left h1, _, rfl, _, _, rfl, rfl, hm.1, ?_⟩
        refine ⟨_, rfl, r, _, rfl, get_left h1, _, rfl, _, _, rfl, rfl, ⟨hm.1, Int.lt_trans hm.2 (by decide)⟩, _, rfl, r, _, rfl, put_left h1, ?_⟩
        exact ⟨_, rfl, fin _ _ _ h1 (SameX.refl _ _) h5 (by omega)⟩
  · refine ⟨_, rfl, _, _, rfl, rfl, _, rfl, ?_⟩
    refine ite2 (fun g3 => ?_) (fun g3 => ?_)
    · have k0 : 0 ≤ A := of_decide_eq_true g3
      refine ⟨_, rfl, r, _, rfl, get_left h1, _, _, rfl, rfl, ⟨by decide, by decide, by decide⟩, _, _, rfl, rfl, _, rfl, ?_⟩
      refine ite2 (fun g4 => ?_) (fun g4 => ?_)
      · have j0 : 0 ≤ A % ((cs.map V.int).length : Int) := Int.emod_nonneg _ (by omega)
        have j1 : A % ((cs.map V.int).length : Int) < ((cs.map V.int).length : Int) := Int.emod_lt_of_pos _ (by omega)
        have hat := atI_in (cs.map V.int) j0 (by omega)
        rw [List.getElem_map] at hat
        refine ⟨_, rfl, r, _, rfl, get_cells h1, _, rfl, _, rfl, r, _, rfl, get_cells h1, c, _, rfl, .inl (SqL.of h2), _, _, rfl, rfl, (by show 0 < ((cs.map V.int).length : Int); omega), c, _, _, _, rfl, rfl, SqL.of h2, hat, ?_⟩
        refine ⟨_, rfl, _, rfl, _, _, rfl, rfl, .inl ⟨by decide, by decide⟩, _, rfl, _, _, rfl, rfl, .inr ⟨by omega, by omega⟩, _, _, rfl, rfl, _, rfl, _, _, rfl, rfl, _, _, rfl, rfl, _, _, rfl, rfl, .inr ⟨by decide, by decide⟩, _, _, rfl, rfl, (by show (0 : Int) < 2147483629; decide), ?_⟩
        refine ⟨_, rfl, _, rfl, _, _, rfl, rfl, .inl (m29 _), _, rfl, _, _, rfl, rfl, .inl ⟨by decide, by decide⟩, _, rfl, _, _, rfl, rfl, .inr ⟨by omega, by omega⟩, _, _, rfl, rfl, _, _, rfl, rfl, _, _, rfl, rfl, (by show (0 : Int) < 2147483587; decide), ?_⟩
        refine ⟨_, rfl, _, _, rfl, rfl, .inl (m87 _), _, rfl, _, _, rfl, rfl, .inl (m29 _), _, _, rfl, rfl, _, rfl, r, _, rfl, put_left h1, ?_⟩
        refine ⟨_, rfl, _, _, rfl, rfl, _, rfl, r, _, rfl, put_at upd_same, ?_⟩
        refine ⟨_, rfl, r, _, rfl, get_left upd_same, _, rfl, _, _, rfl, rfl, hm.1, ?_⟩
        refine ⟨_, rfl, r, _, rfl, get_left upd_same, _, rfl, _, _, rfl, rfl, ⟨hm.1, Int.lt_trans hm.2 (by decide)⟩, _, rfl, r, _, rfl, put_left upd_same, ?_⟩
        exact ⟨_, rfl, fin _ _ _ upd_same (SameX.upd.trans SameX.upd) (by show -1 ≤ A + 1; omega) (by show A + 1 ≤ n + 1; omega)⟩
      · refine ⟨_, rfl, r, _, rfl, get_left h1, _, rfl, _, _, rfl, rfl, hm.1, ?_⟩
        refine ⟨_, rfl, r, _, rfl, get_left h1, _, rfl, _, _, rfl, rfl, ⟨hm.1, Int.lt_trans hm.2 (by decide)⟩, _, rfl, r, _, rfl, put_left h1, ?_⟩
        exact ⟨_, rfl, fin _ _ _ h1 (SameX.refl _ _) h5 (by omega)⟩
    · refine ⟨_, rfl, r, _, rfl, get_left h1, _, rfl, _, _, rfl, rfl, hm.1, ?_⟩
      refine ⟨_, rfl, r, _, rfl, get_left h1, _, rfl, _, _, rfl, rfl, ⟨hm.1, Int.lt_trans hm.2 (by decide)⟩, _, rfl, r, _, rfl, put_left h1, ?_⟩
      exact ⟨_, rfl, fin _ _ _ h1 (SameX.refl _ _) h5 (by omega)⟩
end

/-! what stays but for some objects, and nothing goes -/
def KpA (bad : List Addr) (H H' : Hp) : Prop := Kp bad H H' ∧ ∀ a, H' a = none → H a = none
theorem KpA.of {bad : List Addr} {H H' : Hp} (s : Same H H') : KpA bad H H' := ⟨Kp.of s, fun _ h => s.free h⟩
theorem KpA.trans {bad : List Addr} {H H1 H2 : Hp} (x : KpA bad H H1) (y : KpA bad H1 H2) : KpA bad H H2 := ⟨x.1.trans y.1, fun a h => x.2 a (y.2 a h)⟩
theorem KpA.mono {b1 b2 : List Addr} {H H' : Hp} (x : KpA b1 H H') (h : ∀ a, a ∈ b1 → a ∈ b2) : KpA b2 H H' := ⟨x.1.mono h, x.2⟩
theorem KpA.upd {bad : List Addr} {H : Hp} {a : Addr} {o : HO} (h : a ∈ bad) (n : ∀ t, H a ≠ some (.tup t)) : KpA bad H (upd H a o) := ⟨Kp.upd h n, fun b e => by
  by_cases c : b = a
  · rw [c, upd_same] at e
    cases e
  · rw [upd_ne c] at e
    exact e⟩
theorem KpA.updN {bad : List Addr} {H H' : Hp} {D : Addr} {o : HO} (x : KpA bad H H') (n : H D = none) : KpA bad H (L2.upd H' D o) := by
  refine ⟨⟨fun b u nb e => ?_, fun b t e => ?_⟩, fun b e => ?_⟩
  · rw [upd_ne (fun z => by rw [z, n] at e; cases e)]
    exact x.1.1 b u nb e
  · rw [upd_ne (fun z => by rw [z, n] at e; cases e)]
    exact x.1.2 b t e
  · by_cases c : b = D
    · rw [c]; exact n
    · rw [upd_ne c] at e
      exact x.2 b e
theorem KpA.kp {bad : List Addr} {H H' : Hp} (k : Kp bad H H') (al : ∀ b ∈ bad, H' b ≠ none) : KpA bad H H' := ⟨k, fun a h => k.free h (fun z => al a z h)⟩
theorem Rm.al {H : Hp} {r c : Addr} {n : Int} (h : Rm H r c n) : H r ≠ none ∧ H c ≠ none ∧ ∃ kvs cs, H r = some (.dK kvs) ∧ H c = some (.lst cs) := by
  obtain ⟨L, A, cs, h1, h2, _⟩ := h
  exact ⟨(by rw [h1]; exact (fun z => by cases z)), (by rw [h2]; exact (fun z => by cases z)), _, _, h1, h2⟩
theorem Rm.kpA {H H' : Hp} {r c : Addr} {n m : Int} (h : Rm H r c n) (s : SameX r H H') (h' : Rm H' r c m) : KpA [r] H H' := by
  obtain ⟨_, _, kvs, cs, h1, _⟩ := h.al
  refine KpA.kp ⟨fun a u na e => s a u (fun z => na (by rw [z]; exact List.mem_singleton.mpr rfl)) e, fun a t e => s a _ (fun z => by rw [z, h1] at e; cases e) e⟩ (fun b hb => by rw [List.mem_singleton.mp hb]; exact h'.al.1)
theorem Rm.keep {bad : List Addr} {H H' : Hp} {r c : Addr} {n : Int} (h : Rm H r c n) (k : Kp bad H H') (n1 : r ∉ bad) (n2 : c ∉ bad) : Rm H' r c n := let ⟨L, A, cs, h1, h2, h3⟩ := h; ⟨L, A, cs, k.1 _ _ n1 h1, k.1 _ _ n2 h2, h3⟩
def sp_signs55 : Sp := fun vs H Q _ => ∃ (r c : Addr) (z n : Int), vs = [.ref r, .int z] ∧ Rm H r c n ∧ (0 ≤ n ∧ n < 999900) ∧ (0 ≤ z ∧ z ≤ 100) ∧ ∀ (l : List Nat) (H' : Hp), l.length = z.toNat → (∀ d ∈ l, d < 128) → SameX r H H' → Rm H' r c (n + z) → Q (.str (S l)) H'
def sp_state55 : Sp := fun vs H Q _ => ∃ (l : List Nat) (el : Option Nat) (r c : Addr) (n : Int), vs = [.str (S l), optV el, .ref r] ∧ Rm H r c n ∧ (0 ≤ n ∧ n < 900000) ∧ l.length ≤ 1000 ∧ (∀ d ∈ l, d < 128) ∧
  ∀ t l' sps ah bh D H', KpA [r] H H' → H' t = some (.tup [.str (S l'), .ref D, nV ah, nV bh, optV el]) → TupsV H' D (splV sps) → walkS l sps = some l' → sps.length ≤ 3 → (∀ s ∈ sps, s.2.1.length ≤ 4 ∧ s.2.2.length ≤ 4) → l'.length ≤ l.length + 9 → (∀ d ∈ l', d < 128) → ah ≤ l.length → bh ≤ l'.length → H D = none → Rm H' r c (n + 400) → Q (.ref t) H'
def sp_first55 : Sp := fun vs H Q _ => ∃ (r c : Addr) (n : Int), vs = [.ref r] ∧ Rm H r c n ∧ (0 ≤ n ∧ n < 900000) ∧ ∀ t l p D H', KpA [r] H H' → H' t = some (.tup [.str (S l), .ref D, nV p, nV p, .non]) → H' D = some (.lst []) → H D = none → l.length ≤ 40 → (∀ d ∈ l, d < 128) → p ≤ l.length → Rm H' r c (n + 400) → Q (.ref t) H'
section
variable {P : Program} {w : World} {K : PySem.W.Frag} {mg : Str → Option Value} {base : Heap} {f : Addr} {fd : FuncData}
theorem sc__law_signs : FnScope ["_law_room_here", "_law_size", "_law_some", "_law_signs_here", "_law_k", "_law_at", "_law_sign"] ["_law_room_here", "_law_size"] (defScope s__law_signs) := ⟨rfl, rfl, rfl, by decide +kernel, rfl, by decide +kernel, by decide +kernel⟩
theorem ok_signs55 (F : Fun K "_law_signs" "_law_signs" s__law_signs f fd) (O__law_take : Own P w K mg base CX0 1 "_law_take" ["_law_room_here", "_law_many"] sp_take) (m_range : mg "range" = none) : FnOk P w K mg base CX0 2 f fd ["_law_room_here", "_law_size"] sp_signs55 := by
  refine F.ok sc__law_signs (fun vs H Q E h => ?_) (fun cdv A outer s H vs Q E hr h => ?_)
  · obtain ⟨r, c, z, n, rfl, _⟩ := h
    rfl
  obtain ⟨r, c, z, n, rfl, hM, hn, hz, q⟩ := h
  refine ⟨_, (pss_cons (ps_set (i := 2) sc__law_signs.nd rfl (Or.inl rfl) pe_str)
      (pss_cons (ps_set (i := 2) sc__law_signs.nd rfl (Or.inl rfl) (pe_op op_adS (pv 2) pe_str))
      (pss_cons (ps_set (i := 3) sc__law_signs.nd rfl (Or.inl rfl) pe_str)
      (pss_cons (ps_for PassesOwn.never rfl (pi_range1 (by rfl) m_range (pa_cons (pv 1) pa_nil)) (pg_name (i := 4) sc__law_signs.nd rfl (Or.inl rfl)) (pss_cons (ps_set (i := 5) sc__law_signs.nd rfl (Or.inl rfl) (pe_own O__law_take hr (by rfl) pass0 (pa_cons (pv 0) (pa_cons pe_int pa_nil))))
      (pss_cons (ps_set (i := 6) sc__law_signs.nd rfl (Or.inl rfl) pe_str)
      (pss_cons (ps_if (pt_cmpR op_lt (pv 5) pe_int (nomark _)) (pss_one (ps_set (i := 6) sc__law_signs.nd rfl (Or.inl rfl) (pe_ix ix_S (pv 2) (pv 5) (fun _ _ => rfl)))) pss_nil)
      (pss_one (ps_set (i := 3) sc__law_signs.nd rfl (Or.inl rfl) (pe_op op_adS (pv 3) (pv 6))))))))
      (pss_one (ps_ret (pv 3))))))), ?_⟩
  refine ⟨_, rfl, lit1, lit2, rfl, rfl, small (by decide), ?_⟩
  refine ⟨_, rfl, _, rfl, (by omega), (by omega), ?_⟩
  refine for_range (fun i σ H' => ∃ (l : List Nat) (x y v : Option V), σ = [some (.ref r), some (.int z), some (.str (S (lit1 ++ lit2))), some (.str (S l)), x, y, v] ∧ SameX r H H' ∧ Rm H' r c (n + i) ∧ l.length = i ∧ ∀ d ∈ l, d < 128) ⟨[], none, none, none, rfl, SameX.refl _ _, (by simpa using hM), rfl, fun d h => by cases h⟩ ?_ ?_
  · intro i σ H' hi hP
    obtain ⟨l, x, y, v, rfl, hs, hR, hl, hc⟩ := hP
    have hi' : i < 100 := by
      have : i < z.toNat := hi
      omega
    refine ⟨_, rfl, r, c, _, _, rfl, hR, ⟨by omega, by omega⟩, ⟨(by show (0 : Int) < 115; decide), (by decide)⟩, fun u H2 u0 u1 s2 R2 => ?_⟩
    have R2' : Rm H2 r c (n + ((i + 1 : Nat) : Int)) := R2.mono (by omega)
    have snoc : ∀ d0 : Nat, d0 < 128 → ∀ d ∈ l ++ [d0], d < 128 := fun d0 h0 d hd => by
      rcases List.mem_append.mp hd with h | h
      · exact hc d h
      · rw [List.mem_singleton.mp h]; exact h0
    refine ⟨_, rfl, _, _, rfl, rfl, _, rfl, ?_⟩
    refine ite2 (fun g => ?_) (fun g => ?_)
    · have c' : u < 93 := of_decide_eq_true g
      have hlt : u.toNat < (lit1 ++ lit2).length := by rw [lits_len]; omega
      have hat := atI_in (lit1 ++ lit2) u0 hlt
      refine ⟨_, rfl, _, rfl, lit1 ++ lit2, _, _, rfl, rfl, small (by decide), hat, ?_⟩
      exact ⟨_, rfl, _, rfl, l, [_], rfl, rfl, small (by rw [hl]; simp; omega), l ++ [_], _, _, _, rfl, hs.trans s2, R2', (by simp [hl]), snoc _ (lits _ (List.getElem_mem hlt))⟩
    · exact ⟨_, rfl, _, rfl, l, [10], rfl, rfl, small (by rw [hl]; simp; omega), l ++ [10], _, _, _, rfl, hs.trans s2, R2', (by simp [hl]), snoc 10 (by decide)⟩
  · intro σ H' hP
    obtain ⟨l, x, y, v, rfl, hs, hR, hl, hc⟩ := hP
    have e : (((0 : Int) + (z - 0)).toNat) = z.toNat := by omega
    exact ⟨_, rfl, q l H' hl hc hs (hR.mono (by omega))⟩
theorem sc__law_first : FnScope ["_law_room_here", "_law_text", "_law_place"] ["_law_room_here"] (defScope s__law_first) := ⟨rfl, rfl, rfl, by decide +kernel, rfl, by decide +kernel, by decide +kernel⟩
theorem ok_first55 (F : Fun K "_law_first" "_law_first" s__law_first f fd) (O__law_take : Own P w K mg base CX0 1 "_law_take" ["_law_room_here", "_law_many"] sp_take) (O__law_signs : Own P w K mg base CX0 2 "_law_signs" ["_law_room_here", "_law_size"] sp_signs55) (m_len : mg "len" = none) : FnOk P w K mg base CX0 3 f fd ["_law_room_here"] sp_first55 := by
  refine F.ok sc__law_first (fun vs H Q E h => ?_) (fun cdv A outer s H vs Q E hr h => ?_)
  · obtain ⟨r, c, n, rfl, _⟩ := h
    rfl
  obtain ⟨r, c, n, rfl, hM, hn, q⟩ := h
  refine ⟨_, (pss_cons (ps_set (i := 1) sc__law_first.nd rfl (Or.inl rfl) (pe_own O__law_signs hr (by rfl) pass0 (pa_cons (pv 0) (pa_cons (pe_own O__law_take hr (by rfl) pass0 (pa_cons (pv 0) (pa_cons pe_int pa_nil))) pa_nil))))
      (pss_cons (ps_set (i := 2) sc__law_first.nd rfl (Or.inl rfl) (pe_own O__law_take hr (by rfl) pass0 (pa_cons (pv 0) (pa_cons (pe_op op_add (pe_callB call_lenS (by rfl) m_len PySem.boot_len (pa_cons (pv 1) pa_nil)) pe_int) pa_nil))))
      (pss_one (ps_ret (pe_tup (pa_cons (pv 1) (pa_cons (pe_lst pa_nil) (pa_cons (pv 2) (pa_cons (pv 2) (pa_cons pe_non pa_nil)))))))))), ?_⟩
  refine ⟨_, rfl, _, rfl, r, c, 41, n, rfl, hM, ⟨by omega, by omega⟩, ⟨by decide, by decide⟩, fun z H1 z0 z1 s1 R1 => ?_⟩
  refine ⟨r, c, z, n + 1, rfl, R1, ⟨by omega, by omega⟩, ⟨z0, by omega⟩, fun l H2 hl hc s2 R2 => ?_⟩
  have hlen : l.length ≤ 40 := by omega
  refine ⟨_, rfl, _, rfl, l, rfl, small (by omega), _, _, rfl, rfl, r, c, (l.length : Int) + 1, n + 1 + z, rfl, R2, ⟨by omega, by omega⟩, ⟨by omega, by omega⟩, fun v H3 v0 v1 s3 R3 => ?_⟩
  obtain ⟨p, rfl⟩ : ∃ p : Nat, v = (p : Int) := ⟨_, (Int.toNat_of_nonneg v0).symm⟩
  have K3 := ((hM.kpA s1 R1).trans (R1.kpA s2 R2)).trans (R2.kpA s3 R3)
  refine ⟨_, rfl, Nat.zero_le _, fun D hD => ⟨_, rfl, _, rfl, (by show 5 ≤ sizeLine; decide), fun t ht => ?_⟩⟩
  have E4 := same_new hD (.lst [])
  have E5 := same_new ht (.tup [.str (S l), .ref D, nV p, nV p, .non])
  exact q t l p D _ (K3.trans (KpA.of (E4.trans E5))) upd_same (E5 _ _ upd_same) (K3.2 _ hD) hlen hc (by omega) ((R3.same (E4.trans E5)).mono (by omega))
theorem sc__law_state : FnScope ["_law_text", "_law_elder", "_law_room_here", "_law_splices", "_law_made", "_law_k", "_law_at", "_law_out", "_law_put", "_law_ahead"] ["_law_text", "_law_elder", "_law_room_here"] (defScope s__law_state) := ⟨rfl, rfl, rfl, by decide +kernel, rfl, by decide +kernel, by decide +kernel⟩
theorem ok_state55 (F : Fun K "_law_state" "_law_state" s__law_state f fd) (O__law_take : Own P w K mg base CX0 1 "_law_take" ["_law_room_here", "_law_many"] sp_take) (O__law_signs : Own P w K mg base CX0 2 "_law_signs" ["_law_room_here", "_law_size"] sp_signs55) (m_len : mg "len" = none) (m_range : mg "range" = none) : FnOk P w K mg base CX0 3 f fd ["_law_text", "_law_elder", "_law_room_here"] sp_state55 := by
  refine F.ok sc__law_state (fun vs H Q E h => ?_) (fun cdv A outer s H vs Q E hr h => ?_)
  · obtain ⟨l, el, r, c, n, rfl, _⟩ := h
    rfl
  obtain ⟨l, el, r, c, n, rfl, hM, hn, hl, hasc, q⟩ := h
  refine ⟨_, (pss_cons (ps_set (i := 3) sc__law_state.nd rfl (Or.inl rfl) (pe_lst pa_nil))
      (pss_cons (ps_set (i := 4) sc__law_state.nd rfl (Or.inl rfl) (pv 0))
      (pss_cons (ps_for PassesOwn.never rfl (pi_range1 (by rfl) m_range (pa_cons (pe_own O__law_take hr (by rfl) pass0 (pa_cons (pv 2) (pa_cons pe_int pa_nil))) pa_nil)) (pg_name (i := 5) sc__law_state.nd rfl (Or.inl rfl)) (pss_cons (ps_set (i := 6) sc__law_state.nd rfl (Or.inl rfl) (pe_own O__law_take hr (by rfl) pass0 (pa_cons (pv 2) (pa_cons (pe_op op_add (pe_callB call_lenS (by rfl) m_len PySem.boot_len (pa_cons (pv 4) pa_nil)) pe_int) pa_nil))))
      (pss_cons (ps_set (i := 7) sc__law_state.nd rfl (Or.inl rfl) (pe_slice sl_str (pv 4) (po_some (pv 6)) (po_some (pe_op op_add (pv 6) (pe_own O__law_take hr (by rfl) pass0 (pa_cons (pv 2) (pa_cons pe_int pa_nil)))))))
      (pss_cons (ps_set (i := 8) sc__law_state.nd rfl (Or.inl rfl) (pe_own O__law_signs hr (by rfl) pass0 (pa_cons (pv 2) (pa_cons (pe_own O__law_take hr (by rfl) pass0 (pa_cons (pv 2) (pa_cons pe_int pa_nil))) pa_nil))))
      (pss_cons (ps_expr (pe_bm PySem.F.plainAttrs_list PySem.F.slot_list_append PySem.F.type_list_append mt_append (pv 3) (pa_cons (pe_tup (pa_cons (pv 6) (pa_cons (pv 7) (pa_cons (pv 8) pa_nil)))) pa_nil)))
      (pss_one (ps_set (i := 4) sc__law_state.nd rfl (Or.inl rfl) (pe_op op_adS (pe_op op_adS (pe_slice sl_str (pv 4) po_none (po_some (pv 6))) (pv 8)) (pe_slice sl_str (pv 4) (po_some (pe_op op_add (pv 6) (pe_callB call_lenS (by rfl) m_len PySem.boot_len (pa_cons (pv 7) pa_nil)))) po_none)))))))))
      (pss_cons (ps_set (i := 9) sc__law_state.nd rfl (Or.inl rfl) (pe_own O__law_take hr (by rfl) pass0 (pa_cons (pv 2) (pa_cons (pe_op op_add (pe_callB call_lenS (by rfl) m_len PySem.boot_len (pa_cons (pv 0) pa_nil)) pe_int) pa_nil))))
      (pss_one (ps_ret (pe_tup (pa_cons (pv 4) (pa_cons (pv 3) (pa_cons (pv 9) (pa_cons (pe_own O__law_take hr (by rfl) pass0 (pa_cons (pv 2) (pa_cons (pe_op op_add (pe_callB call_lenS (by rfl) m_len PySem.boot_len (pa_cons (pv 4) pa_nil)) pe_int) pa_nil))) (pa_cons (pv 1) pa_nil)))))))))))), ?_⟩
  refine ⟨Nat.zero_le _, fun D hD => ?_⟩
  have E1 := same_new hD (.lst [])
  have M1 := hM.same E1
  have hD1 : upd H D (.lst []) D = some (.lst []) := upd_same
  have nDr : D ≠ r := fun z => hM.al.1 (z ▸ hD)
  have nDc : D ≠ c := fun z => hM.al.2.1 (z ▸ hD)
  generalize upd H D (.lst []) = H1 at E1 M1 hD1
  refine ⟨_, rfl, ?_⟩
  refine ⟨_, rfl, r, c, 4, n, rfl, M1, ⟨by omega, by omega⟩, ⟨by decide, by decide⟩, fun z H2 z0 z1 s2 R2 => ?_⟩
  have K2 := (KpA.of (bad := [r]) E1).trans (M1.kpA s2 R2)
  have hD2 := s2 _ _ nDr hD1
  refine ⟨_, rfl, by omega, by omega, ?_⟩
  refine for_range (fun i σ H' => KpA [r] H H' ∧ Rm H' r c (n + 1 + 10 * i) ∧ ∃ (m : List Nat) (sps : List Spl) (x1 x2 x3 x4 : Option V), walkS l sps = some m ∧ sps.length = i ∧ (∀ s ∈ sps, s.2.1.length ≤ 4 ∧ s.2.2.length ≤ 4) ∧ m.length ≤ l.length + 3 * i ∧ (∀ d ∈ m, d < 128) ∧ TupsV H' D (splV sps) ∧ σ = [some (.str (S l)), some (optV el), some (.ref r), some (.ref D), some (.str (S m)), x1, x2, x3, x4, none]) ⟨K2, by simpa using R2, l, [], none, none, none, none, rfl, rfl, (fun s hs => by cases hs), by omega, hasc, TupsV.nil hD2, rfl⟩ ?_ ?_
  · rintro i σ H' hi ⟨K', R', m, sps, x1, x2, x3, x4, hw, hsl, hb4, hml, hma, hT, rfl⟩
    have hi' : i < 4 := by
      have : i < (z : Int).toNat := hi
      omega
    rw [Int.zero_add]
    refine ⟨_, rfl, _, rfl, m, rfl, small (by omega), _, _, rfl, rfl, r, c, (m.length : Int) + 1, _, rfl, R', ⟨by omega, by omega⟩, ⟨by omega, by omega⟩, fun p H3 p0 p1 s3 R3 => ?_⟩
    obtain ⟨p, rfl⟩ : ∃ p' : Nat, p = (p' : Int) := ⟨_, (Int.toNat_of_nonneg p0).symm⟩
    have hpl : p ≤ m.length := by omega
    refine ⟨_, rfl, _, rfl, _, rfl, _, rfl, _, rfl, r, c, 4, _, rfl, R3, ⟨by omega, by omega⟩, ⟨by decide, by decide⟩, fun w1 H4 w10 w11 s4 R4 => ?_⟩
    obtain ⟨w1, rfl⟩ : ∃ p' : Nat, w1 = (p' : Int) := ⟨_, (Int.toNat_of_nonneg w10).symm⟩
    have eo : cutL m (some (p : Int)) (some ((p : Int) + (w1 : Int))) = cutT m p (p + w1) := by
      rw [show (p : Int) + (w1 : Int) = ((p + w1 : Nat) : Int) by omega]
      exact cutL_nn m p (p + w1)
    refine ⟨_, _, rfl, rfl, _, rfl, m, rfl, small (by omega), ?_⟩
    show gName _ (V.str (S (cutL m (some (p : Int)) (some ((p : Int) + (w1 : Int)))))) _ _ _
    rw [eo]
    have hol : (cutT m p (p + w1)).length ≤ 4 := by unfold cutT; rw [List.length_take]; omega
    have ho2 : cutT m p (p + (cutT m p (p + w1)).length) = cutT m p (p + w1) := by
      unfold cutT
      rw [show p + ((m.drop p).take (p + w1 - p)).length - p = ((m.drop p).take (p + w1 - p)).length by omega, List.length_take]
      rw [show p + w1 - p = w1 by omega]
      by_cases hh : w1 ≤ (m.drop p).length
      · rw [Nat.min_eq_left hh]
      · rw [Nat.min_eq_right (by omega), List.take_of_length_le (Nat.le_refl _), List.take_of_length_le (by omega)]
    generalize cutT m p (p + w1) = out at hol ho2
    refine ⟨_, rfl, _, rfl, r, c, 4, _, rfl, R4, ⟨by omega, by omega⟩, ⟨by decide, by decide⟩, fun w2 H5 w20 w21 s5 R5 => ?_⟩
    refine ⟨r, c, w2, _, rfl, R5, ⟨by omega, by omega⟩, ⟨w20, by omega⟩, fun put H6 hput hpa s6 R6 => ?_⟩
    have KK := (((R'.kpA s3 R3).trans (R3.kpA s4 R4)).trans (R4.kpA s5 R5)).trans (R5.kpA s6 R6)
    have hT6 := KK.1.lst (nin1 nDr) hT
    have K6 := K'.trans KK
    obtain ⟨xs, hx, hxl, _⟩ := hT6.mem
    have hxl' : xs.length = i := by rw [hxl]; unfold splV; rw [List.length_map, hsl]
    refine ⟨_, rfl, .inl ⟨rfl, _, SqL.of hx⟩, _, rfl, _, rfl, _, rfl, (by show 3 ≤ sizeLine; decide), fun t ht => ?_⟩
    have S7 := same_new ht (.tup [nV p, .str (S out), .str (S put)])
    have hT7 := TupsV.snoc (hT6.same S7) (S7 _ _ hx) (upd_same (H := H6) (a := t) (o := .tup [nV p, .str (S out), .str (S put)]))
    refine ⟨D, _, _, rfl, rfl, S7 _ _ hx, ?_, ?_⟩
    · rw [hxl']
      exact Nat.lt_of_lt_of_le (show _ < 1000000 by omega) (small (Nat.le_refl _))
    have e1 : cutL m none (some (p : Int)) = m.take p := cutL_m m p
    have e2 : cutL m (some ((p : Int) + (out.length : Int))) none = m.drop (p + out.length) := by
      rw [show (p : Int) + (out.length : Int) = ((p + out.length : Nat) : Int) by omega]
      exact cutL_n m _
    have l1 : (m.take p).length ≤ p := by rw [List.length_take]; omega
    have l2 : (m.drop (p + out.length)).length ≤ m.length - p := by rw [List.length_drop]; omega
    have hw' := walk_snoc (s := (p, out, put)) hw hpl ho2
    refine ⟨_, rfl, _, rfl, _, rfl, m, rfl, small (by omega), _, rfl, m.take p, put, (by rw [← e1]), rfl, Nat.le_trans (show _ ≤ 1000000 by omega) (small (Nat.le_refl _)), _, rfl, _, rfl, _, rfl, out, rfl, small (by omega), _, _, rfl, rfl, _, rfl, m, rfl, small (by omega), m.take p ++ put, m.drop (p + out.length), rfl, (by rw [← e2]), Nat.le_trans (show _ ≤ 1000000 by rw [List.length_append]; omega) (small (Nat.le_refl _)), ?_⟩
    have R7 : Rm (upd (upd H6 t (.tup [nV p, .str (S out), .str (S put)])) D (.lst (xs ++ [.ref t]))) r c (n + 1 + 10 * ((i + 1 : Nat) : Int)) := ((R6.same S7).keep (bad := [D]) (Kp.upd (List.mem_singleton.mpr rfl) (fun t' z => by rw [S7 _ _ hx] at z; cases z)) (nin1 (Ne.symm nDr)) (nin1 (Ne.symm nDc))).mono (by omega)
    refine ⟨(K6.trans (KpA.of S7)).updN hD, R7, m.take p ++ put ++ m.drop (p + out.length), sps ++ [(p, out, put)], _, _, _, _, hw', by rw [List.length_append, hsl]; rfl, (fun s hs => ?_), ?_, fun d hd => ?_, ?_, rfl⟩
    · rcases List.mem_append.mp hs with h | h
      · exact hb4 s h
      · rw [List.mem_singleton.mp h]
        exact ⟨hol, by show put.length ≤ 4; omega⟩
    · rw [List.length_append, List.length_append]
      omega
    · rcases List.mem_append.mp hd with h | h
      · rcases List.mem_append.mp h with h | h
        · exact hma d (List.mem_of_mem_take h)
        · exact hpa d h
      · exact hma d (List.mem_of_mem_drop h)
    · have es : splV (sps ++ [(p, out, put)]) = splV sps ++ [[nV p, .str (S out), .str (S put)]] := by unfold splV; rw [List.map_append]; rfl
      rw [es]
      exact hT7
  · rintro σ H' ⟨K', R', m, sps, x1, x2, x3, x4, hw, hsl, hb4, hml, hma, hT, rfl⟩
    have hsl3 : sps.length ≤ 3 := by
      have : sps.length = (z : Int).toNat := hsl
      omega
    have hml9 : m.length ≤ l.length + 9 := by
      have : m.length ≤ l.length + 3 * (z : Int).toNat := hml
      omega
    have R'' : Rm H' r c (n + 50) := R'.mono (by omega)
    refine ⟨_, rfl, _, rfl, l, rfl, small (by omega), _, _, rfl, rfl, r, c, (l.length : Int) + 1, _, rfl, R'', ⟨by omega, by omega⟩, ⟨by omega, by omega⟩, fun v H3 v0 v1 s3 R3 => ?_⟩
    obtain ⟨ah, rfl⟩ : ∃ p : Nat, v = (p : Int) := ⟨_, (Int.toNat_of_nonneg v0).symm⟩
    refine ⟨_, rfl, _, rfl, _, rfl, _, rfl, _, rfl, m, rfl, small (by omega), _, _, rfl, rfl, r, c, (m.length : Int) + 1, _, rfl, R3, ⟨by omega, by omega⟩, ⟨by omega, by omega⟩, fun v H4 v0 v1 s4 R4 => ?_⟩
    obtain ⟨bh, rfl⟩ : ∃ p : Nat, v = (p : Int) := ⟨_, (Int.toNat_of_nonneg v0).symm⟩
    have KK := (R''.kpA s3 R3).trans (R3.kpA s4 R4)
    have hT4 := KK.1.lst (nin1 nDr) hT
    refine ⟨_, rfl, (by show 5 ≤ sizeLine; decide), fun t ht => ?_⟩
    exact q t m sps ah bh D _ ((K'.trans KK).trans (KpA.of (same_new ht _))) upd_same (hT4.same (same_new ht _)) hw hsl3 hb4 hml9 hma (by omega) (by omega) hD ((R4.same (same_new ht _)).mono (by omega))
end

end My

set_option Elab.async false
set_option linter.all false
set_option maxRecDepth 100000
set_option maxHeartbeats 4000000
namespace My
open PySem L2






/-! the tree and the law's list of its states, beside others -/
structure BothG (G : List Addr) (C p L Y SL : Addr) (tr : Tr) (H : Hp) : Prop where
  tree : TreeAt C p L Y tr H
  law : ∃ ds, LStD H SL L ds tr.ss ∧ ∀ d ∈ ds, d ∉ G
  good : Good tr.ss
  yg : YgOk tr
theorem BothG.both {G : List Addr} {C p L Y SL : Addr} {tr : Tr} {H : Hp} (h : BothG G C p L Y SL tr H) : Both C p L Y SL tr H := ⟨h.tree, let ⟨ds, b, _⟩ := h.law; ⟨ds, b⟩, h.good⟩
theorem BothG.kp {G bad : List Addr} {C p L Y SL : Addr} {tr : Tr} {H H' : Hp} (h : BothG G C p L Y SL tr H) (k : Kp bad H H') (sub : ∀ b ∈ bad, b ∈ G) (np : p ∉ bad) (nL : L ∉ bad) (nY : Y ∉ bad) (nS : SL ∉ bad) : BothG G C p L Y SL tr H' :=
  let ⟨ds, b, n⟩ := h.law
  ⟨k.tree np nL nY h.tree, ⟨ds, b.kp k nS (fun d hd z => n d hd (sub d z)), n⟩, h.good, h.yg⟩
theorem BothG.same {G : List Addr} {C p L Y SL : Addr} {tr : Tr} {H H' : Hp} (h : BothG G C p L Y SL tr H) (s : Same H H') : BothG G C p L Y SL tr H' := h.kp (Kp.of (bad := []) s) (fun _ z => by cases z) (fun z => by cases z) (fun z => by cases z) (fun z => by cases z) (fun z => by cases z)
theorem BothG.led {G : List Addr} {C p L Y SL : Addr} {tr : Tr} {H H' : Hp} {j : Nat} (h : BothG G C p L Y SL tr H) (k : Kp [p] H H') (t : TreeAt C p L Y (tr.led j) H') (hp : p ∈ G) : BothG G C p L Y SL (tr.led j) H' := by
  obtain ⟨ds, b, n⟩ := h.law
  have hb := b.bad (bad := [p]) (fun b' hb => h.tree.bad b' (by rw [List.mem_singleton.mp hb]; exact List.mem_cons_self ..))
  exact ⟨t, ⟨ds, b.kp k hb.1 hb.2, n⟩, h.good, h.yg⟩
theorem BothG.al {G : List Addr} {C p L Y SL : Addr} {tr : Tr} {H : Hp} (h : BothG G C p L Y SL tr H) : H p ≠ none ∧ H L ≠ none ∧ H Y ≠ none ∧ H SL ≠ none := by
  obtain ⟨dx, h1⟩ := h.tree.at_
  obtain ⟨as, h2, _⟩ := h.tree.kn
  obtain ⟨kvs, h3, _⟩ := h.tree.yg
  obtain ⟨ds, ⟨_, ls, h4, _⟩, _⟩ := h.law
  exact ⟨(by rw [h1]; exact (fun z => by cases z)), (by rw [h2]; exact (fun z => by cases z)), (by rw [h3]; exact (fun z => by cases z)), (by rw [h4]; exact (fun z => by cases z))⟩
structure Cst (G : List Addr) (p L Y SL r c h : Addr) : Prop where
  gp : p ∈ G
  gL : L ∈ G
  gY : Y ∈ G
  gS : SL ∈ G
  gr : r ∈ G
  gh : h ∈ G
  nc : c ∉ G
  nY : Y ≠ r
  nhL : h ≠ L
  nhS : h ≠ SL
def Alive (G : List Addr) (H : Hp) : Prop := ∀ g ∈ G, H g ≠ none
theorem Alive.kp {G bad : List Addr} {H H' : Hp} (a : Alive G H) (k : KpA bad H H') : Alive G H' := fun g hg z => a g hg (k.2 g z)
theorem Alive.new {G : List Addr} {H : Hp} {D : Addr} (a : Alive G H) (n : H D = none) : D ∉ G := fun z => a D z n
theorem take_both {G : List Addr} {C p L Y SL r c h : Addr} {tr : Tr} {n m : Int} {H H' : Hp} (B : BothG G C p L Y SL tr H) (X : Cst G p L Y SL r c h) (R : Rm H r c n) (s : SameX r H H') (R' : Rm H' r c m) : BothG G C p L Y SL tr H' := by
  obtain ⟨_, _, kvs, cs, h1, _⟩ := R.al
  obtain ⟨dx, hp⟩ := B.tree.at_
  obtain ⟨as, hL, _⟩ := B.tree.kn
  obtain ⟨ds, ⟨_, ls, hS, _⟩, _⟩ := B.law
  refine B.kp (R.kpA s R').1 (fun b hb => by rw [List.mem_singleton.mp hb]; exact X.gr) (nin1 (fun z => ?_)) (nin1 (fun z => ?_)) (nin1 X.nY) (nin1 (fun z => ?_))
  · rw [z, h1] at hp; cases hp
  · rw [z, h1] at hL; cases hL
  · rw [z, h1] at hS; cases hS
def HeldV (G : List Addr) (H : Hp) (h : Addr) (m : Nat) : Prop := ∃ ts : List Addr, H h = some (.lst (ts.map V.ref)) ∧ ts.length ≤ m ∧ ∀ t ∈ ts, ∃ (F F' : Addr) (xs : List Trip), H t = some (.tup [.ref F, .ref F']) ∧ TupsV H F (xs.map trip) ∧ TupsV H F' (xs.map trip) ∧ F ∉ G ∧ F' ∉ G
theorem HeldV.kp {G bad : List Addr} {H H' : Hp} {h : Addr} {m : Nat} (x : HeldV G H h m) (k : Kp bad H H') (sub : ∀ b ∈ bad, b ∈ G) (nh : h ∉ bad) : HeldV G H' h m := by
  obtain ⟨ts, h1, h2, h3⟩ := x
  refine ⟨ts, k.1 _ _ nh h1, h2, fun t ht => ?_⟩
  obtain ⟨F, F', xs, g1, g2, g3, g4, g5⟩ := h3 t ht
  exact ⟨F, F', xs, k.2 _ _ g1, k.lst (fun z => g4 (sub _ z)) g2, k.lst (fun z => g5 (sub _ z)) g3, g4, g5⟩
theorem HeldV.same {G : List Addr} {H H' : Hp} {h : Addr} {m : Nat} (x : HeldV G H h m) (s : Same H H') : HeldV G H' h m := x.kp (Kp.of (bad := []) s) (fun _ z => by cases z) (fun z => by cases z)
theorem HeldV.mono {G : List Addr} {H : Hp} {h : Addr} {m k : Nat} (x : HeldV G H h m) (hk : m ≤ k) : HeldV G H h k := let ⟨ts, h1, h2, h3⟩ := x; ⟨ts, h1, Nat.le_trans h2 hk, h3⟩
theorem HeldV.snoc {G : List Addr} {H : Hp} {h t F F' : Addr} {m : Nat} {xs : List Trip} {vs : List V} (x : HeldV G H h m) (hh : H h = some (.lst vs)) (gh : h ∈ G) (ht : H t = some (.tup [.ref F, .ref F'])) (g2 : TupsV H F (xs.map trip)) (g3 : TupsV H F' (xs.map trip)) (g4 : F ∉ G) (g5 : F' ∉ G) : HeldV G (upd H h (.lst (vs ++ [.ref t]))) h (m + 1) := by
  obtain ⟨ts, h1, h2, h3⟩ := x
  rw [h1] at hh
  cases hh
  have k : Kp [h] H (upd H h (.lst (ts.map V.ref ++ [.ref t]))) := Kp.upd (List.mem_singleton.mpr rfl) (fun t z => by rw [h1] at z; cases z)
  have nF : ∀ {F : Addr}, F ∉ G → F ∉ [h] := fun {F} g z => g (by rw [List.mem_singleton.mp z]; exact gh)
  refine ⟨ts ++ [t], by rw [upd_same, List.map_append]; rfl, by rw [List.length_append]; exact Nat.succ_le_succ h2, fun t' ht' => ?_⟩
  rcases List.mem_append.mp ht' with h' | h'
  · obtain ⟨F, F', xs, g1, g2, g3, g4, g5⟩ := h3 t' h'
    exact ⟨F, F', xs, k.2 _ _ g1, k.lst (nF g4) g2, k.lst (nF g5) g3, g4, g5⟩
  · rw [List.mem_singleton.mp h']
    exact ⟨F, F', xs, k.2 _ _ ht, k.lst (nF g4) g2, k.lst (nF g5) g3, g4, g5⟩
theorem HeldV.len {G : List Addr} {H : Hp} {h : Addr} {m : Nat} (x : HeldV G H h m) : ∃ vs, H h = some (.lst vs) ∧ vs.length ≤ m := let ⟨ts, h1, h2, _⟩ := x; ⟨_, h1, by rw [List.length_map]; exact h2⟩
/-! k55: which way a tree is led -/
def sp_tundoneS (C : Addr) : Sp := fun vs H Q _ => ∃ (p L Y : Addr) (tr : Tr) (s : Sta) (e : Nat), vs = [.ref p] ∧ TreeAt C p L Y tr H ∧ tr.ss[tr.pr]? = some s ∧ s.el = some e ∧ ∀ H', Kp [p] H H' → TreeAt C p L Y (tr.led e) H' → Q (nV s.ah) H'
def sp_tdoneS (C : Addr) : Sp := fun vs H Q _ => ∃ (p L Y : Addr) (tr : Tr) (j : Nat) (s : Sta), vs = [.ref p] ∧ TreeAt C p L Y tr H ∧ tr.yg tr.pr = some j ∧ tr.ss[j]? = some s ∧ ∀ H', Kp [p] H H' → TreeAt C p L Y (tr.led j) H' → Q (nV s.bh) H'
theorem undone_sure {C N : Addr} : ∀ vs H Q E, sp_tundoneS C vs H Q E → sp_tundone C N vs H Q (fun _ _ _ => False) := fun vs H Q E ⟨p, L, Y, tr, s, e, ev, T, es, he, q⟩ => ⟨p, L, Y, tr, s, ev, T, es, (fun e' H' he' k t => by rw [he] at he'; cases he'; exact q H' k t), fun z => by rw [he] at z; cases z⟩
theorem done_sure {C N : Addr} : ∀ vs H Q E, sp_tdoneS C vs H Q E → sp_tdone C N vs H Q (fun _ _ _ => False) := fun vs H Q E ⟨p, L, Y, tr, j, s, ev, T, ej, es, q⟩ => ⟨p, L, Y, tr, ev, T, (fun j' s' H' ej' es' k t => by rw [ej] at ej'; cases ej'; rw [es] at es'; cases es'; exact q H' k t), fun z => by rw [ej] at z; cases z⟩
def sp_nolead (C : Addr) : Sp := fun vs H Q _ => ∃ (p L Y : Addr) (tr : Tr) (s : Sta) (k : Int), vs = [.ref p, .int k] ∧ TreeAt C p L Y tr H ∧ tr.ss[tr.pr]? = some s ∧ ((k = 0 ∧ s.el = none) ∨ (k = 1 ∧ tr.yg tr.pr = none)) ∧ ∀ H', Same H H' → Q (.bl true) H'
def sp_led55 (G : List Addr) (C : Addr) : Sp := fun vs H Q _ => ∃ (p L Y SL r c h : Addr) (tr : Tr) (k n : Int), vs = [.ref p, .ref SL, nV tr.pr, .int k, .ref r] ∧ Cst G p L Y SL r c h ∧ BothG G C p L Y SL tr H ∧ Rm H r c n ∧ (0 ≤ n ∧ n < 900000) ∧ (k = 0 ∨ k = 1 ∨ k = 3) ∧ tr.ss.length ≤ 100 ∧ ∀ j H', KpA [p, r] H H' → BothG G C p L Y SL (tr.led j) H' → Rm H' r c (n + 1) → Q (nV j) H'


section
variable {P : Program} {w : World} {K : PySem.W.Frag} {mg : Str → Option Value} {base : Heap} {f C C_ModeError C_NoState : Addr} {fd : FuncData}
theorem sc__law_no_lead : FnScope ["_law_tree", "_law_way_here", "_law_kinds", "e"] ["_law_tree", "_law_way_here"] (defScope s__law_no_lead) := ⟨rfl, rfl, rfl, by decide +kernel, rfl, by decide +kernel, by decide +kernel⟩
theorem ok_nolead (F : Fun K "_law_no_lead" "_law_no_lead" s__law_no_lead f fd) (O_Tree__undone : OwnM P w K mg base (CXD P w) 5 C "undone" ["self"] (sp_tundone C C_NoState)) (O_Tree__done : OwnM P w K mg base (CXD P w) 6 C "done" ["self"] (sp_tdone C C_NoState))
    (m_isinstance : mg "isinstance" = none) (m_ValueError : mg "ValueError" = none) (X : ExcCls K C_NoState) (k_V : PySem.W.kitOne K (.ref C_NoState) (.type "ValueError") = some true) (k_N : PySem.W.kitOne K (.ref C_NoState) (.ref C_NoState) = some true) (m_NoState : mg "NoState" = some (.ref C_NoState)) (m_ModeError : mg "ModeError" = some (.ref C_ModeError)) (c_ModeError : (PySem.W.clsIn K C_ModeError).isSome = true) (t_ModeError : PySem.W.typeIn K (.ref C_ModeError) = some (.type "type"))
    (b_ModeError : PySem.W.mroIn K C_ModeError (.type "BaseException") = some true) (r_ModeError : PySem.W.mroIn K C_NoState (.ref C_ModeError) = some true) : FnOk P w K mg base CX0 7 f fd ["_law_tree", "_law_way_here"] (sp_nolead C) := by
  refine F.ok sc__law_no_lead (fun vs H Q E h => ?_) (fun cdv A outer s H vs Q E hr h => ?_)
  · obtain ⟨p, L, Y, tr, s, k, rfl, _⟩ := h
    rfl
  obtain ⟨p, L, Y, tr, s, k, rfl, TA, es, hk, q⟩ := h
  refine ⟨_, (pss_cons (ps_set (i := 2) sc__law_no_lead.nd rfl (Or.inl rfl) (pe_lst pa_nil))
      (pss_cons (ps_tryD (i := 3) rfl rfl sc__law_no_lead.nd rfl rfl (by rfl) m_ModeError c_ModeError t_ModeError b_ModeError (fun _ _ => (pss_one (ps_if (pt_cmpR op_eq (pv 1) pe_int (nomark _)) (pss_one (ps_expr (pe_ownMX0 O_Tree__undone hr (pv 0) pass_tryD))) (pss_one (ps_expr (pe_ownMX0 O_Tree__done hr (pv 0) pass_tryD)))))) (fun _ => (pss_one (ps_set (i := 2) sc__law_no_lead.nd rfl (Or.inl rfl) (pe_lst (pa_cons (pe_callB call_isxD (by rfl) m_isinstance boot_isi (pa_cons (pv 3) (pa_cons (pe_glob (v := .ref C_NoState) (by rfl) m_NoState rfl) pa_nil))) (pa_cons (pe_callB call_isxD (by rfl) m_isinstance boot_isi (pa_cons (pv 3) (pa_cons (pe_bltn (v := .ty "ValueError") (by rfl) m_ValueError boot_ValueError rfl) pa_nil))) pa_nil)))))))
      (pss_one (ps_ret (pe_cmpR (op_eqQ hr.units0) (pv 2) (pe_lst (pa_cons pe_bl (pa_cons pe_bl pa_nil))) (nomark _)))))), ?_⟩
  refine ⟨(by show 0 ≤ sizeLine; decide), fun a1 h1 => ?_⟩
  have A1 := same_new h1 (.lst [])
  have TA' := TA.same A1
  obtain ⟨dx0, hp⟩ := TA'.at_
  rcases hk with ⟨rfl, he⟩ | ⟨rfl, he⟩
  · refine ⟨_, rfl, rfl, _, rfl, iteDT rfl ⟨_, rfl, p, dx0, _, rfl, hp, rfl, p, L, Y, tr, s, rfl, TA', es, (fun e H' z => by rw [he] at z; cases z), fun _ dx hdx => ⟨_, rfl, r_ModeError, fun e he => ?_⟩⟩⟩
    have ob : ∀ h, ExcAt e C_NoState (some dx) h → ExcObj e C_NoState h := fun h x => x.obj
    refine ⟨_, rfl, e, _, _, _, _, rfl, ⟨"", .inr ⟨_, rfl⟩⟩, upd_same, ob, X, k_N, _, rfl, e, _, _, _, _, rfl, ⟨_, .inl rfl⟩, upd_same, ob, X, k_V, (by show 2 ≤ sizeLine; decide), fun p1 n1 => ?_⟩
    have E1 := same_new n1 (.lst [.bl true, .bl true])
    refine ⟨_, rfl, (by show 2 ≤ sizeLine; decide), fun p2 n2 => ?_⟩
    have E2 := same_new n2 (.lst [.bl true, .bl true])
    exact ⟨p1, p2, _, _, rfl, rfl, .inl ⟨SqL.of (E2 _ _ upd_same), SqL.of upd_same⟩, rfl, rfl, q _ (A1.trans ((same_new hdx _).trans ((same_new he _).trans (E1.trans E2))))⟩
  · refine ⟨_, rfl, rfl, _, rfl, iteDF (fun z => absurd (V.int.inj z) (by decide)) ⟨_, rfl, p, dx0, _, rfl, hp, rfl, p, L, Y, tr, rfl, TA', (fun j s' H' z => by rw [he] at z; cases z), fun _ dx hdx => ⟨_, rfl, r_ModeError, fun e he => ?_⟩⟩⟩
    have ob : ∀ h, ExcAt e C_NoState (some dx) h → ExcObj e C_NoState h := fun h x => x.obj
    refine ⟨_, rfl, e, _, _, _, _, rfl, ⟨"", .inr ⟨_, rfl⟩⟩, upd_same, ob, X, k_N, _, rfl, e, _, _, _, _, rfl, ⟨_, .inl rfl⟩, upd_same, ob, X, k_V, (by show 2 ≤ sizeLine; decide), fun p1 n1 => ?_⟩
    have E1 := same_new n1 (.lst [.bl true, .bl true])
    refine ⟨_, rfl, (by show 2 ≤ sizeLine; decide), fun p2 n2 => ?_⟩
    have E2 := same_new n2 (.lst [.bl true, .bl true])
    exact ⟨p1, p2, _, _, rfl, rfl, .inl ⟨SqL.of (E2 _ _ upd_same), SqL.of upd_same⟩, rfl, rfl, q _ (A1.trans ((same_new hdx _).trans ((same_new he _).trans (E1.trans E2))))⟩
end

end My

set_option Elab.async false
set_option linter.all false
set_option maxRecDepth 100000
set_option maxHeartbeats 4000000
namespace My
open PySem L2






def sp_grown55 (G : List Addr) (C : Addr) : Sp := fun vs H Q _ => ∃ (p L Y SL r c h : Addr) (tr : Tr) (n : Int), vs = [.ref p, .ref SL, nV tr.pr, .ref r] ∧ Cst G p L Y SL r c h ∧ BothG G C p L Y SL tr H ∧ Alive G H ∧ Rm H r c n ∧ (0 ≤ n ∧ n < 900000) ∧ tr.ss.length ≤ 60 ∧ ∀ m xs ah bh H', KpA [p, L, Y, SL, r] H H' → BothG G C p L Y SL (tr.grown m xs ah bh) H' → Rm H' r c (n + 400) → Q (nV tr.ss.length) H'
theorem KpA.led {G : List Addr} {C p L Y SL : Addr} {tr : Tr} {H H' : Hp} (k : Kp [p] H H') (B : BothG G C p L Y SL tr H') : KpA [p] H H' := KpA.kp k (fun b hb => by rw [List.mem_singleton.mp hb]; exact B.al.1)
theorem Rm.led {G : List Addr} {C p L Y SL r c h : Addr} {tr : Tr} {n : Int} {H H' : Hp} (R : Rm H r c n) (X : Cst G p L Y SL r c h) (B : BothG G C p L Y SL tr H) (k : Kp [p] H H') : Rm H' r c n := by
  obtain ⟨_, _, kvs, cs, h1, _⟩ := R.al
  obtain ⟨dx, hp⟩ := B.tree.at_
  exact R.keep k (nin1 (fun z => by rw [z, hp] at h1; cases h1)) (nin1 (fun z => X.nc (z ▸ X.gp)))
section
variable {P : Program} {w : World} {K : PySem.W.Frag} {mg : Str → Option Value} {base : Heap} {f C : Addr} {fd : FuncData} {G : List Addr}
theorem sc__law_led : FnScope ["_law_tree", "_law_states", "_law_at", "_law_way_here", "_law_room_here", "_law_number"] ["_law_tree", "_law_states", "_law_at", "_law_way_here", "_law_room_here"] (defScope s__law_led) := ⟨rfl, rfl, rfl, by decide +kernel, rfl, by decide +kernel, by decide +kernel⟩
theorem ok_led55 (F : Fun K "_law_led" "_law_led" s__law_led f fd) (O__law_take : Own P w K mg base CX0 1 "_law_take" ["_law_room_here", "_law_many"] sp_take) (O_Tree__to : OwnM P w K mg base CX0 5 C "to" ["self", "number"] (sp_ttoS C)) (O_Tree__undone : OwnM P w K mg base CX0 5 C "undone" ["self"] (sp_tundoneS C)) (O_Tree__done : OwnM P w K mg base CX0 6 C "done" ["self"] (sp_tdoneS C)) (O__law_newest : Own P w K mg base CX0 1 "_law_newest" ["_law_states", "_law_at"] sp_tnew) (O__law_no_lead : Own P w K mg base CX0 7 "_law_no_lead" ["_law_tree", "_law_way_here"] (sp_nolead C)) (O__law_same : Own P w K mg base CX0 1 "_law_same" ["_law_found", "_law_due"] sp_sameT) (m_len : mg "len" = none) : FnOk P w K mg base CX0 8 f fd ["_law_tree", "_law_states", "_law_at", "_law_way_here", "_law_room_here"] (sp_led55 G C) := by
  refine F.ok sc__law_led (fun vs H Q E h => ?_) (fun cdv A outer s H vs Q E hr h => ?_)
  · obtain ⟨p, L, Y, SL, r, c, hh, tr, k, n, rfl, _⟩ := h
    rfl
  obtain ⟨p, L, Y, SL, r, c, hh, tr, k, n, rfl, X, B, R, hn, hk, h100, q⟩ := h
  have hpl := B.tree.pr
  have es : tr.ss[tr.pr]? = some tr.ss[tr.pr] := List.getElem?_eq_getElem hpl
  generalize tr.ss[tr.pr] = s at es
  obtain ⟨ls, a, d, hSL, hlen, hat, ⟨hA, _⟩, _, _⟩ := B.both.law.get es
  obtain ⟨dx, hp⟩ := B.tree.at_
  have mp : ∀ x, x ∈ [p] → x ∈ [p, r] := fun x hx => by rw [List.mem_singleton.mp hx]; exact List.mem_cons_self ..
  have mr : ∀ x, x ∈ [r] → x ∈ [p, r] := fun x hx => by rw [List.mem_singleton.mp hx]; exact List.mem_cons_of_mem _ (List.mem_cons_self ..)
  refine ⟨_, (pss_cons (ps_if (pt_cmpR op_eq (pv 3) pe_int (nomark _)) (pss_cons (ps_set (i := 5) sc__law_led.nd rfl (Or.inl rfl) (pe_own O__law_take hr (by rfl) pass0 (pa_cons (pv 4) (pa_cons (pe_callB call_len_seq (by rfl) m_len PySem.boot_len (pa_cons (pv 1) pa_nil)) pa_nil))))
      (pss_cons (ps_if (pt_val (pe_own O__law_same hr (by rfl) pass0 (pa_cons (pe_ownM O_Tree__to hr (pv 0) pass0 (pa_cons (pv 5) pa_nil)) (pa_cons (pe_ix ix_tup (pe_ix ix_list (pv 1) (pv 5) (fun _ _ => rfl)) pe_int (fun _ _ => rfl)) pa_nil)))) (pss_one (ps_ret (pv 5))) pss_nil)
      (pss_one (ps_ret pe_non)))) pss_nil)
      (pss_cons (ps_set (i := 5) sc__law_led.nd rfl (Or.inl rfl) (pe_ix ix_tup (pe_ix ix_list (pv 1) (pv 2) (fun _ _ => rfl)) pe_int (fun _ _ => rfl)))
      (pss_cons (ps_if (pt_cmpR op_eq (pv 3) pe_int (nomark _)) (pss_one (ps_set (i := 5) sc__law_led.nd rfl (Or.inl rfl) (pe_own O__law_newest hr (by rfl) pass0 (pa_cons (pv 1) (pa_cons (pv 2) pa_nil))))) pss_nil)
      (pss_cons (ps_if (pt_cmpR op_isN (pv 5) pe_non (nomark _)) (pss_cons (ps_if (pt_val (pe_own O__law_no_lead hr (by rfl) pass0 (pa_cons (pv 0) (pa_cons (pv 3) pa_nil)))) (pss_one (ps_ret (pv 2))) pss_nil)
      (pss_one (ps_ret pe_non))) pss_nil)
      (pss_cons (ps_if (PW.pt (pw_and (pt_cmpR op_eq (pv 3) pe_int (nomark _)) (pw_and1 (pt_val (pe_own O__law_same hr (by rfl) pass0 (pa_cons (pe_ownM0 O_Tree__undone hr (pv 0) pass0) (pa_cons (pe_ix ix_tup (pe_ix ix_list (pv 1) (pv 2) (fun _ _ => rfl)) pe_int (fun _ _ => rfl)) pa_nil))))))) (pss_one (ps_ret (pv 5))) pss_nil)
      (pss_cons (ps_if (PW.pt (pw_and (pt_cmpR op_eq (pv 3) pe_int (nomark _)) (pw_and1 (pt_val (pe_own O__law_same hr (by rfl) pass0 (pa_cons (pe_ownM0 O_Tree__done hr (pv 0) pass0) (pa_cons (pe_ix ix_tup (pe_ix ix_list (pv 1) (pv 5) (fun _ _ => rfl)) pe_int (fun _ _ => rfl)) pa_nil))))))) (pss_one (ps_ret (pv 5))) pss_nil)
      (pss_one (ps_ret pe_non)))))))), ?_⟩
  rcases hk with rfl | rfl | rfl
  · refine ⟨_, rfl, rfl, _, rfl, iteDF (fun z => absurd (V.int.inj z) (by decide)) ?_⟩
    refine ⟨_, rfl, _, rfl, SL, _, _, _, rfl, rfl, SqL.of hSL, hat, a, _, _, _, rfl, rfl, SqT.of hA, rfl, ?_⟩
    refine ⟨_, rfl, rfl, _, rfl, iteDF (fun z => absurd (V.int.inj z) (by decide)) ?_⟩
    cases he : s.el with
    | none => exact ⟨_, rfl, rfl, _, rfl, iteDT rfl ⟨_, rfl, _, rfl, p, L, Y, tr, s, 0, rfl, B.tree, es, .inl ⟨rfl, he⟩, fun H' S' => ⟨_, rfl, iteT ⟨_, rfl, q tr.pr H' (KpA.of S') (B.same S') ((R.same S').mono (by omega))⟩⟩⟩⟩
    | some e =>
      refine ⟨_, rfl, rfl, _, rfl, iteDF (fun z => by cases z) ?_⟩
      refine ⟨_, rfl, rfl, _, rfl, iteDT rfl ⟨_, rfl, p, dx, _, rfl, hp, rfl, p, L, Y, tr, s, e, rfl, B.tree, es, he, fun H' K' T' => ?_⟩⟩
      have B' := B.led K' T' X.gp
      obtain ⟨ls', a', d', hSL', _, hat', ⟨hA', _⟩, _, _⟩ := B'.both.law.get (show (tr.led e).ss[tr.pr]? = some s from es)
      exact ⟨_, rfl, _, rfl, SL, _, _, _, rfl, rfl, SqL.of hSL', hat', a', _, _, _, rfl, rfl, SqT.of hA', rfl, nV s.ah, rfl, .inr ⟨_, rfl⟩, _, rfl, iteT ⟨_, rfl, q e H' ((KpA.led K' B').mono mp) B' ((R.led X B K').mono (by omega))⟩⟩
  · refine ⟨_, rfl, rfl, _, rfl, iteDF (fun z => absurd (V.int.inj z) (by decide)) ?_⟩
    refine ⟨_, rfl, _, rfl, SL, _, _, _, rfl, rfl, SqL.of hSL, hat, a, _, _, _, rfl, rfl, SqT.of hA, rfl, ?_⟩
    refine ⟨_, rfl, rfl, _, rfl, iteDT rfl ?_⟩
    refine ⟨_, rfl, _, rfl, SL, L, tr.ss, tr.pr, rfl, B.both.law, B.good, hpl, h100, fun rr hr' => ?_⟩
    have er := hr'.uniq (B.yg tr.pr)
    subst er
    show gName _ (optV (tr.yg tr.pr)) _ _ _
    cases he : tr.yg tr.pr with
    | none => exact ⟨_, rfl, rfl, _, rfl, iteDT rfl ⟨_, rfl, _, rfl, p, L, Y, tr, s, 1, rfl, B.tree, es, .inr ⟨rfl, he⟩, fun H' S' => ⟨_, rfl, iteT ⟨_, rfl, q tr.pr H' (KpA.of S') (B.same S') ((R.same S').mono (by omega))⟩⟩⟩⟩
    | some j =>
      have hj := (B.tree.wy _ _ he).2
      have es' : tr.ss[j]? = some tr.ss[j] := List.getElem?_eq_getElem hj
      generalize tr.ss[j] = s' at es'
      refine ⟨_, rfl, rfl, _, rfl, iteDF (fun z => by cases z) ?_⟩
      refine ⟨_, rfl, rfl, _, rfl, iteDF (fun z => absurd (V.int.inj z) (by decide)) (iteF ?_)⟩
      refine ⟨_, rfl, rfl, _, rfl, iteDT rfl ⟨_, rfl, p, dx, _, rfl, hp, rfl, p, L, Y, tr, j, s', rfl, B.tree, he, es', fun H' K' T' => ?_⟩⟩
      have B' := B.led K' T' X.gp
      obtain ⟨ls', a', d', hSL', _, hat', ⟨hA', _⟩, _, _⟩ := B'.both.law.get (show (tr.led j).ss[j]? = some s' from es')
      exact ⟨_, rfl, _, rfl, SL, _, _, _, rfl, rfl, SqL.of hSL', hat', a', _, _, _, rfl, rfl, SqT.of hA', rfl, nV s'.bh, rfl, .inr ⟨_, rfl⟩, _, rfl, iteT ⟨_, rfl, q j H' ((KpA.led K' B').mono mp) B' ((R.led X B K').mono (by omega))⟩⟩
  · refine ⟨_, rfl, rfl, _, rfl, iteDT rfl ?_⟩
    refine ⟨_, rfl, _, rfl, SL, _, rfl, .inl (SqL.of hSL), r, c, (ls.length : Int), n, rfl, R, ⟨by omega, by omega⟩, ⟨by omega, by omega⟩, fun v H1 v0 v1 s1 R1 => ?_⟩
    obtain ⟨i, rfl⟩ : ∃ i : Nat, v = (i : Int) := ⟨_, (Int.toNat_of_nonneg v0).symm⟩
    have hil : i < tr.ss.length := by omega
    have B1 := take_both B X R s1 R1
    have es' : tr.ss[i]? = some tr.ss[i] := List.getElem?_eq_getElem hil
    generalize tr.ss[i] = s' at es'
    obtain ⟨dx1, hp1⟩ := B1.tree.at_
    refine ⟨_, rfl, p, dx1, _, rfl, hp1, rfl, _, rfl, p, L, Y, tr, i, s', rfl, B1.tree, es', fun H' K' T' => ?_⟩
    have B' := B1.led K' T' X.gp
    obtain ⟨ls', a', d', hSL', _, hat', ⟨hA', _⟩, _, _⟩ := B'.both.law.get (show (tr.led i).ss[i]? = some s' from es')
    exact ⟨_, rfl, _, rfl, SL, _, _, _, rfl, rfl, SqL.of hSL', hat', a', _, _, _, rfl, rfl, SqT.of hA', rfl, nV s'.bh, rfl, .inr ⟨_, rfl⟩, _, rfl, iteT ⟨_, rfl, q i H' (((R.kpA s1 R1).mono mr).trans ((KpA.led K' B').mono mp)) B' (R1.led X B1 K')⟩⟩
theorem sc__law_grown : FnScope ["_law_tree", "_law_states", "_law_at", "_law_room_here", "_law_state_here", "_law_handed"] ["_law_tree", "_law_states", "_law_at", "_law_room_here"] (defScope s__law_grown) := ⟨rfl, rfl, rfl, by decide +kernel, rfl, by decide +kernel, by decide +kernel⟩
theorem ok_grown55 (F : Fun K "_law_grown" "_law_grown" s__law_grown f fd) (O__law_state : Own P w K mg base CX0 3 "_law_state" ["_law_text", "_law_elder", "_law_room_here"] sp_state55) (O_Tree__grow : OwnM P w K mg base CX0 6 C "grow" ["self", "splices", "ahead", "behind"] (sp_tgrowS C)) (O__law_same : Own P w K mg base CX0 1 "_law_same" ["_law_found", "_law_due"] sp_sameT) (m_len : mg "len" = none) (m_list : mg "list" = none) : FnOk P w K mg base CX0 7 f fd ["_law_tree", "_law_states", "_law_at", "_law_room_here"] (sp_grown55 G C) := by
  refine F.ok sc__law_grown (fun vs H Q E h => ?_) (fun cdv A outer s H vs Q E hr h => ?_)
  · obtain ⟨p, L, Y, SL, r, c, hh, tr, n, rfl, _⟩ := h
    rfl
  obtain ⟨p, L, Y, SL, r, c, hh, tr, n, rfl, X, B, AL, R, hn, h60, q⟩ := h
  have hpl := B.tree.pr
  have es : tr.ss[tr.pr]? = some tr.ss[tr.pr] := List.getElem?_eq_getElem hpl
  generalize tr.ss[tr.pr] = s at es
  obtain ⟨ls, a, d, hSL, hlen, hat, ⟨hA, _⟩, _, _⟩ := B.both.law.get es
  have g := B.good _ s es
  have gl := g.len
  obtain ⟨_, _, rk, rc, hr1, _⟩ := R.al
  obtain ⟨dx0, hp0⟩ := B.tree.at_
  obtain ⟨kvs, hY, _⟩ := B.tree.yg
  obtain ⟨kas, hL, _⟩ := B.tree.kn
  refine ⟨_, (pss_cons (ps_set (i := 4) sc__law_grown.nd rfl (Or.inl rfl) (pe_own O__law_state hr (by rfl) pass0 (pa_cons (pe_ix ix_tup (pe_ix ix_list (pv 1) (pv 2) (fun _ _ => rfl)) pe_int (fun _ _ => rfl)) (pa_cons (pv 2) (pa_cons (pv 3) pa_nil)))))
      (pss_cons (ps_expr (pe_bm PySem.F.plainAttrs_list PySem.F.slot_list_append PySem.F.type_list_append mt_append (pv 1) (pa_cons (pv 4) pa_nil)))
      (pss_cons (ps_set (i := 5) sc__law_grown.nd rfl (Or.inl rfl) (pe_callTy call_list_of (by rfl) m_list boot_list (pa_cons (pe_ix ix_tup (pv 4) pe_int (fun _ _ => rfl)) pa_nil)))
      (pss_cons (ps_if (PW.pt (pw_or (pt_not (pt_val (pe_own O__law_same hr (by rfl) pass0 (pa_cons (pe_ownM O_Tree__grow hr (pv 0) pass0 (pa_cons (pv 5) (pa_cons (pe_ix ix_tup (pv 4) pe_int (fun _ _ => rfl)) (pa_cons (pe_ix ix_tup (pv 4) pe_int (fun _ _ => rfl)) pa_nil)))) (pa_cons (pe_op op_sub (pe_callB call_len_seq (by rfl) m_len PySem.boot_len (pa_cons (pv 1) pa_nil)) pe_int) pa_nil))))) (pw_or1 (pt_cmpR (op_neR hr.units0) (pv 5) (pe_ix ix_tup (pv 4) pe_int (fun _ _ => rfl)) (nomark _))))) (pss_one (ps_ret pe_non)) pss_nil)
      (pss_cons (ps_expr (pe_bm0 PySem.F.plainAttrs_list PySem.F.slot_list_clear PySem.F.type_list_clear mt_clear (pv 5)))
      (pss_one (ps_ret (pe_op op_sub (pe_callB call_len_seq (by rfl) m_len PySem.boot_len (pa_cons (pv 1) pa_nil)) pe_int)))))))), ?_⟩
  refine ⟨_, rfl, _, rfl, SL, _, _, _, rfl, rfl, SqL.of hSL, hat, a, _, _, _, rfl, rfl, SqT.of hA, rfl, _, rfl, _, rfl, s.tx, some tr.pr, r, c, n, rfl, R, hn, by omega, g.asc, fun t m sps ah bh D H1 K1 ht hD hw h3 h4 hm hmc hah hbh hDn R1 => ?_⟩
  rw [← trip_spl] at hD
  have hw' := walk_TS hw
  have h4' := spl_small h4
  have hxl : (sps.map tripOf).length ≤ 3 := by rw [List.length_map]; exact h3
  generalize sps.map tripOf = xs at hD hw' h4' hxl
  have nGD : D ∉ G := AL.new hDn
  have nSr : SL ≠ r := fun z => by rw [z, hr1] at hSL; cases hSL
  have npr : p ≠ r := fun z => by rw [z, hr1] at hp0; cases hp0
  have nLr : L ≠ r := fun z => by rw [z, hr1] at hL; cases hL
  have B1 := B.kp K1.1 (fun b hb => by rw [List.mem_singleton.mp hb]; exact X.gr) (nin1 npr) (nin1 nLr) (nin1 X.nY) (nin1 nSr)
  obtain ⟨ds, BL1, nds⟩ := B1.law
  obtain ⟨as, hDA, hR⟩ := tups_row hD
  have nDL : D ≠ L := fun z => nGD (z ▸ X.gL)
  have nDS : D ≠ SL := fun z => nGD (z ▸ X.gS)
  obtain ⟨ls', hS1, hls', BL2⟩ := LStD.snoc (s := ⟨m, some tr.pr, xs, ah, bh⟩) BL1 ⟨ht, hD⟩ nDL nDS
  have nSp : SL ≠ p := fun z => by rw [z, hp0] at hSL; cases hSL
  have nSY : SL ≠ Y := fun z => by rw [z, hY] at hSL; cases hSL
  have nSL : SL ≠ L := BL1.1
  refine ⟨_, rfl, .inl ⟨rfl, _, SqL.of hS1⟩, _, rfl, SL, _, _, rfl, rfl, hS1, by rw [hls']; exact Nat.lt_of_lt_of_le (show _ < 1000000 by omega) (small (Nat.le_refl _)), ?_⟩
  have K2 : KpA [SL] H1 (upd H1 SL (.lst (ls' ++ [.ref t]))) := KpA.upd (List.mem_singleton.mpr rfl) (fun t z => by rw [hS1] at z; cases z)
  have hS2 : upd H1 SL (.lst (ls' ++ [.ref t])) SL = some (.lst (ls' ++ [.ref t])) := upd_same
  generalize upd H1 SL (.lst (ls' ++ [.ref t])) = H2 at BL2 K2 hS2
  have T2 := K2.1.tree (nin1 (Ne.symm nSp)) (nin1 (Ne.symm nSL)) (nin1 (Ne.symm nSY)) B1.tree
  have ht2 := K2.1.2 _ _ ht
  have hD2 := K2.1.1 _ _ (nin1 nDS) hDA
  have hR2 : Row H2 as xs := ⟨hR.1, fun i t x e1 e2 => K2.1.2 _ _ (hR.2 i t x e1 e2)⟩
  have R2 := R1.keep K2.1 (nin1 (Ne.symm nSr)) (nin1 (fun z => X.nc (z ▸ X.gS)))
  refine ⟨_, rfl, t, _, _, _, rfl, rfl, SqT.of ht2, rfl, D, _, rfl, .inl (SqL.of hD2), fun l nl => ?_⟩
  have E3 := same_new nl (.lst (as.map V.ref))
  have hl3 : upd H2 l (.lst (as.map V.ref)) l = some (.lst (as.map V.ref)) := upd_same
  have nl0 : H l = none := K1.2 _ (K2.2 _ nl)
  have nGl : l ∉ G := AL.new nl0
  have nlD : l ≠ D := fun z => by rw [z, hD2] at nl; cases nl
  generalize upd H2 l (.lst (as.map V.ref)) = H3 at E3 hl3
  have T3 := T2.same E3
  have BL3 := BL2.kp (Kp.of (bad := []) E3) (fun z => by cases z) (fun _ _ z => by cases z)
  have hS3 := E3 _ _ hS2
  have R3 := R2.same E3
  obtain ⟨dx3, hp3⟩ := T3.at_
  refine ⟨_, rfl, p, dx3, _, rfl, hp3, rfl, _, rfl, _, rfl, t, _, _, _, rfl, rfl, SqT.of (E3 _ _ ht2), rfl, _, rfl, t, _, _, _, rfl, rfl, SqT.of (E3 _ _ ht2), rfl, p, L, Y, l, tr, s, xs, ah, bh, m, rfl, T3, es, by omega, (hR2.same E3).tups hl3, (fun x hx => by have := h4' x hx; omega), by omega, by omega, hw', fun H4 K4 T4 => ?_⟩
  have hS4 := K4.1 _ _ (nin3 nSp nSL nSY) hS3
  have nlp : l ≠ p := fun z => nGl (z ▸ X.gp)
  have nlL : l ≠ L := fun z => nGl (z ▸ X.gL)
  have nlY : l ≠ Y := fun z => nGl (z ▸ X.gY)
  have nlS : l ≠ SL := fun z => nGl (z ▸ X.gS)
  have hl4 := K4.1 _ _ (nin3 nlp nlL nlY) hl3
  have nDp : D ≠ p := fun z => nGD (z ▸ X.gp)
  have nDY : D ≠ Y := fun z => nGD (z ▸ X.gY)
  have hD4 := K4.1 _ _ (nin3 nDp nDL nDY) (E3 _ _ hD2)
  have ht4 := K4.2 _ _ (E3 _ _ ht2)
  have BL4 := BL3.kp K4 (BL3.bad T3.bad).1 (BL3.bad T3.bad).2
  have R4 := R3.keep K4 (nin3 (Ne.symm npr) (Ne.symm nLr) (Ne.symm X.nY)) (nin3 (fun z => X.nc (z ▸ X.gp)) (fun z => X.nc (z ▸ X.gL)) (fun z => X.nc (z ▸ X.gY)))
  have KA4 : KpA [p, L, Y] H3 H4 := KpA.kp K4 (fun b hb => by
    obtain ⟨dx4, g1⟩ := T4.at_
    obtain ⟨_, g2, _⟩ := T4.kn
    obtain ⟨_, g3, _⟩ := T4.yg
    rcases List.mem_cons.mp hb with rfl | hb
    · rw [g1]; exact fun z => by cases z
    rcases List.mem_cons.mp hb with rfl | hb
    · rw [g2]; exact fun z => by cases z
    rw [List.mem_singleton.mp hb, g3]
    exact fun z => by cases z)
  have ell : (ls' ++ [V.ref t]).length = tr.ss.length + 1 := by rw [List.length_append, hls']; rfl
  refine ⟨_, rfl, SL, _, rfl, .inl (SqL.of hS4), _, _, rfl, rfl, nV tr.ss.length, ?_, .inr ⟨_, rfl⟩, _, rfl, iteF ?_⟩
  · show [nV tr.ss.length, V.int (((ls' ++ [V.ref t]).length : Int) - 1)] = [nV tr.ss.length, V.int (tr.ss.length : Int)]
    rw [ell, show (((tr.ss.length + 1 : Nat) : Int) - 1) = (tr.ss.length : Int) by omega]
  refine ⟨_, rfl, _, rfl, t, _, _, _, rfl, rfl, SqT.of ht4, rfl, l, D, as, rfl, rfl, SqL.of hl4, SqL.of hD4, _, rfl, iteF ?_⟩
  refine ⟨_, rfl, .inl ⟨rfl, _, SqL.of hl4⟩, l, _, rfl, rfl, hl4, ?_⟩
  have K5 : Kp [l] H4 (upd H4 l (.lst [])) := Kp.upd (List.mem_singleton.mpr rfl) (fun t z => by rw [hl4] at z; cases z)
  have T5 := K5.tree (nin1 (Ne.symm nlp)) (nin1 (Ne.symm nlL)) (nin1 (Ne.symm nlY)) T4
  have BL5 := BL4.kp K5 (nin1 (Ne.symm nlS)) (fun d hd => nin1 (fun z => by
    rcases List.mem_append.mp hd with h | h
    · obtain ⟨ys, h'⟩ := BL1.isl d h
      have := K2.2 _ nl
      rw [z, this] at h'
      cases h'
    · exact nlD (z.symm.trans (List.mem_singleton.mp h))))
  have R5 := R4.keep K5 (nin1 (fun z => nGl (z ▸ X.gr))) (nin1 (fun z => by
    obtain ⟨_, h2, _⟩ := R2.al
    exact h2 (z ▸ nl)))
  have hS5 := K5.1 _ _ (nin1 (Ne.symm nlS)) hS4
  have KK : KpA [p, L, Y, SL, r] H H4 := ((K1.mono (fun x hx => by rw [List.mem_singleton.mp hx]; simp)).trans (K2.mono (fun x hx => by rw [List.mem_singleton.mp hx]; simp))).trans ((KpA.of E3).trans (KA4.mono (fun x hx => by
    rcases List.mem_cons.mp hx with rfl | hx
    · simp
    rcases List.mem_cons.mp hx with rfl | hx
    · simp
    rw [List.mem_singleton.mp hx]
    simp)))
  have KK5 := KK.updN (o := .lst []) nl0
  generalize upd H4 l (.lst []) = H5 at T5 BL5 R5 hS5 KK5
  refine ⟨_, rfl, SL, _, rfl, .inl (SqL.of hS5), _, _, rfl, rfl, ?_⟩
  have e1 : V.int (((ls' ++ [V.ref t]).length : Int) - 1) = nV tr.ss.length := by
    rw [ell]
    show V.int (((tr.ss.length + 1 : Nat) : Int) - 1) = V.int (tr.ss.length : Int)
    rw [show (((tr.ss.length + 1 : Nat) : Int) - 1) = (tr.ss.length : Int) by omega]
  show Q (V.int (((ls' ++ [V.ref t]).length : Int) - 1)) H5
  rw [e1]
  refine q m xs ah bh H5 KK5 ⟨T5, ⟨ds ++ [D], BL5, fun d hd => ?_⟩, B.good.snoc es hw' hxl h4' hm hmc hah hbh, B.yg.grown⟩ R5
  rcases List.mem_append.mp hd with h | h
  · exact nds d h
  · rw [List.mem_singleton.mp h]; exact nGD
end

end My

set_option Elab.async false
set_option linter.all false
set_option maxRecDepth 100000
set_option maxHeartbeats 4000000
namespace My
open PySem L2






theorem walk_app : ∀ (l m r : List Nat) (xs ys : List Trip), walkT l xs = some m → walkT m ys = some r → walkT l (xs ++ ys) = some r
  | l, m, r, [], ys, h1, h2 => by cases h1; exact h2
  | l, m, r, x :: xs, ys, h1, h2 => by
    have h1' : (if fitB l x.1 x.2.1 = true then walkT (putL l x.1 x.2.1 x.2.2) xs else none) = some m := h1
    show (if fitB l x.1 x.2.1 = true then walkT (putL l x.1 x.2.1 x.2.2) (xs ++ ys) else none) = some r
    split at h1'
    · rename_i c
      rw [if_pos c]
      exact walk_app _ m r xs ys h1' h2
    · cases h1'
theorem walk_back : ∀ (l m : List Nat) (xs : List Trip), walkT l xs = some m → walkT m (xs.reverse.map turnT) = some l
  | l, m, [], h => by cases h; rfl
  | l, m, x :: xs, h => by
    have h' : (if fitB l x.1 x.2.1 = true then walkT (putL l x.1 x.2.1 x.2.2) xs else none) = some m := h
    split at h'
    · rename_i c
      obtain ⟨b1, b2⟩ := put_back (u := x.2.2) c
      rw [List.reverse_cons, List.map_append]
      refine walk_app m _ l _ _ (walk_back _ m xs h') ?_
      show (if fitB (putL l x.1 x.2.1 x.2.2) x.1 x.2.2 = true then walkT (putL (putL l x.1 x.2.1 x.2.2) x.1 x.2.2 x.2.1) [] else none) = some l
      rw [if_pos b1, b2]
      rfl
    · cases h'
theorem way_walk {ss : List Sta} (g : Good ss) : ∀ (n i j : Nat) (ci cj : List Nat) (si sj : Sta), i + j ≤ n → IsRc ss i ci → IsRc ss j cj → ss[i]? = some si → ss[j]? = some sj → walkT si.tx (wayOf ss ci cj) = some sj.tx ∧ (wayOf ss ci cj).length ≤ 3 * (i + j) := by
  intro n
  induction n with
  | zero =>
    intro i j ci cj si sj hn hi hj ei ej
    have e1 : i = j := by omega
    subst e1
    rw [ei] at ej
    cases ej
    rw [hi.uniq _ hj, way_self]
    exact ⟨rfl, Nat.zero_le _⟩
  | succ n ih =>
    intro i j ci cj si sj hn hi hj ei ej
    rcases Nat.lt_trichotomy j i with c | c | c
    · have nij : i ∉ cj := fun z => by have := hj.le i z; omega
      cases hi with
      | root _ e => rw [elS_of ei] at e; have := ((g i si ei).fst e).2; omega
      | @step _ e l _ he hei hl =>
        rw [elS_of ei] at he
        obtain ⟨_, s', es', hw⟩ := (g i si ei).old e he
        obtain ⟨h1, h2⟩ := ih e j l cj s' sj (by omega) hl hj es' ej
        rw [way_up nij]
        have hb : backS ss i = si.sp.reverse.map turnT := by unfold backS; rw [spS_of ei]
        refine ⟨walk_app _ s'.tx _ _ _ (by rw [hb]; exact walk_back _ _ _ hw) h1, ?_⟩
        rw [List.length_append, hb, List.length_map, List.length_reverse]
        have := (g i si ei).few
        omega
    · subst c
      rw [ei] at ej
      cases ej
      rw [hi.uniq _ hj, way_self]
      exact ⟨rfl, Nat.zero_le _⟩
    · have nji : j ∉ ci := fun z => by have := hi.le j z; omega
      cases hj with
      | root _ e => rw [elS_of ej] at e; have := ((g j sj ej).fst e).2; omega
      | @step _ e l _ he hei hl =>
        rw [elS_of ej] at he
        obtain ⟨_, s', es', hw⟩ := (g j sj ej).old e he
        obtain ⟨h1, h2⟩ := ih i e ci l si s' (by omega) hi hl ei es'
        rw [way_down nji]
        refine ⟨walk_app _ s'.tx _ _ _ h1 (by rw [spS_of ej]; exact hw), ?_⟩
        rw [List.length_append, spS_of ej]
        have := (g j sj ej).few
        omega
theorem sp_small {ss : List Sta} (g : Good ss) (i : Nat) : ∀ x ∈ spS ss i, x.2.1.length ≤ 4 ∧ x.2.2.length ≤ 4 := fun x hx => by
  unfold spS at hx
  cases e : ss[i]? with
  | none => rw [e] at hx; cases hx
  | some s => rw [e] at hx; exact (g i s e).sml x hx
theorem way_small {ss : List Sta} (g : Good ss) (ci cj : List Nat) : ∀ x ∈ wayOf ss ci cj, x.2.1.length ≤ 4 ∧ x.2.2.length ≤ 4 := fun x hx => by
  unfold wayOf at hx
  rcases List.mem_append.mp hx with h | h
  · obtain ⟨i, _, hi⟩ := List.mem_flatMap.mp h
    unfold backS at hi
    obtain ⟨y, hy, rfl⟩ := List.mem_map.mp hi
    have := sp_small g i y (List.mem_reverse.mp hy)
    exact ⟨this.2, this.1⟩
  · obtain ⟨i, _, hi⟩ := List.mem_flatMap.mp h
    exact sp_small g i x hi

def sp_twayS (C : Addr) : Sp := fun vs H Q _ => ∃ (p L Y : Addr) (tr : Tr) (i j : Nat) (ci cj : List Nat), vs = [.ref p, nV i, nV j] ∧ TreeAt C p L Y tr H ∧ Fam tr.ss ∧ IsRc tr.ss i ci ∧ IsRc tr.ss j cj ∧ ∀ D H', Same H H' → H D = none → TupsV H' D ((wayOf tr.ss ci cj).map trip) → Q (.ref D) H'
theorem way_sure {C N : Addr} : ∀ vs H Q E, sp_twayS C vs H Q E → sp_tway C N vs H Q (fun _ _ _ => False) := fun vs H Q E ⟨p, L, Y, tr, i, j, ci, cj, e, T, F, hi, hj, q⟩ => ⟨p, L, Y, tr, (i : Int), (j : Int), e, T, F, (fun i' j' ci' cj' D H' ei ej hi' hj' s n t => by
  have : i = i' := Int.ofNat_inj.mp ei
  subst this
  have : j = j' := Int.ofNat_inj.mp ej
  subst this
  rw [hi'.uniq _ hi, hj'.uniq _ hj] at t
  exact q D H' s n t), (fun hz => by have := hi.lt; omega), fun _ _ hz => by have := hj.lt; omega⟩

theorem held_r {G : List Addr} {H : Hp} {r c h : Addr} {n : Int} {m : Nat} (V0 : HeldV G H h m) (R : Rm H r c n) : r ≠ h := fun z => by
  obtain ⟨_, _, kvs, cs, h1, _⟩ := R.al
  obtain ⟨vs, h2, _⟩ := V0.len
  rw [z, h2] at h1
  cases h1
theorem held_rm {G : List Addr} {H H' : Hp} {p L Y SL r c h : Addr} {n : Int} {m : Nat} (V0 : HeldV G H h m) (X : Cst G p L Y SL r c h) (R : Rm H r c n) (k : Kp [h] H H') : Rm H' r c n := R.keep k (nin1 (held_r V0 R)) (nin1 (fun z => X.nc (z ▸ X.gh)))
theorem held_both {G : List Addr} {C p L Y SL r c h : Addr} {tr : Tr} {m : Nat} {H H' : Hp} (B : BothG G C p L Y SL tr H) (X : Cst G p L Y SL r c h) (V0 : HeldV G H h m) (k : Kp [h] H H') : BothG G C p L Y SL tr H' := by
  obtain ⟨vs, h1, _⟩ := V0.len
  obtain ⟨dx, hp⟩ := B.tree.at_
  obtain ⟨kvs, hY, _⟩ := B.tree.yg
  refine B.kp k (fun b hb => by rw [List.mem_singleton.mp hb]; exact X.gh) (nin1 (fun z => ?_)) (nin1 (Ne.symm X.nhL)) (nin1 (fun z => ?_)) (nin1 (Ne.symm X.nhS))
  · rw [z, h1] at hp; cases hp
  · rw [z, h1] at hY; cases hY
theorem take_held {G : List Addr} {p L Y SL r c h : Addr} {n k : Int} {m : Nat} {H H' : Hp} (V0 : HeldV G H h m) (X : Cst G p L Y SL r c h) (R : Rm H r c n) (s : SameX r H H') (R' : Rm H' r c k) : HeldV G H' h m := V0.kp (R.kpA s R').1 (fun b hb => by rw [List.mem_singleton.mp hb]; exact X.gr) (nin1 (Ne.symm (held_r V0 R)))
def sp_way55 (G : List Addr) (C : Addr) : Sp := fun vs H Q _ => ∃ (p L Y SL r c h : Addr) (tr : Tr) (i j m : Nat), vs = [.ref p, .ref SL, nV i, nV j, .ref h] ∧ Cst G p L Y SL r c h ∧ BothG G C p L Y SL tr H ∧ Alive G H ∧ HeldV G H h m ∧ m ≤ 5000 ∧ i < tr.ss.length ∧ j < tr.ss.length ∧ tr.ss.length ≤ 100 ∧ ∀ H', KpA [h] H H' → HeldV G H' h (m + 1) → Q (.bl true) H'
def sp_look55 (G : List Addr) (C : Addr) : Sp := fun vs H Q _ => ∃ (p L Y SL r c h : Addr) (tr : Tr) (m : Nat) (n : Int), vs = [.ref p, .ref SL, nV tr.pr, .ref r, .ref h] ∧ Cst G p L Y SL r c h ∧ BothG G C p L Y SL tr H ∧ Alive G H ∧ Rm H r c n ∧ (0 ≤ n ∧ n < 900000) ∧ HeldV G H h m ∧ m ≤ 4000 ∧ tr.ss.length ≤ 100 ∧ ∀ H', KpA [r, h] H H' → HeldV G H' h (m + 2) → Rm H' r c (n + 2) → Q (.bl true) H'
section
variable {P : Program} {w : World} {K : PySem.W.Frag} {mg : Str → Option Value} {base : Heap} {f C : Addr} {fd : FuncData} {G : List Addr}
theorem sc__law_way : FnScope ["_law_tree", "_law_states", "_law_one", "_law_other", "_law_held", "_law_found", "_law_text", "_law_at", "_law_out", "_law_put"] ["_law_tree", "_law_states", "_law_one", "_law_other", "_law_held"] (defScope s__law_way) := ⟨rfl, rfl, rfl, by decide +kernel, rfl, by decide +kernel, by decide +kernel⟩
theorem ok_way55 (F : Fun K "_law_way" "_law_way" s__law_way f fd) (O_Tree__way : OwnM P w K mg base CX0 5 C "way" ["self", "one", "other"] (sp_twayS C)) (O__law_row : Own P w K mg base CX0 1 "_law_row" ["_law_found", "_law_due"] sp_lrowT) (m_len : mg "len" = none) (m_list : mg "list" = none) (m_isinstance : mg "isinstance" = none) : FnOk P w K mg base CX0 6 f fd ["_law_tree", "_law_states", "_law_one", "_law_other", "_law_held"] (sp_way55 G C) := by
  refine F.ok sc__law_way (fun vs H Q E h => ?_) (fun cdv A outer s H vs Q E hr h => ?_)
  · obtain ⟨p, L, Y, SL, r, c, hh, tr, i, j, m, rfl, _⟩ := h
    rfl
  obtain ⟨p, L, Y, SL, r, c, hh, tr, i, j, m, rfl, X, B, AL, V0, hm, hi, hj, h100, q⟩ := h
  obtain ⟨dx, hp⟩ := B.tree.at_
  have FM := B.good.fam
  obtain ⟨ci, hci⟩ := IsRc.ex FM i i (Nat.le_refl _) hi
  obtain ⟨cj, hcj⟩ := IsRc.ex FM j j (Nat.le_refl _) hj
  have ei : tr.ss[i]? = some tr.ss[i] := List.getElem?_eq_getElem hi
  have ej : tr.ss[j]? = some tr.ss[j] := List.getElem?_eq_getElem hj
  generalize tr.ss[i] = si at ei
  generalize tr.ss[j] = sj at ej
  obtain ⟨hw1, hw2⟩ := way_walk B.good (i + j) i j ci cj si sj (Nat.le_refl _) hci hcj ei ej
  have hw3 := way_small B.good ci cj
  have hwl : (wayOf tr.ss ci cj).length ≤ 1000 := by omega
  refine ⟨_, (pss_cons (ps_set (i := 5) sc__law_way.nd rfl (Or.inl rfl) (pe_ownM O_Tree__way hr (pv 0) pass0 (pa_cons (pv 2) (pa_cons (pv 3) pa_nil))))
      (pss_cons (ps_if (PW.pt (pw_or (pt_not (pt_val (pe_callB call_isi (by rfl) m_isinstance boot_isi (pa_cons (pv 5) (pa_cons (pe_bltn (v := .ty "list") (by rfl) m_list boot_list rfl) pa_nil))))) (pw_or1 (pt_not (pt_val (pe_own O__law_row hr (by rfl) pass0 (pa_cons (pv 5) (pa_cons (pe_callTy call_list_of (by rfl) m_list boot_list (pa_cons (pv 5) pa_nil)) pa_nil)))))))) (pss_one (ps_ret pe_bl)) pss_nil)
      (pss_cons (ps_expr (pe_bm PySem.F.plainAttrs_list PySem.F.slot_list_append PySem.F.type_list_append mt_append (pv 4) (pa_cons (pe_tup (pa_cons (pv 5) (pa_cons (pe_callTy call_list_of (by rfl) m_list boot_list (pa_cons (pv 5) pa_nil)) pa_nil))) pa_nil)))
      (pss_cons (ps_set (i := 6) sc__law_way.nd rfl (Or.inl rfl) (pe_ix ix_tup (pe_ix ix_list (pv 1) (pv 2) (fun _ _ => rfl)) pe_int (fun _ _ => rfl)))
      (pss_cons (ps_for PassesOwn.never rfl (pi_list (pv 5)) (pg_tup rfl (pgs_cons (pg_name (i := 7) sc__law_way.nd rfl (Or.inl rfl)) (pgs_cons (pg_name (i := 8) sc__law_way.nd rfl (Or.inl rfl)) (pgs_cons (pg_name (i := 9) sc__law_way.nd rfl (Or.inl rfl)) pgs_nil)))) (pss_cons (ps_if (PW.pt (pw_or (pt_cmpR op_lt (pv 7) pe_int (nomark _)) (pw_or (pt_cmpR op_gt (pv 7) (pe_callB call_lenS (by rfl) m_len PySem.boot_len (pa_cons (pv 6) pa_nil)) (nomark _)) (pw_or1 (pt_cmpR op_ne (pe_slice sl_str (pv 6) (po_some (pv 7)) (po_some (pe_op op_add (pv 7) (pe_callB call_lenS (by rfl) m_len PySem.boot_len (pa_cons (pv 8) pa_nil))))) (pv 8) (nomark _)))))) (pss_one (ps_ret pe_bl)) pss_nil)
      (pss_one (ps_set (i := 6) sc__law_way.nd rfl (Or.inl rfl) (pe_op op_adS (pe_op op_adS (pe_slice sl_str (pv 6) po_none (po_some (pv 7))) (pv 9)) (pe_slice sl_str (pv 6) (po_some (pe_op op_add (pv 7) (pe_callB call_lenS (by rfl) m_len PySem.boot_len (pa_cons (pv 8) pa_nil)))) po_none))))))
      (pss_one (ps_ret (pe_cmpR op_eq (pv 6) (pe_ix ix_tup (pe_ix ix_list (pv 1) (pv 3) (fun _ _ => rfl)) pe_int (fun _ _ => rfl)) (nomark _))))))))), ?_⟩
  refine ⟨_, rfl, p, dx, _, rfl, hp, rfl, _, rfl, _, rfl, p, L, Y, tr, i, j, ci, cj, rfl, B.tree, FM, hci, hcj, fun D H1 S1 nD hD => ?_⟩
  have g1 := (B.good i si ei).len
  generalize wayOf tr.ss ci cj = xs at hw1 hw3 hwl hD
  obtain ⟨ts, hDl, hR⟩ := tups_row hD
  have htl : ts.length ≤ 1000 := by rw [hR.1]; exact hwl
  refine ⟨_, rfl, _, _, _, _, rfl, ⟨_, .inl rfl⟩, .lst hDl, kit_ll, _, rfl, iteF ?_⟩
  refine ⟨_, rfl, _, rfl, D, _, rfl, .inl (SqL.of hDl), fun l2 nl2 => ?_⟩
  have E2 := same_new nl2 (.lst (ts.map V.ref))
  refine ⟨D, l2, xs, rfl, hD.same E2, (hR.same E2).tups upd_same, _, rfl, iteF ?_⟩
  have S2 := S1.trans E2
  have hD2 := E2 _ _ hDl
  have hR2 := hR.same E2
  generalize upd H1 l2 (.lst (ts.map V.ref)) = H2 at S2 hD2 hR2
  have V2 := V0.same S2
  obtain ⟨vs, hh2, hvl⟩ := V2.len
  refine ⟨_, rfl, .inl ⟨rfl, _, SqL.of hh2⟩, _, rfl, _, rfl, D, _, rfl, .inl (SqL.of hD2), fun l3 nl3 => ?_⟩
  have E3 := same_new nl3 (.lst (ts.map V.ref))
  refine ⟨(by show 2 ≤ sizeLine; decide), fun t nt => ?_⟩
  have E4 := same_new nt (.tup [.ref D, .ref l3])
  have E34 := E3.trans E4
  have nG1 : D ∉ G := AL.new nD
  have nG2 : l3 ∉ G := AL.new (S2.free nl3)
  refine ⟨hh, _, _, rfl, rfl, E34 _ _ hh2, Nat.lt_of_le_of_lt hvl (Nat.lt_of_lt_of_le (show _ < 1000000 by omega) (small (Nat.le_refl _))), ?_⟩
  have S4 := S2.trans E34
  have V4 := HeldV.snoc (xs := xs) (V2.same E34) (E34 _ _ hh2) X.gh (upd_same (H := upd H2 l3 (.lst (ts.map V.ref))) (a := t) (o := .tup [.ref D, .ref l3])) ((hR2.same E34).tups (E34 _ _ hD2)) (((hR2.same E3).tups upd_same).same E4) nG1 nG2
  have K5 : KpA [hh] H (upd (upd (upd H2 l3 (.lst (ts.map V.ref))) t (.tup [.ref D, .ref l3])) hh (.lst (vs ++ [.ref t]))) := (KpA.of S4).trans (KpA.upd (List.mem_singleton.mpr rfl) (fun t z => by rw [E34 _ _ hh2] at z; cases z))
  have nDh : D ≠ hh := fun z => nG1 (z ▸ X.gh)
  have hD5 : upd (upd (upd H2 l3 (.lst (ts.map V.ref))) t (.tup [.ref D, .ref l3])) hh (.lst (vs ++ [.ref t])) D = some (.lst (ts.map V.ref)) := by rw [upd_ne nDh]; exact E34 _ _ hD2
  have hR5 : Row (upd (upd (upd H2 l3 (.lst (ts.map V.ref))) t (.tup [.ref D, .ref l3])) hh (.lst (vs ++ [.ref t]))) ts xs := (hR2.same E34).updL _ (E34 _ _ hh2)
  generalize upd (upd (upd H2 l3 (.lst (ts.map V.ref))) t (.tup [.ref D, .ref l3])) hh (.lst (vs ++ [.ref t])) = H5 at V4 K5 hD5 hR5
  have B5 := held_both B X V0 K5.1
  obtain ⟨ls, a1, d1, hSL, hlen, hat1, ⟨hA1, _⟩, _, _⟩ := B5.both.law.get ei
  obtain ⟨ls', a2, d2, hSL', _, hat2, ⟨hA2, _⟩, _, _⟩ := B5.both.law.get ej
  refine ⟨_, rfl, _, rfl, SL, _, _, _, rfl, rfl, SqL.of hSL, hat1, a1, _, _, _, rfl, rfl, SqT.of hA1, rfl, ?_⟩
  refine ⟨_, rfl, D, rfl, ⟨_, SqL.of hD5⟩, ?_⟩
  refine for_list (xs := ts.map V.ref) (fun k σ H' => H5 = H' ∧ ∃ (mm : List Nat) (x1 x2 x3 : Option V), mm.length ≤ 1000 + 4 * k ∧ walkT mm (xs.drop k) = some sj.tx ∧ σ = [some (.ref p), some (.ref SL), some (nV i), some (nV j), some (.ref hh), some (.ref D), some (.str (S mm)), x1, x2, x3]) ⟨rfl, si.tx, none, none, none, by omega, hw1, rfl⟩ (fun k σ H' _ h => h.1 ▸ SqL.of hD5) ?_ ?_
  · rintro k v σ H' hv ⟨rfl, mm, x1, x2, x3, hmm, hwk, rfl⟩
    obtain ⟨t, ht, rfl⟩ := row_at hv
    obtain ⟨x, ex, hT⟩ := hR5.get ht
    obtain ⟨hik, e'⟩ := List.getElem?_eq_some_iff.mp ex
    have hx4 := hw3 x (List.mem_of_getElem? ex)
    rw [List.drop_eq_getElem_cons hik, e'] at hwk
    have hwk' : (if fitB mm x.1 x.2.1 = true then walkT (putL mm x.1 x.2.1 x.2.2) (xs.drop (k + 1)) else none) = some sj.tx := hwk
    have hf : fitB mm x.1 x.2.1 = true := by
      cases e : fitB mm x.1 x.2.1 with
      | true => rfl
      | false => rw [e] at hwk'; cases hwk'
    rw [if_pos hf] at hwk'
    obtain ⟨h0, h1, _⟩ := fit_iff.mp hf
    have hcut : cutL mm (some x.1) (some (x.1 + x.2.1.length)) = x.2.1 := by
      unfold fitB at hf
      rw [Bool.and_eq_true] at hf
      exact of_decide_eq_true hf.2
    refine ⟨t, _, rfl, SqT.of hT, rfl, _, _, rfl, _, _, rfl, _, _, rfl, rfl, ?_⟩
    refine ⟨_, rfl, _, _, rfl, rfl, _, rfl, iteDF (by omega) ?_⟩
    refine ⟨_, rfl, _, rfl, mm, rfl, small (by omega), _, _, rfl, rfl, _, rfl, iteDF (by omega) ?_⟩
    refine ⟨_, rfl, _, rfl, _, rfl, _, rfl, _, rfl, x.2.1, rfl, small (by omega), _, _, rfl, rfl, _, rfl, mm, rfl, small (by omega), _, rfl, rfl, _, rfl, iteNS ?_ ?_⟩
    · show V.str (S (cutL mm (some x.1) (some (x.1 + (x.2.1.length : Int))))) = V.str (S x.2.1)
      rw [hcut]
    have z1 := cutL_le mm none (some x.1)
    have z2 := cutL_le mm (some (x.1 + x.2.1.length)) none
    have e3 : cutL mm none (some x.1) ++ x.2.2 ++ cutL mm (some (x.1 + x.2.1.length)) none = putL mm x.1 x.2.1 x.2.2 := by
      rw [cutL_j mm h0, cutL_i mm (by omega), show (x.1 + (x.2.1.length : Int)).toNat = x.1.toNat + x.2.1.length by omega]
      rfl
    have z3 := put_le (l := mm) (o := x.2.1) (u := x.2.2) (p := x.1)
    refine ⟨_, rfl, _, rfl, _, rfl, mm, rfl, small (by omega), _, rfl, _, _, rfl, rfl, small (by omega), _, rfl, _, rfl, _, rfl, x.2.1, rfl, small (by omega), _, _, rfl, rfl, _, rfl, mm, rfl, small (by omega), _, _, rfl, rfl, small (by rw [List.length_append]; omega), ?_⟩
    refine ⟨rfl, putL mm x.1 x.2.1 x.2.2, some (.int x.1), some (.str (S x.2.1)), some (.str (S x.2.2)), by omega, hwk', ?_⟩
    rw [← e3]
    rfl
  · rintro σ H' ⟨rfl, mm, x1, x2, x3, hmm, hwk, rfl⟩
    have e : (ts.map V.ref).length = xs.length := by rw [List.length_map, hR.1]
    rw [e, List.drop_length] at hwk
    cases hwk
    refine ⟨_, rfl, _, rfl, _, rfl, SL, _, _, _, rfl, rfl, SqL.of hSL', hat2, a2, _, _, _, rfl, rfl, SqT.of hA2, rfl, rfl, ?_⟩
    rw [decide_eq_true rfl]
    exact q H5 K5 V4
theorem sc__law_looked : FnScope ["_law_tree", "_law_states", "_law_at", "_law_room_here", "_law_held", "_law_other", "_law_found"] ["_law_tree", "_law_states", "_law_at", "_law_room_here", "_law_held"] (defScope s__law_looked) := ⟨rfl, rfl, rfl, by decide +kernel, rfl, by decide +kernel, by decide +kernel⟩
theorem ok_look55 (F : Fun K "_law_looked" "_law_looked" s__law_looked f fd) (O__law_take : Own P w K mg base CX0 1 "_law_take" ["_law_room_here", "_law_many"] sp_take) (O_Tree__here : OwnM P w K mg base CX0 1 C "here" ["self"] (sp_there C)) (O_Tree__many : OwnM P w K mg base CX0 1 C "many" ["self"] (sp_tmany C)) (O_Tree__splices_of : OwnM P w K mg base CX0 4 C "splices_of" ["self", "number"] (sp_tgetS C gSpl)) (O__law_way : Own P w K mg base CX0 6 "_law_way" ["_law_tree", "_law_states", "_law_one", "_law_other", "_law_held"] (sp_way55 G C)) (O__law_shows : Own P w K mg base CX0 5 "_law_shows" ["_law_tree", "_law_states", "_law_number"] (sp_tshow C)) (O__law_same : Own P w K mg base CX0 1 "_law_same" ["_law_found", "_law_due"] sp_sameT) (m_len : mg "len" = none) (m_list : mg "list" = none) : FnOk P w K mg base CX0 7 f fd ["_law_tree", "_law_states", "_law_at", "_law_room_here", "_law_held"] (sp_look55 G C) := by
  refine F.ok sc__law_looked (fun vs H Q E h => ?_) (fun cdv A outer s H vs Q E hr h => ?_)
  · obtain ⟨p, L, Y, SL, r, c, hh, tr, m, n, rfl, _⟩ := h
    rfl
  obtain ⟨p, L, Y, SL, r, c, hh, tr, m, n, rfl, X, B, AL, R, hn, V0, hm, h100, q⟩ := h
  have hpl := B.tree.pr
  have mr : ∀ x, x ∈ [r] → x ∈ [r, hh] := fun x hx => by rw [List.mem_singleton.mp hx]; exact List.mem_cons_self ..
  have mh : ∀ x, x ∈ [hh] → x ∈ [r, hh] := fun x hx => by rw [List.mem_singleton.mp hx]; exact List.mem_cons_of_mem _ (List.mem_cons_self ..)
  obtain ⟨ls, _, _, hSL, hlen, _⟩ := B.both.law.get (List.getElem?_eq_getElem hpl)
  refine ⟨_, (pss_cons (ps_set (i := 5) sc__law_looked.nd rfl (Or.inl rfl) (pe_own O__law_take hr (by rfl) pass0 (pa_cons (pv 3) (pa_cons (pe_callB call_len_seq (by rfl) m_len PySem.boot_len (pa_cons (pv 1) pa_nil)) pa_nil))))
      (pss_cons (ps_if (PW.pt (pw_or (pt_not (pt_val (pe_own O__law_same hr (by rfl) pass0 (pa_cons (pe_ownM0 O_Tree__here hr (pv 0) pass0) (pa_cons (pv 2) pa_nil))))) (pw_or1 (pt_not (pt_val (pe_own O__law_same hr (by rfl) pass0 (pa_cons (pe_ownM0 O_Tree__many hr (pv 0) pass0) (pa_cons (pe_callB call_len_seq (by rfl) m_len PySem.boot_len (pa_cons (pv 1) pa_nil)) pa_nil)))))))) (pss_one (ps_ret pe_bl)) pss_nil)
      (pss_cons (ps_if (pt_cmpR op_eq (pe_own O__law_take hr (by rfl) pass0 (pa_cons (pv 3) (pa_cons pe_int pa_nil))) pe_int (nomark _)) (pss_one (ps_if (PW.pt (pw_or (pt_not (pt_val (pe_own O__law_way hr (by rfl) pass0 (pa_cons (pv 0) (pa_cons (pv 1) (pa_cons (pv 2) (pa_cons (pv 5) (pa_cons (pv 4) pa_nil)))))))) (pw_or1 (pt_not (pt_val (pe_own O__law_shows hr (by rfl) pass0 (pa_cons (pv 0) (pa_cons (pv 1) (pa_cons (pv 2) pa_nil))))))))) (pss_one (ps_ret pe_bl)) pss_nil)) (pss_one (ps_if (PW.pt (pw_or (pt_not (pt_val (pe_own O__law_shows hr (by rfl) pass0 (pa_cons (pv 0) (pa_cons (pv 1) (pa_cons (pv 5) pa_nil)))))) (pw_or1 (pt_not (pt_val (pe_own O__law_way hr (by rfl) pass0 (pa_cons (pv 0) (pa_cons (pv 1) (pa_cons (pv 5) (pa_cons (pv 2) (pa_cons (pv 4) pa_nil))))))))))) (pss_one (ps_ret pe_bl)) pss_nil)))
      (pss_cons (ps_set (i := 6) sc__law_looked.nd rfl (Or.inl rfl) (pe_ownM O_Tree__splices_of hr (pv 0) pass0 (pa_cons (pv 5) pa_nil)))
      (pss_cons (ps_expr (pe_bm PySem.F.plainAttrs_list PySem.F.slot_list_append PySem.F.type_list_append mt_append (pv 4) (pa_cons (pe_tup (pa_cons (pv 6) (pa_cons (pe_callTy call_list_of (by rfl) m_list boot_list (pa_cons (pe_ix ix_tup (pe_ix ix_list (pv 1) (pv 5) (fun _ _ => rfl)) pe_int (fun _ _ => rfl)) pa_nil)) pa_nil))) pa_nil)))
      (pss_one (ps_ret (pe_own O__law_same hr (by rfl) pass0 (pa_cons (pe_ownM0 O_Tree__here hr (pv 0) pass0) (pa_cons (pv 2) pa_nil)))))))))), ?_⟩
  refine ⟨_, rfl, _, rfl, SL, _, rfl, .inl (SqL.of hSL), r, c, (ls.length : Int), n, rfl, R, ⟨by omega, by omega⟩, ⟨by omega, by omega⟩, fun v H1 v0 v1 s1 R1 => ?_⟩
  obtain ⟨o, rfl⟩ : ∃ i : Nat, v = (i : Int) := ⟨_, (Int.toNat_of_nonneg v0).symm⟩
  have hol : o < tr.ss.length := by omega
  have K1 := R.kpA s1 R1
  have B1 := take_both B X R s1 R1
  have V1 := take_held V0 X R s1 R1
  have AL1 := AL.kp K1
  obtain ⟨dx1, hp1⟩ := B1.tree.at_
  obtain ⟨ls1, _, _, hSL1, hlen1, _⟩ := B1.both.law.get (List.getElem?_eq_getElem hpl)
  refine ⟨_, rfl, p, dx1, _, rfl, hp1, rfl, p, L, Y, tr, rfl, B1.tree, _, rfl, nV tr.pr, rfl, .inr ⟨_, rfl⟩, _, rfl, iteF ?_⟩
  refine ⟨_, rfl, p, dx1, _, rfl, hp1, rfl, p, L, Y, tr, rfl, B1.tree, _, rfl, SL, _, rfl, .inl (SqL.of hSL1), nV tr.ss.length, ?_, .inr ⟨_, rfl⟩, _, rfl, iteF ?_⟩
  · show [nV tr.ss.length, V.int ((ls1.length : Nat) : Int)] = [nV tr.ss.length, V.int (tr.ss.length : Int)]
    rw [hlen1]
  refine seq_at (seq_to (fun σ H' => KpA [r, hh] H H' ∧ Rm H' r c (n + 2) ∧ HeldV G H' hh (m + 1) ∧ BothG G C p L Y SL tr H' ∧ Alive G H' ∧ ∃ x : Option V, σ = [some (.ref p), some (.ref SL), some (nV tr.pr), some (.ref r), some (.ref hh), some (nV o), x]) (fun nx fin => ?_) ?_)
  · refine ⟨_, rfl, r, c, 2, n + 1, rfl, R1, ⟨by omega, by omega⟩, ⟨by decide, by decide⟩, fun v H2 v0 v1 s2 R2 => ?_⟩
    have K2 := R1.kpA s2 R2
    have B2 := take_both B1 X R1 s2 R2
    have V2 := take_held V1 X R1 s2 R2
    have AL2 := AL1.kp K2
    have R2' := R2.mono (show n + 1 + 1 ≤ n + 2 by omega)
    have KK := (K1.trans K2).mono mr
    refine ⟨rfl, _, rfl, ite2 (fun c => ?_) (fun c => ?_)⟩
    · refine ⟨_, rfl, _, rfl, _, rfl, _, rfl, _, rfl, p, L, Y, SL, r, _, hh, tr, tr.pr, o, m, rfl, X, B2, AL2, V2, by omega, hpl, hol, h100, fun H3 K3 V3 => ⟨_, rfl, iteF ?_⟩⟩
      have B3 := held_both B2 X V2 K3.1
      refine ⟨_, rfl, _, rfl, _, rfl, p, L, Y, SL, tr, tr.pr, _, rfl, B3.both, List.getElem?_eq_getElem hpl, h100, fun H4 S4 => ⟨_, rfl, iteF (fin _ _ ?_)⟩⟩
      exact ⟨(KK.trans (K3.mono mh)).trans (KpA.of S4), (held_rm V2 X R2' K3.1).same S4, V3.same S4, B3.same S4, (AL2.kp K3).kp (KpA.of (bad := []) S4), _, rfl⟩
    · refine ⟨_, rfl, _, rfl, _, rfl, p, L, Y, SL, tr, o, _, rfl, B2.both, List.getElem?_eq_getElem hol, h100, fun H3 S3 => ⟨_, rfl, iteF ?_⟩⟩
      have B3 := B2.same S3
      refine ⟨_, rfl, _, rfl, _, rfl, _, rfl, _, rfl, p, L, Y, SL, r, _, hh, tr, o, tr.pr, m, rfl, X, B3, AL2.kp (KpA.of (bad := []) S3), V2.same S3, by omega, hol, hpl, h100, fun H4 K4 V4 => ⟨_, rfl, iteF (fin _ _ ?_)⟩⟩
      exact ⟨(KK.trans (KpA.of S3)).trans (K4.mono mh), held_rm (V2.same S3) X (R2'.same S3) K4.1, V4, held_both B3 X (V2.same S3) K4.1, (AL2.kp (KpA.of (bad := []) S3)).kp K4, _, rfl⟩
  · rintro σ H3 ⟨KK, R3, V3, B3, AL3, x, rfl⟩
    obtain ⟨dx3, hp3⟩ := B3.tree.at_
    have eo : tr.ss[o]? = some tr.ss[o] := List.getElem?_eq_getElem hol
    generalize tr.ss[o] = so at eo
    refine ⟨_, rfl, p, dx3, _, rfl, hp3, rfl, _, rfl, p, L, Y, tr, o, so, rfl, B3.tree, eo, fun D H4 S4 nD hD => ?_⟩
    have V4 := V3.same S4
    have B4 := B3.same S4
    obtain ⟨vs, hh4, hvl⟩ := V4.len
    obtain ⟨ls4, a4, d4, hSL4, _, hat4, ⟨hA4, hd4⟩, _, _⟩ := B4.both.law.get eo
    obtain ⟨ts, hd4l, hd4R⟩ := tups_row hd4
    refine ⟨_, rfl, .inl ⟨rfl, _, SqL.of hh4⟩, _, rfl, _, rfl, _, rfl, SL, _, _, _, rfl, rfl, SqL.of hSL4, hat4, a4, _, _, _, rfl, rfl, SqT.of hA4, rfl, d4, _, rfl, .inl (SqL.of hd4l), fun l nl => ?_⟩
    have E5 := same_new nl (.lst (ts.map V.ref))
    refine ⟨(by show 2 ≤ sizeLine; decide), fun t nt => ?_⟩
    have E6 := same_new nt (.tup [.ref D, .ref l])
    have E56 := E5.trans E6
    refine ⟨hh, _, _, rfl, rfl, E56 _ _ hh4, Nat.lt_of_le_of_lt hvl (Nat.lt_of_lt_of_le (show _ < 1000000 by omega) (small (Nat.le_refl _))), ?_⟩
    have V6 := HeldV.snoc (xs := so.sp) (V4.same E56) (E56 _ _ hh4) X.gh (upd_same (H := upd H4 l (.lst (ts.map V.ref))) (a := t) (o := .tup [.ref D, .ref l])) (hD.same E56) (((hd4R.same E5).tups upd_same).same E6) (AL3.new nD) (AL3.new (S4.free nl))
    have K7 : KpA [hh] H4 (upd (upd (upd H4 l (.lst (ts.map V.ref))) t (.tup [.ref D, .ref l])) hh (.lst (vs ++ [.ref t]))) := (KpA.of E56).trans (KpA.upd (List.mem_singleton.mpr rfl) (fun t z => by rw [E56 _ _ hh4] at z; cases z))
    generalize upd (upd (upd H4 l (.lst (ts.map V.ref))) t (.tup [.ref D, .ref l])) hh (.lst (vs ++ [.ref t])) = H7 at V6 K7
    have B7 := held_both B4 X V4 K7.1
    obtain ⟨dx7, hp7⟩ := B7.tree.at_
    exact ⟨_, rfl, p, dx7, _, rfl, hp7, rfl, p, L, Y, tr, rfl, B7.tree, _, rfl, nV tr.pr, rfl, .inr ⟨_, rfl⟩, q H7 ((KK.trans (KpA.of S4)).trans (K7.mono mh)) V6 (held_rm V4 X (R3.same S4) K7.1)⟩
end

end My

set_option Elab.async false
set_option linter.all false
set_option maxRecDepth 100000
set_option maxHeartbeats 4000000
namespace My
open PySem L2






def sp_again55 (G : List Addr) (C : Addr) : Sp := fun vs H Q _ => ∃ (p L Y SL r c h : Addr) (tr : Tr) (m : Nat) (n : Int), vs = [.ref p, .ref SL, .ref r, .ref h] ∧ Cst G p L Y SL r c h ∧ BothG G C p L Y SL tr H ∧ Alive G H ∧ Rm H r c n ∧ (0 ≤ n ∧ n < 800000) ∧ HeldV G H h m ∧ m ≤ 3000 ∧ tr.ss.length ≤ 100 ∧ ∀ H', KpA [p, r, h] H H' → HeldV G H' h (m + 200) → Rm H' r c (n + 300) → Q (.bl true) H'
section
variable {P : Program} {w : World} {K : PySem.W.Frag} {mg : Str → Option Value} {base : Heap} {f C : Addr} {fd : FuncData} {G : List Addr}
theorem sc__law_all_again : FnScope ["_law_tree", "_law_states", "_law_room_here", "_law_held", "_law_many", "_law_downward", "_law_begin", "_law_k", "_law_number"] ["_law_tree", "_law_states", "_law_room_here", "_law_held"] (defScope s__law_all_again) := ⟨rfl, rfl, rfl, by decide +kernel, rfl, by decide +kernel, by decide +kernel⟩
theorem ok_again55 (F : Fun K "_law_all_again" "_law_all_again" s__law_all_again f fd) (O__law_take : Own P w K mg base CX0 1 "_law_take" ["_law_room_here", "_law_many"] sp_take) (O_Tree__to : OwnM P w K mg base CX0 5 C "to" ["self", "number"] (sp_ttoS C)) (O__law_looked : Own P w K mg base CX0 7 "_law_looked" ["_law_tree", "_law_states", "_law_at", "_law_room_here", "_law_held"] (sp_look55 G C)) (O__law_shows : Own P w K mg base CX0 5 "_law_shows" ["_law_tree", "_law_states", "_law_number"] (sp_tshow C)) (O__law_same : Own P w K mg base CX0 1 "_law_same" ["_law_found", "_law_due"] sp_sameT) (m_len : mg "len" = none) (m_range : mg "range" = none) : FnOk P w K mg base CX0 8 f fd ["_law_tree", "_law_states", "_law_room_here", "_law_held"] (sp_again55 G C) := by
  refine F.ok sc__law_all_again (fun vs H Q E h => ?_) (fun cdv A outer s H vs Q E hr h => ?_)
  · obtain ⟨p, L, Y, SL, r, c, hh, tr, m, n, rfl, _⟩ := h
    rfl
  obtain ⟨p, L, Y, SL, r, c, hh, tr, m, n, rfl, X, B, AL, R, hn, V0, hm, h100, q⟩ := h
  have hpl := B.tree.pr
  obtain ⟨ls, _, _, hSL, hlen, _⟩ := B.both.law.get (List.getElem?_eq_getElem hpl)
  have mp : ∀ x, x ∈ [p] → x ∈ [p, r, hh] := fun x hx => by rw [List.mem_singleton.mp hx]; exact List.mem_cons_self ..
  have mr : ∀ x, x ∈ [r] → x ∈ [p, r, hh] := fun x hx => by rw [List.mem_singleton.mp hx]; exact List.mem_cons_of_mem _ (List.mem_cons_self ..)
  have mrh : ∀ x, x ∈ [r, hh] → x ∈ [p, r, hh] := fun x hx => List.mem_cons_of_mem _ hx
  refine ⟨_, (pss_cons (ps_set (i := 4) sc__law_all_again.nd rfl (Or.inl rfl) (pe_callB call_len_seq (by rfl) m_len PySem.boot_len (pa_cons (pv 1) pa_nil)))
      (pss_cons (ps_set (i := 5) sc__law_all_again.nd rfl (Or.inl rfl) (pe_cmpR op_eq (pe_own O__law_take hr (by rfl) pass0 (pa_cons (pv 2) (pa_cons pe_int pa_nil))) pe_int (nomark _)))
      (pss_cons (ps_set (i := 6) sc__law_all_again.nd rfl (Or.inl rfl) (pe_own O__law_take hr (by rfl) pass0 (pa_cons (pv 2) (pa_cons (pv 4) pa_nil))))
      (pss_cons (ps_for PassesOwn.never rfl (pi_range1 (by rfl) m_range (pa_cons (pv 4) pa_nil)) (pg_name (i := 7) sc__law_all_again.nd rfl (Or.inl rfl)) (pss_cons (ps_set (i := 8) sc__law_all_again.nd rfl (Or.inl rfl) (pe_op op_mod (pe_op op_add (pv 6) (pv 7)) (pv 4)))
      (pss_cons (ps_if (pt_val (pv 5)) (pss_one (ps_set (i := 8) sc__law_all_again.nd rfl (Or.inl rfl) (pe_op op_sub (pe_op op_sub (pv 4) pe_int) (pv 7)))) pss_nil)
      (pss_cons (ps_if (PW.pt (pw_or (pt_not (pt_val (pe_own O__law_same hr (by rfl) pass0 (pa_cons (pe_ownM O_Tree__to hr (pv 0) pass0 (pa_cons (pv 8) pa_nil)) (pa_cons (pe_ix ix_tup (pe_ix ix_list (pv 1) (pv 8) (fun _ _ => rfl)) pe_int (fun _ _ => rfl)) pa_nil))))) (pw_or1 (pt_not (pt_val (pe_own O__law_looked hr (by rfl) pass0 (pa_cons (pv 0) (pa_cons (pv 1) (pa_cons (pv 8) (pa_cons (pv 2) (pa_cons (pv 3) pa_nil))))))))))) (pss_one (ps_ret pe_bl)) pss_nil)
      (pss_one (ps_if (pt_not (pt_val (pe_own O__law_shows hr (by rfl) pass0 (pa_cons (pv 0) (pa_cons (pv 1) (pa_cons (pv 8) pa_nil)))))) (pss_one (ps_ret pe_bl)) pss_nil))))))
      (pss_one (ps_ret pe_bl)))))), ?_⟩
  refine ⟨_, rfl, SL, _, rfl, .inl (SqL.of hSL), ?_⟩
  show gName _ (V.int ((ls.length : Nat) : Int)) _ _ _
  rw [hlen]
  refine ⟨_, rfl, r, c, 2, n, rfl, R, ⟨by omega, by omega⟩, ⟨by decide, by decide⟩, fun v H1 v0 v1 s1 R1 => ⟨rfl, ?_⟩⟩
  refine ((fun dn => ?_ : ∀ dn : Bool, gName 5 (V.bl dn) _ _ _) _)
  have K1 := R.kpA s1 R1
  have B1 := take_both B X R s1 R1
  have V1 := take_held V0 X R s1 R1
  refine ⟨_, rfl, _, rfl, r, c, (tr.ss.length : Int), n + 1, rfl, R1, ⟨by omega, by omega⟩, ⟨by omega, by omega⟩, fun b H2 b0 b1 s2 R2 => ?_⟩
  obtain ⟨b, rfl⟩ : ∃ i : Nat, b = (i : Int) := ⟨_, (Int.toNat_of_nonneg b0).symm⟩
  have K2 := R1.kpA s2 R2
  have B2 := take_both B1 X R1 s2 R2
  have V2 := take_held V1 X R1 s2 R2
  refine ⟨_, rfl, _, rfl, by omega, by omega, ?_⟩
  refine for_range (fun k σ H' => KpA [p, r, hh] H H' ∧ ∃ (j : Nat) (x1 x2 : Option V), BothG G C p L Y SL (tr.led j) H' ∧ Rm H' r c (n + 2 + 2 * k) ∧ HeldV G H' hh (m + 2 * k) ∧ σ = [some (.ref p), some (.ref SL), some (.ref r), some (.ref hh), some (nV tr.ss.length), some (.bl dn), some (nV b), x1, x2]) ⟨(K1.trans K2).mono mr, tr.pr, none, none, B2, by simpa using R2.mono (show n + 1 + 1 ≤ n + 2 by omega), V2, rfl⟩ ?_ ?_
  · rintro k σ H' hk ⟨KK, j, x1, x2, B', R', V', rfl⟩
    have hk' : k < tr.ss.length := by
      have : k < ((tr.ss.length : Int)).toNat := hk
      omega
    rw [Int.zero_add]
    have AL' := AL.kp KK
    have hpos : (0 : Int) < (tr.ss.length : Int) := by omega
    obtain ⟨i1, hi1, hil1⟩ := nat_modL ((b : Int) + (k : Int)) (b := tr.ss.length) (by omega)
    refine ⟨_, rfl, _, rfl, _, _, rfl, rfl, _, rfl, _, _, rfl, rfl, hpos, ?_⟩
    show gName _ (V.int (((b : Int) + (k : Int)) % (tr.ss.length : Int))) _ _ _
    rw [hi1]
    refine gname_go (seq_at (seq_to (fun σ H1 => H' = H1 ∧ ∃ i : Nat, i < tr.ss.length ∧ σ = [some (.ref p), some (.ref SL), some (.ref r), some (.ref hh), some (nV tr.ss.length), some (.bl dn), some (nV b), some (nV k), some (nV i)]) (fun nx fin => ?_) ?_))
    · refine ⟨_, rfl, _, rfl, ?_⟩
      cases dn with
      | true =>
        refine iteT ⟨_, rfl, _, _, rfl, rfl, _, rfl, _, _, rfl, rfl, ?_⟩
        have e : (tr.ss.length : Int) - 1 - (k : Int) = ((tr.ss.length - 1 - k : Nat) : Int) := by omega
        show gName _ (V.int ((tr.ss.length : Int) - 1 - (k : Int))) _ _ _
        rw [e]
        exact fin _ _ ⟨rfl, tr.ss.length - 1 - k, by omega, rfl⟩
      | false => exact iteF (fin _ _ ⟨rfl, i1, hil1, rfl⟩)
    · rintro σ H1 ⟨rfl, i, hi, rfl⟩
      have es : tr.ss[i]? = some tr.ss[i] := List.getElem?_eq_getElem hi
      generalize tr.ss[i] = si at es
      obtain ⟨dx1, hp1⟩ := B'.tree.at_
      refine ⟨_, rfl, p, dx1, _, rfl, hp1, rfl, _, rfl, p, L, Y, tr.led j, i, si, rfl, B'.tree, es, fun H2 K2 T2 => ?_⟩
      have B2 : BothG G C p L Y SL (tr.led i) H2 := B'.led K2 T2 X.gp
      obtain ⟨ls', a', d', hSL', _, hat', ⟨hA', _⟩, _, _⟩ := B2.both.law.get (show (tr.led i).ss[i]? = some si from es)
      have KA2 := KpA.led K2 B2
      have R2 := R'.led X B' K2
      obtain ⟨vs, hh1, _⟩ := V'.len
      have nhp : hh ≠ p := fun z => by rw [z, hp1] at hh1; cases hh1
      have V2 := V'.kp K2 (fun b hb => by rw [List.mem_singleton.mp hb]; exact X.gp) (nin1 nhp)
      refine ⟨_, rfl, _, rfl, SL, _, _, _, rfl, rfl, SqL.of hSL', hat', a', _, _, _, rfl, rfl, SqT.of hA', rfl, nV si.bh, rfl, .inr ⟨_, rfl⟩, _, rfl, iteF ?_⟩
      refine ⟨_, rfl, _, rfl, _, rfl, _, rfl, _, rfl, p, L, Y, SL, r, c, hh, tr.led i, _, _, rfl, X, B2, AL'.kp KA2, R2, ⟨by omega, by omega⟩, V2, by omega, h100, fun H3 K3 V3 R3 => ⟨_, rfl, iteF ?_⟩⟩
      have B3 : BothG G C p L Y SL (tr.led i) H3 := by
        obtain ⟨_, _, rk, rc, hr1, _⟩ := R2.al
        obtain ⟨dx2, hp2⟩ := B2.tree.at_
        obtain ⟨as2, hL2, _⟩ := B2.tree.kn
        obtain ⟨kv2, hY2, _⟩ := B2.tree.yg
        obtain ⟨ds2, ⟨_, ls2, hS2, _⟩, _⟩ := B2.law
        obtain ⟨vs2, hh2, _⟩ := V2.len
        have two : ∀ {a : Addr}, a ≠ r → a ≠ hh → a ∉ [r, hh] := fun {a} h1 h2 z => by
          rcases List.mem_cons.mp z with h | h
          · exact h1 h
          · exact h2 (List.mem_singleton.mp h)
        refine B2.kp K3.1 (fun b hb => ?_) (two (fun z => ?_) (Ne.symm nhp)) (two (fun z => ?_) (Ne.symm X.nhL)) (two X.nY (fun z => ?_)) (two (fun z => ?_) (Ne.symm X.nhS))
        · rcases List.mem_cons.mp hb with h | h
          · rw [h]; exact X.gr
          · rw [List.mem_singleton.mp h]; exact X.gh
        · rw [z, hr1] at hp2; cases hp2
        · rw [z, hr1] at hL2; cases hL2
        · rw [z, hh2] at hY2; cases hY2
        · rw [z, hr1] at hS2; cases hS2
      refine ⟨_, rfl, _, rfl, _, rfl, p, L, Y, SL, tr.led i, i, si, rfl, B3.both, es, h100, fun H4 S4 => ⟨_, rfl, iteF ?_⟩⟩
      exact ⟨((KK.trans (KA2.mono mp)).trans (K3.mono mrh)).trans (KpA.of S4), i, _, _, B3.same S4, (R3.same S4).mono (by omega), (V3.same S4).mono (by omega), rfl⟩
  · rintro σ H' ⟨KK, j, x1, x2, B', R', V', rfl⟩
    have e : ((tr.ss.length : Int)).toNat = tr.ss.length := by omega
    exact q H' KK (V'.mono (by omega)) (R'.mono (by omega))
end

end My

set_option Elab.async false
set_option linter.all false
set_option maxRecDepth 100000
set_option maxHeartbeats 4000000
namespace My
open PySem L2






theorem star_const {c : Const} {k : Nat} {pos : Pos} {es : List Expr} {env : Env} : starEach (.Constant c k pos :: es) env = (false, eval (.Constant c k pos) env) :: starEach es env := rfl
theorem lst1 {H : Hp} {SL L D t : Addr} {l : List Nat} {p : Nat} (hS : H SL = some (.lst [.ref t])) (ht : H t = some (.tup [.str (S l), .ref D, nV p, nV p, .non])) (hD : H D = some (.lst [])) (n1 : SL ≠ L) (n2 : D ≠ L) (n3 : D ≠ SL) : LStD H SL L [D] [⟨l, none, [], p, p⟩] := by
  refine ⟨n1, [t], hS, rfl, rfl, fun d hd => ?_, fun i a d s e1 e2 e3 => ?_⟩
  · rw [List.mem_singleton.mp hd]
    exact ⟨n2, n3⟩
  · cases i with
    | succ i => cases e1
    | zero =>
      cases e1
      cases e2
      cases e3
      exact ⟨ht, TupsV.nil hD⟩
theorem good1 {l : List Nat} {p : Nat} (h : l.length ≤ 40) (hc : ∀ c ∈ l, c < 128) (hp : p ≤ l.length) : Good [⟨l, none, [], p, p⟩] := fun i s e => by
  cases i with
  | succ i => cases e
  | zero =>
    cases e
    exact ⟨h, hc, Nat.zero_le _, (fun x hx => by cases hx), (by show p ≤ 40; omega), (by show p ≤ 40; omega), fun _ => ⟨rfl, rfl⟩, (fun e z => by cases z)⟩

/-! k55: a deep tree -/
def atF (v k : Int) : Nat := ((v + k) / 3 % 2).toNat
theorem atF_eq (v k : Int) : (v + k) / 3 % 2 = (atF v k : Int) ∧ atF v k < 2 := by
  have h0 : 0 ≤ (v + k) / 3 % 2 := Int.emod_nonneg _ (by decide)
  have h1 : (v + k) / 3 % 2 < 2 := Int.emod_lt_of_pos _ (by decide)
  unfold atF
  omega
structure DeepS (v : Int) (ss : List Sta) : Prop where
  fst : ss[0]? = some ⟨[97, 98], none, [], 1, 1⟩
  nxt : ∀ (i : Nat) (s : Sta), ss[i + 1]? = some s → s.el = some i ∧ s.ah = atF v i ∧ s.bh = atF v i + 1
  two : ∀ (i : Nat) (s : Sta), ss[i]? = some s → s.tx.length = 2
theorem DeepS.snoc {v : Int} {ss : List Sta} {k : Nat} {m : List Nat} {xs : List Trip} (D : DeepS v ss) (hk : ss.length = k + 1) (hm : m.length = 2) : DeepS v (ss ++ [⟨m, some k, xs, atF v k, atF v k + 1⟩]) := by
  refine ⟨getElem?_pre D.fst, fun i s e => ?_, fun i s e => ?_⟩
  · rcases getElem?_snoc e with ⟨_, h⟩ | ⟨h, rfl⟩
    · exact D.nxt i s h
    · have : i = k := by omega
      subst this
      exact ⟨rfl, rfl, rfl⟩
  · rcases getElem?_snoc e with ⟨_, h⟩ | ⟨h, rfl⟩
    · exact D.two i s h
    · exact hm
def sp_deep : Sp := fun vs H Q _ => ∃ v : Int, vs = [.int v] ∧ 0 ≤ v ∧ v < 1000 ∧ ∀ H', Same H H' → Q (.bl true) H'
section
variable {P : Program} {w : World} {K : PySem.W.Frag} {mg : Str → Option Value} {base : Heap} {f C : Addr} {fd : FuncData}
theorem sc__law_deep : FnScope ["_law_number", "_law_tree", "_law_text", "_law_middle", "_law_k", "_law_at", "_law_put", "_law_made", "_law_out"] ["_law_number"] (defScope s__law_deep) := ⟨rfl, rfl, rfl, by decide +kernel, rfl, by decide +kernel, by decide +kernel⟩
theorem ok_deep (F : Fun K "_law_deep" "_law_deep" s__law_deep f fd) (O_Tree : OwnMk P w K mg base CX0 1 C "Tree" ["self", "text", "place"] (sp_tinit C)) (O_Tree__grow : OwnM P w K mg base CX0 6 C "grow" ["self", "splices", "ahead", "behind"] (sp_tgrowS C)) (O_Tree__many : OwnM P w K mg base CX0 1 C "many" ["self"] (sp_tmany C)) (O_Tree__here : OwnM P w K mg base CX0 1 C "here" ["self"] (sp_there C)) (O_Tree__text_of : OwnM P w K mg base CX0 4 C "text_of" ["self", "number"] (sp_tgetS C gText)) (O_Tree__way : OwnM P w K mg base CX0 5 C "way" ["self", "one", "other"] (sp_twayS C)) (O_Tree__undone : OwnM P w K mg base CX0 5 C "undone" ["self"] (sp_tundoneS C)) (O_Tree__done : OwnM P w K mg base CX0 6 C "done" ["self"] (sp_tdoneS C)) (O_Tree__to : OwnM P w K mg base CX0 5 C "to" ["self", "number"] (sp_ttoS C)) (O__law_same : Own P w K mg base CX0 1 "_law_same" ["_law_found", "_law_due"] sp_sameT) (m_len : mg "len" = none) (m_range : mg "range" = none) : FnOk P w K mg base CX0 7 f fd ["_law_number"] sp_deep := by
  refine F.ok sc__law_deep (fun vs H Q E h => ?_) (fun cdv A outer s H vs Q E hr h => ?_)
  · obtain ⟨v, rfl, _⟩ := h
    rfl
  obtain ⟨v, rfl, v0, v1, q⟩ := h
  refine ⟨_, (pss_cons (ps_set (i := 1) sc__law_deep.nd rfl (Or.inl rfl) (pe_ownMk O_Tree hr (by rfl) pass0 (pa_cons pe_str (pa_cons pe_int pa_nil))))
      (pss_cons (ps_set (i := 2) sc__law_deep.nd rfl (Or.inl rfl) pe_str)
      (pss_cons (ps_set (i := 3) sc__law_deep.nd rfl (Or.inl rfl) (pv 2))
      (pss_cons (ps_for PassesOwn.never rfl (pi_range1 (by rfl) m_range (pa_cons pe_int pa_nil)) (pg_name (i := 4) sc__law_deep.nd rfl (Or.inl rfl)) (pss_cons (ps_set (i := 5) sc__law_deep.nd rfl (Or.inl rfl) (pe_op op_mod (pe_op op_fdiv (pe_op op_add (pv 0) (pv 4)) pe_int) pe_int))
      (pss_cons (ps_set (i := 6) sc__law_deep.nd rfl (Or.inl rfl) (pe_ix ix_S pe_str (pe_op op_mod (pe_op op_add (pv 0) (pe_op op_mul pe_int (pv 4))) pe_int) (fun _ _ => rfl)))
      (pss_cons (ps_if (pt_not (pt_val (pe_own O__law_same hr (by rfl) pass0 (pa_cons (pe_ownM O_Tree__grow hr (pv 1) pass0 (pa_cons (pe_lst (pa_cons (pe_tup (pa_cons (pv 5) (pa_cons (pe_ix ix_S (pv 2) (pv 5) (fun _ _ => rfl)) (pa_cons (pv 6) pa_nil)))) pa_nil)) (pa_cons (pv 5) (pa_cons (pe_op op_add (pv 5) pe_int) pa_nil)))) (pa_cons (pe_op op_add (pv 4) pe_int) pa_nil))))) (pss_one (ps_ret pe_bl)) pss_nil)
      (pss_cons (ps_set (i := 2) sc__law_deep.nd rfl (Or.inl rfl) (pe_op op_adS (pe_op op_adS (pe_slice sl_str (pv 2) po_none (po_some (pv 5))) (pv 6)) (pe_slice sl_str (pv 2) (po_some (pe_op op_add (pv 5) pe_int)) po_none)))
      (pss_one (ps_if (pt_cmpR op_eq (pv 4) pe_int (nomark _)) (pss_one (ps_set (i := 3) sc__law_deep.nd rfl (Or.inl rfl) (pv 2))) pss_nil)))))))
      (pss_cons (ps_if (PW.pt (pw_or (pt_not (pt_val (pe_own O__law_same hr (by rfl) pass0 (pa_cons (pe_ownM0 O_Tree__many hr (pv 1) pass0) (pa_cons pe_int pa_nil))))) (pw_or (pt_cmpR op_ne (pe_ownM O_Tree__text_of hr (pv 1) pass0 (pa_cons pe_int pa_nil)) (pv 2) (nomark _)) (pw_or1 (pt_cmpR op_ne (pe_ownM O_Tree__text_of hr (pv 1) pass0 (pa_cons pe_int pa_nil)) (pv 3) (nomark _)))))) (pss_one (ps_ret pe_bl)) pss_nil)
      (pss_cons (ps_set (i := 7) sc__law_deep.nd rfl (Or.inl rfl) pe_str)
      (pss_cons (ps_for PassesOwn.never rfl (pi_list (pe_ownM O_Tree__way hr (pv 1) pass0 (pa_cons pe_int (pa_cons pe_int pa_nil)))) (pg_tup rfl (pgs_cons (pg_name (i := 5) sc__law_deep.nd rfl (Or.inl rfl)) (pgs_cons (pg_name (i := 8) sc__law_deep.nd rfl (Or.inl rfl)) (pgs_cons (pg_name (i := 6) sc__law_deep.nd rfl (Or.inl rfl)) pgs_nil)))) (pss_cons (ps_if (pt_cmpR op_ne (pe_slice sl_str (pv 7) (po_some (pv 5)) (po_some (pe_op op_add (pv 5) (pe_callB call_lenS (by rfl) m_len PySem.boot_len (pa_cons (pv 8) pa_nil))))) (pv 8) (nomark _)) (pss_one (ps_ret pe_bl)) pss_nil)
      (pss_one (ps_set (i := 7) sc__law_deep.nd rfl (Or.inl rfl) (pe_op op_adS (pe_op op_adS (pe_slice sl_str (pv 7) po_none (po_some (pv 5))) (pv 6)) (pe_slice sl_str (pv 7) (po_some (pe_op op_add (pv 5) (pe_callB call_lenS (by rfl) m_len PySem.boot_len (pa_cons (pv 8) pa_nil)))) po_none))))))
      (pss_cons (ps_if (PW.pt (pw_or (pt_cmpR op_ne (pv 7) (pv 2) (nomark _)) (pw_or (pt_not (pt_val (pe_own O__law_same hr (by rfl) pass0 (pa_cons (pe_ownM0 O_Tree__undone hr (pv 1) pass0) (pa_cons (pe_op op_mod (pe_op op_fdiv (pe_op op_add (pv 0) pe_int) pe_int) pe_int) pa_nil))))) (pw_or1 (pt_not (pt_val (pe_own O__law_same hr (by rfl) pass0 (pa_cons (pe_ownM0 O_Tree__here hr (pv 1) pass0) (pa_cons pe_int pa_nil))))))))) (pss_one (ps_ret pe_bl)) pss_nil)
      (pss_one (ps_ret (pe_and (pe_own O__law_same hr (by rfl) pass0 (pa_cons (pe_ownM O_Tree__to hr (pv 1) pass0 (pa_cons pe_int pa_nil)) (pa_cons pe_int pa_nil))) (pe_and (pe_cmpR op_eq (pe_ownM O_Tree__text_of hr (pv 1) pass0 (pa_cons pe_int pa_nil)) pe_str (nomark _)) (pe_one (pe_own O__law_same hr (by rfl) pass0 (pa_cons (pe_ownM0 O_Tree__done hr (pv 1) pass0) (pa_cons (pe_op op_add (pe_op op_mod (pe_op op_fdiv (pv 0) pe_int) pe_int) pe_int) pa_nil)))))))))))))))), ?_⟩
  intro p dx np ndx nxd
  have E2 := same_new ndx (.own p)
  have E3 : Same H (upd (upd H dx (.own p)) p (.ins C dx [])) := same_upd E2 np
  refine ⟨p, dx, [97, 98], 1, rfl, upd_same, fun L Y H3 U3 nL nY T3 => ⟨rfl, ?_⟩⟩
  generalize upd (upd H dx (.own p)) p (.ins C dx []) = H2' at E3 U3 nL nY
  have K3 : Same H H3 := fun b u h => U3 b u (fun z => by rw [z, np] at h; cases h) (E3 _ _ h)
  have n0 : ∀ b ∈ [p, L, Y], H b = none := fun b hb => by
    rcases List.mem_cons.mp hb with rfl | hb
    · exact np
    rcases List.mem_cons.mp hb with rfl | hb
    · exact E3.free nL
    rw [List.mem_singleton.mp hb]
    exact E3.free nY
  have n1 : ∀ b ∈ [p], H b = none := fun b hb => n0 b (by rw [List.mem_singleton.mp hb]; exact List.mem_cons_self ..)
  have hY0 : YgOk ⟨[⟨[97, 98], none, [], 1, 1⟩], fun _ => none, 0⟩ := fun i j' s' e => by
    cases j' with
    | succ j' => cases e
    | zero => cases e; exact fun z => by cases z
  have hD0 : DeepS v [⟨[97, 98], none, [], 1, 1⟩] := ⟨rfl, (fun i s e => by cases e), fun i s e => by
    cases i with
    | succ i => cases e
    | zero => cases e; rfl⟩
  refine ⟨_, rfl, ?_⟩
  refine ⟨_, rfl, by decide, by decide, ?_⟩
  refine for_range (fun k σ H' => Same H H' ∧ ∃ (tr : Tr) (tx mid : List Nat) (s : Sta) (x1 x2 x3 x4 x5 : Option V), TreeAt C p L Y tr H' ∧ Good tr.ss ∧ YgOk tr ∧ DeepS v tr.ss ∧ tr.ss.length = k + 1 ∧ tr.pr = k ∧ tr.ss[k]? = some s ∧ s.tx = tx ∧ (550 ≤ k → ∃ s', tr.ss[550]? = some s' ∧ s'.tx = mid) ∧ σ = [some (.int v), some (.ref p), some (.str (S tx)), some (.str (S mid)), x1, x2, x3, x4, x5]) ⟨K3, _, [97, 98], [97, 98], _, none, none, none, none, none, T3, good1 (by decide) (by decide) (by decide), hY0, hD0, rfl, rfl, rfl, rfl, (fun z => by omega), rfl⟩ ?_ ?_
  · rintro k σ H' hk ⟨SS, tr, tx, mid, s, x1, x2, x3, x4, x5, TA, GG, YY, DD, hlen, hpr, es, rfl, hmid, rfl⟩
    have hk' : k < 1100 := by
      have : k < ((1100 : Int)).toNat := hk
      omega
    rw [Int.zero_add]
    obtain ⟨eat, hat2⟩ := atF_eq v k
    have h2 := DD.two k s es
    have gl := GG k s es
    refine ⟨_, rfl, _, rfl, _, _, rfl, rfl, _, _, rfl, rfl, ⟨by decide, by decide⟩, _, _, rfl, rfl, (by show (0 : Int) < 2; decide), ?_⟩
    show gName _ (V.int ((v + (k : Int)) / 3 % 2)) _ _ _
    rw [eat]
    generalize hatk : atF v k = ak at hat2
    obtain ⟨c7, hc7, hcl7⟩ := nat_modL (v + 3 * (k : Int)) (b := 7) (by decide)
    have hc7' : (v + 3 * (k : Int)) % 7 = (c7 : Int) := hc7
    have hput : ∃ e : Nat, e < 128 ∧ atI [97, 98, 99, 100, 101, 102, 103] ((v + 3 * (k : Int)) % 7) = some e := by
      rw [hc7']
      have hcl : c7 < ([97, 98, 99, 100, 101, 102, 103] : List Nat).length := hcl7
      have e : ([97, 98, 99, 100, 101, 102, 103] : List Nat)[c7]? = some ([97, 98, 99, 100, 101, 102, 103] : List Nat)[c7] := List.getElem?_eq_getElem hcl
      have hall : ∀ x ∈ ([97, 98, 99, 100, 101, 102, 103] : List Nat), x < 128 := by decide
      exact ⟨_, hall _ (List.getElem_mem hcl), atI_nat e⟩
    obtain ⟨e, he128, hput⟩ := hput
    refine ⟨_, rfl, _, rfl, _, _, rfl, rfl, .inl ⟨by decide, by decide⟩, _, _, rfl, rfl, _, _, rfl, rfl, (by show (0 : Int) < 7; decide), [97, 98, 99, 100, 101, 102, 103], _, _, rfl, rfl, small (by decide), hput, ?_⟩
    have hak : ak < s.tx.length := by omega
    have ec : s.tx[ak]? = some s.tx[ak] := List.getElem?_eq_getElem hak
    generalize s.tx[ak] = c at ec
    obtain ⟨dx', hp'⟩ := TA.at_
    have h64 : s.tx.length ≤ 1000000 := by omega
    refine ⟨_, rfl, p, dx', _, rfl, hp', rfl, _, rfl, _, rfl, _, rfl, s.tx, _, _, rfl, rfl, small h64, atI_nat ec, _, rfl, (by show 3 ≤ sizeLine; decide), fun t nt => ⟨(by show 1 ≤ sizeLine; decide), fun l nl => ?_⟩⟩
    have E1 := same_new nt (.tup (trip ((ak : Int), [c], [e])))
    have E2 := same_new nl (.lst [.ref t])
    have E12 := E1.trans E2
    have hR : Row (upd (upd H' t (.tup (trip ((ak : Int), [c], [e])))) l (.lst [.ref t])) [t] [((ak : Int), [c], [e])] := ⟨rfl, fun i t' x i1 i2 => by
      cases i with
      | succ i => cases i1
      | zero => cases i1; cases i2; exact E2 _ _ upd_same⟩
    have hT := hR.tups (D := l) upd_same
    have hcc : (s.tx.drop ak).take 1 = [c] := by
      rw [List.drop_eq_getElem_cons hak]
      have := (List.getElem?_eq_some_iff.mp ec).2
      rw [this]
      rfl
    have hf : fitB s.tx (ak : Int) [c] = true := fit_iff.mpr ⟨by omega, by show (ak : Int) + 1 ≤ _; omega, by show (s.tx.drop ((ak : Int)).toNat).take 1 = [c]; rw [Int.toNat_natCast]; exact hcc⟩
    have hw : walkT s.tx [((ak : Int), [c], [e])] = some (putL s.tx (ak : Int) [c] [e]) := by
      show (if fitB s.tx (ak : Int) [c] = true then _ else none) = _
      rw [if_pos hf]
      rfl
    have hpl := put_len (u := [e]) hf
    have hpl2 : (putL s.tx (ak : Int) [c] [e]).length = 2 := by
      have : ([c] : List Nat).length = 1 := rfl
      have : ([e] : List Nat).length = 1 := rfl
      omega
    have hasc : ∀ d ∈ putL s.tx (ak : Int) [c] [e], d < 128 := fun d hd => by
      unfold putL at hd
      rcases List.mem_append.mp hd with h | h
      · rcases List.mem_append.mp h with h | h
        · exact gl.asc d (List.mem_of_mem_take h)
        · rw [List.mem_singleton.mp h]; exact he128
      · exact gl.asc d (List.mem_of_mem_drop h)
    have es' : tr.ss[tr.pr]? = some s := by rw [hpr]; exact es
    refine ⟨_, rfl, _, rfl, _, _, rfl, rfl, p, L, Y, l, tr, s, [((ak : Int), [c], [e])], ak, ak + 1, putL s.tx (ak : Int) [c] [e], rfl, TA.same E12, es', by omega, hT, (fun x hx => by rw [List.mem_singleton.mp hx]; exact ⟨(by show 1 ≤ 100000; decide), (by show 1 ≤ 1000; decide)⟩), (by show 1 ≤ 60; decide), by omega, hw, fun H4 K4 T4 => ?_⟩
    refine ⟨_, rfl, _, _, rfl, rfl, nV tr.ss.length, ?_, .inr ⟨_, rfl⟩, _, rfl, iteF ?_⟩
    · show [nV tr.ss.length, V.int ((k : Int) + 1)] = [nV tr.ss.length, V.int (tr.ss.length : Int)]
      rw [hlen]
      rfl
    have e3 : cutL s.tx none (some (ak : Int)) ++ [e] ++ cutL s.tx (some ((ak : Int) + 1)) none = putL s.tx (ak : Int) [c] [e] := by
      rw [cutL_j s.tx (by omega), cutL_i s.tx (by omega), show ((ak : Int) + 1).toNat = ((ak : Int)).toNat + 1 by omega]
      rfl
    have z1 := cutL_le s.tx none (some (ak : Int))
    have z2 := cutL_le s.tx (some ((ak : Int) + 1)) none
    refine ⟨_, rfl, _, rfl, _, rfl, s.tx, rfl, small h64, _, rfl, _, _, rfl, rfl, small (by show _ + 1 ≤ _; omega), _, rfl, _, rfl, _, _, rfl, rfl, _, rfl, s.tx, rfl, small h64, _, _, rfl, rfl, small (by rw [List.length_append]; show _ + 1 + _ ≤ _; omega), ?_⟩
    show gName _ (V.str (S (cutL s.tx none (some (ak : Int)) ++ [e] ++ cutL s.tx (some ((ak : Int) + 1)) none))) _ _ _
    rw [e3]
    have GG' : Good (tr.grown (putL s.tx (ak : Int) [c] [e]) [((ak : Int), [c], [e])] ak (ak + 1)).ss := by
      refine GG.snoc es' hw (by show 1 ≤ 3; decide) (fun x hx => by rw [List.mem_singleton.mp hx]; exact ⟨(by show 1 ≤ 4; decide), (by show 1 ≤ 4; decide)⟩) (by omega) hasc (by omega) (by omega)
    have DD' : DeepS v (tr.grown (putL s.tx (ak : Int) [c] [e]) [((ak : Int), [c], [e])] ak (ak + 1)).ss := by
      have dd := DD.snoc (m := putL s.tx (ak : Int) [c] [e]) (xs := [((ak : Int), [c], [e])]) hlen hpl2
      rw [hatk] at dd
      show DeepS v (tr.ss ++ [⟨_, some tr.pr, _, ak, ak + 1⟩])
      rw [hpr]
      exact dd
    have hl' : (tr.grown (putL s.tx (ak : Int) [c] [e]) [((ak : Int), [c], [e])] ak (ak + 1)).ss.length = (k + 1) + 1 := by
      show (tr.ss ++ [_]).length = _
      rw [List.length_append, hlen]
      rfl
    have es2 : (tr.grown (putL s.tx (ak : Int) [c] [e]) [((ak : Int), [c], [e])] ak (ak + 1)).ss[k + 1]? = some ⟨putL s.tx (ak : Int) [c] [e], some tr.pr, [((ak : Int), [c], [e])], ak, ak + 1⟩ := by
      show (tr.ss ++ [_])[k + 1]? = _
      rw [List.getElem?_append_right (by omega), hlen, Nat.sub_self]
      rfl
    have SS4 := kp_same (SS.trans E12) K4 n0
    refine ⟨_, rfl, rfl, _, rfl, ite2 (fun c9 => ?_) (fun c9 => ?_)⟩
    · have c9' : k = 549 := by
        have := V.int.inj (of_decide_eq_true c9)
        omega
      refine ⟨_, rfl, SS4, _, _, _, _, _, _, _, _, _, T4, GG', YY.grown, DD', hl', by show tr.ss.length = k + 1; omega, es2, rfl, (fun _ => ⟨_, by rw [show (550 : Nat) = k + 1 by omega]; exact es2, rfl⟩), rfl⟩
    · have c9' : ¬ k = 549 := fun z => c9 (decide_eq_true (by rw [z]; rfl))
      refine ⟨SS4, _, _, _, _, _, _, _, _, _, T4, GG', YY.grown, DD', hl', by show tr.ss.length = k + 1; omega, es2, rfl, (fun hk5 => ?_), rfl⟩
      obtain ⟨s', e1, e2⟩ := hmid (by omega)
      exact ⟨s', getElem?_pre e1, e2⟩
  · rintro σ H' ⟨SS, tr, tx, mid, s, x1, x2, x3, x4, x5, TA, GG, YY, DD, hlen, hpr, es, rfl, hmid, rfl⟩
    have hlen' : tr.ss.length = 1101 := hlen
    have hpr' : tr.pr = 1100 := hpr
    have es' : tr.ss[1100]? = some s := es
    obtain ⟨s5, es5, rfl⟩ := hmid (by show 550 ≤ ((1100 : Int)).toNat; decide)
    obtain ⟨dx1, hp1⟩ := TA.at_
    have FM := GG.fam
    have es0 := DD.fst
    obtain ⟨ci, hci⟩ := IsRc.ex FM 0 0 (Nat.le_refl _) (by omega)
    obtain ⟨cj, hcj⟩ := IsRc.ex FM 1100 1100 (Nat.le_refl _) (by omega)
    obtain ⟨hw1, hw2⟩ := way_walk GG 1100 0 1100 ci cj _ s (by decide) hci hcj es0 es'
    have hw3 := way_small GG ci cj
    have h2 := DD.two _ s es'
    refine ⟨_, rfl, p, dx1, _, rfl, hp1, rfl, p, L, Y, tr, rfl, TA, nV 1101, (by show [nV tr.ss.length, V.int 1101] = _; rw [hlen']; rfl), .inr ⟨_, rfl⟩, _, rfl, iteF ?_⟩
    refine ⟨_, rfl, p, dx1, _, rfl, hp1, rfl, p, L, Y, tr, 1100, s, rfl, TA, es', ?_⟩
    refine ⟨_, rfl, rfl, _, rfl, iteNS rfl ?_⟩
    refine ⟨_, rfl, p, dx1, _, rfl, hp1, rfl, p, L, Y, tr, 550, s5, rfl, TA, es5, ?_⟩
    refine ⟨_, rfl, rfl, _, rfl, iteNS rfl ?_⟩
    refine ⟨_, rfl, p, dx1, _, rfl, hp1, rfl, p, L, Y, tr, 0, 1100, ci, cj, rfl, TA, FM, hci, hcj, fun D H1 S1 nD hD => ?_⟩
    generalize wayOf tr.ss ci cj = xs at hw1 hw2 hw3 hD
    have hw1' : walkT [97, 98] xs = some s.tx := hw1
    obtain ⟨ts, hDl, hR⟩ := tups_row hD
    refine ⟨D, rfl, ⟨_, SqL.of hDl⟩, ?_⟩
    refine for_list (xs := ts.map V.ref) (fun k σ H' => H1 = H' ∧ ∃ (mm : List Nat) (y1 y2 y3 y4 : Option V), mm.length ≤ 1000 + 4 * k ∧ walkT mm (xs.drop k) = some s.tx ∧ σ = [some (.int v), some (.ref p), some (.str (S s.tx)), some (.str (S s5.tx)), y1, y2, y3, some (.str (S mm)), y4]) ⟨rfl, [97, 98], _, _, _, _, by decide, hw1', rfl⟩ (fun k σ H' _ h => h.1 ▸ SqL.of hDl) ?_ ?_
    · rintro k v' σ H' hv ⟨rfl, mm, y1, y2, y3, y4, hmm, hwk, rfl⟩
      obtain ⟨t, ht, rfl⟩ := row_at hv
      obtain ⟨x, ex, hT⟩ := hR.get ht
      obtain ⟨hik, e'⟩ := List.getElem?_eq_some_iff.mp ex
      have hx4 := hw3 x (List.mem_of_getElem? ex)
      rw [List.drop_eq_getElem_cons hik, e'] at hwk
      have hwk' : (if fitB mm x.1 x.2.1 = true then walkT (putL mm x.1 x.2.1 x.2.2) (xs.drop (k + 1)) else none) = some s.tx := hwk
      have hf : fitB mm x.1 x.2.1 = true := by
        cases e : fitB mm x.1 x.2.1 with
        | true => rfl
        | false => rw [e] at hwk'; cases hwk'
      rw [if_pos hf] at hwk'
      obtain ⟨h0, h1, _⟩ := fit_iff.mp hf
      have hcut : cutL mm (some x.1) (some (x.1 + x.2.1.length)) = x.2.1 := by
        unfold fitB at hf
        rw [Bool.and_eq_true] at hf
        exact of_decide_eq_true hf.2
      refine ⟨t, _, rfl, SqT.of hT, rfl, _, _, rfl, _, _, rfl, _, _, rfl, rfl, ?_⟩
      refine ⟨_, rfl, _, rfl, _, rfl, _, rfl, _, rfl, x.2.1, rfl, small (by omega), _, _, rfl, rfl, _, rfl, mm, rfl, small (by omega), _, rfl, rfl, _, rfl, iteNS ?_ ?_⟩
      · show V.str (S (cutL mm (some x.1) (some (x.1 + (x.2.1.length : Int))))) = V.str (S x.2.1)
        rw [hcut]
      have z1 := cutL_le mm none (some x.1)
      have z2 := cutL_le mm (some (x.1 + x.2.1.length)) none
      have e3 : cutL mm none (some x.1) ++ x.2.2 ++ cutL mm (some (x.1 + x.2.1.length)) none = putL mm x.1 x.2.1 x.2.2 := by
        rw [cutL_j mm h0, cutL_i mm (by omega), show (x.1 + (x.2.1.length : Int)).toNat = x.1.toNat + x.2.1.length by omega]
        rfl
      have z3 := put_le (l := mm) (o := x.2.1) (u := x.2.2) (p := x.1)
      refine ⟨_, rfl, _, rfl, _, rfl, mm, rfl, small (by omega), _, rfl, _, _, rfl, rfl, small (by omega), _, rfl, _, rfl, _, rfl, x.2.1, rfl, small (by omega), _, _, rfl, rfl, _, rfl, mm, rfl, small (by omega), _, _, rfl, rfl, small (by rw [List.length_append]; omega), ?_⟩
      refine ⟨rfl, putL mm x.1 x.2.1 x.2.2, y1, some (.int x.1), some (.str (S x.2.2)), some (.str (S x.2.1)), by omega, hwk', ?_⟩
      rw [← e3]
      rfl
    · rintro σ H' ⟨rfl, mm, y1, y2, y3, y4, hmm, hwk, rfl⟩
      have e : (ts.map V.ref).length = xs.length := by rw [List.length_map, hR.1]
      rw [e, List.drop_length] at hwk
      cases hwk
      have T1 := TA.same S1
      have SS1 := SS.trans S1
      obtain ⟨dx2, hp2⟩ := T1.at_
      obtain ⟨hel, hah, _⟩ := DD.nxt 1099 s es'
      obtain ⟨ea, _⟩ := atF_eq v 1099
      have es2 : tr.ss[tr.pr]? = some s := by rw [hpr']; exact es'
      refine ⟨_, rfl, _, rfl, rfl, _, rfl, iteNS rfl ?_⟩
      refine ⟨_, rfl, p, dx2, _, rfl, hp2, rfl, p, L, Y, tr, s, 1099, rfl, T1, es2, hel, fun H2 K2 T2 => ?_⟩
      refine ⟨_, rfl, _, _, rfl, rfl, _, _, rfl, rfl, ⟨by decide, by decide⟩, _, _, rfl, rfl, (by show (0 : Int) < 2; decide), nV s.ah, ?_, .inr ⟨_, rfl⟩, _, rfl, iteF ?_⟩
      · show [nV s.ah, V.int ((v + 1099) / 3 % 2)] = [nV s.ah, V.int (s.ah : Int)]
        rw [hah, ea]
        rfl
      obtain ⟨dx3, hp3⟩ := T2.at_
      refine ⟨_, rfl, p, dx3, _, rfl, hp3, rfl, p, L, Y, tr.led 1099, rfl, T2, nV 1099, rfl, .inr ⟨_, rfl⟩, _, rfl, iteF ?_⟩
      refine ⟨_, rfl, p, dx3, _, rfl, hp3, rfl, p, L, Y, tr.led 1099, 0, _, rfl, T2, es0, fun H3 K3 T3 => ?_⟩
      refine ⟨nV 1, rfl, .inr ⟨_, rfl⟩, _, rfl, iteT ?_⟩
      obtain ⟨dx4, hp4⟩ := T3.at_
      refine ⟨_, rfl, p, dx4, _, rfl, hp4, rfl, p, L, Y, (tr.led 1099).led 0, 0, _, rfl, T3, es0, ?_⟩
      refine ⟨rfl, _, rfl, iteDT rfl ?_⟩
      have es1 : tr.ss[1]? = some (tr.ss[1]'(by omega)) := List.getElem?_eq_getElem (by omega)
      generalize (tr.ss[1]'(by omega)) = s1 at es1
      obtain ⟨he1, _, hb1⟩ := DD.nxt 0 s1 es1
      have hyg : tr.yg 0 = some 1 := (YY 0).uniq ⟨⟨s1, es1, he1⟩, fun j' s' hj e' => by
        obtain ⟨i, rfl⟩ : ∃ i, j' = i + 1 := ⟨j' - 1, by omega⟩
        rw [(DD.nxt i s' e').1]
        exact fun z => by have := Option.some.inj z; omega⟩
      obtain ⟨ea0, _⟩ := atF_eq v 0
      refine ⟨_, rfl, p, dx4, _, rfl, hp4, rfl, p, L, Y, (tr.led 1099).led 0, 1, s1, rfl, T3, hyg, es1, fun H4 K4 T4 => ?_⟩
      refine ⟨_, rfl, _, _, rfl, rfl, ⟨by decide, by decide⟩, _, _, rfl, rfl, (by show (0 : Int) < 2; decide), _, _, rfl, rfl, nV s1.bh, ?_, .inr ⟨_, rfl⟩, q _ (kp_same (kp_same (kp_same SS1 K2 n1) K3 n1) K4 n1)⟩
      show [nV s1.bh, V.int (v / 3 % 2 + 1)] = [nV s1.bh, V.int (s1.bh : Int)]
      rw [hb1]
      rw [Int.add_zero] at ea0
      rw [ea0]
      rfl
end

end My

set_option Elab.async false
set_option linter.all false
set_option maxRecDepth 100000
set_option maxHeartbeats 4000000
namespace My
open PySem L2



/-! k55: two trees beside each other -/
theorem nd_ne {α : Type} {l : List α} (nd : l.Nodup) {i j : Nat} {a b : α} (hi : l[i]? = some a) (hj : l[j]? = some b) (h : i ≠ j) : a ≠ b := fun e => h ((List.getElem?_inj (List.getElem?_eq_some_iff.mp hi).1 nd).mp (by rw [hi, hj, e]))
theorem Alive.cons {G : List Addr} {H H' : Hp} {x : Addr} (a : Alive G H) (s : Same H H') (h : H' x ≠ none) : Alive (x :: G) H' := fun g hg => by
  rcases List.mem_cons.mp hg with rfl | hg
  · exact h
  · exact fun z => a g hg (s.free z)
structure Dst (G : List Addr) (p1 L1 Y1 S1 p2 L2 Y2 S2 r c h NW TR RW : Addr) : Prop where
  c1 : Cst G p1 L1 Y1 S1 r c h
  c2 : Cst G p2 L2 Y2 S2 r c h
  n12 : ∀ x ∈ [p2, L2, Y2, S2, NW, TR, RW], x ∉ [p1, L1, Y1, S1, r, h]
  n21 : ∀ x ∈ [p1, L1, Y1, S1, NW, TR, RW], x ∉ [p2, L2, Y2, S2, r, h]
  nN : ∀ x ∈ [p1, L1, Y1, S1, p2, L2, Y2, S2, r, c, h, TR, RW], x ≠ NW
  gN : NW ∈ G
  gall : ∀ g ∈ G, g ∈ [p1, L1, Y1, S1, p2, L2, Y2, S2, r, h, NW]
structure In55 (G : List Addr) (C p1 L1 Y1 S1 p2 L2 Y2 S2 r c h NW TR RW : Addr) (tr1 tr2 : Tr) (n : Int) (m : Nat) (H : Hp) : Prop where
  b1 : BothG G C p1 L1 Y1 S1 tr1 H
  b2 : BothG G C p2 L2 Y2 S2 tr2 H
  rm : Rm H r c n
  hv : HeldV G H h m
  nw : H NW = some (.lst [nV tr1.pr, nV tr2.pr])
  trs : H TR = some (.lst [.ref p1, .ref p2])
  rws : H RW = some (.lst [.ref S1, .ref S2])
theorem In55.al {G : List Addr} {C p1 L1 Y1 S1 p2 L2 Y2 S2 r c h NW TR RW : Addr} {tr1 tr2 : Tr} {n : Int} {m : Nat} {H : Hp} (I : In55 G C p1 L1 Y1 S1 p2 L2 Y2 S2 r c h NW TR RW tr1 tr2 n m H) (D : Dst G p1 L1 Y1 S1 p2 L2 Y2 S2 r c h NW TR RW) : Alive G H := fun g hg => by
  obtain ⟨a1, a2, a3, a4⟩ := I.b1.al
  obtain ⟨d1, d2, d3, d4⟩ := I.b2.al
  obtain ⟨vs, hh, _⟩ := I.hv.len
  have := D.gall g hg
  simp only [List.mem_cons, List.not_mem_nil, or_false] at this
  rcases this with rfl | rfl | rfl | rfl | rfl | rfl | rfl | rfl | rfl | rfl | rfl
  · exact a1
  · exact a2
  · exact a3
  · exact a4
  · exact d1
  · exact d2
  · exact d3
  · exact d4
  · exact I.rm.al.1
  · rw [hh]; exact fun z => by cases z
  · rw [I.nw]; exact fun z => by cases z
theorem sub6 {a1 a2 a3 a4 a5 a6 x : Addr} {G : List Addr} (h1 : a1 ∈ G) (h2 : a2 ∈ G) (h3 : a3 ∈ G) (h4 : a4 ∈ G) (h5 : a5 ∈ G) (h6 : a6 ∈ G) (hx : x ∈ [a1, a2, a3, a4, a5, a6]) : x ∈ G := by
  simp only [List.mem_cons, List.not_mem_nil, or_false] at hx
  rcases hx with rfl | rfl | rfl | rfl | rfl | rfl <;> assumption
theorem In55.pick {G : List Addr} {C p1 L1 Y1 S1 p2 L2 Y2 S2 r c h NW TR RW : Addr} {tr1 tr2 : Tr} {n : Int} {m : Nat} {H : Hp} (I : In55 G C p1 L1 Y1 S1 p2 L2 Y2 S2 r c h NW TR RW tr1 tr2 n m H) (D : Dst G p1 L1 Y1 S1 p2 L2 Y2 S2 r c h NW TR RW) {w : Nat} (hw : w = 0 ∨ w = 1) (k : Nat) (hk : tr1.ss.length ≤ k ∧ tr2.ss.length ≤ k) : ∃ (p L Y S : Addr) (tr : Tr), Cst G p L Y S r c h ∧ BothG G C p L Y S tr H ∧ tr.ss.length ≤ k ∧
    atI [V.ref p1, V.ref p2] (w : Int) = some (.ref p) ∧ atI [V.ref S1, V.ref S2] (w : Int) = some (.ref S) ∧ atI [nV tr1.pr, nV tr2.pr] (w : Int) = some (nV tr.pr) ∧ NW ∉ [p, L, Y, S, r, h] ∧ TR ∉ [p, L, Y, S, r, h] ∧ RW ∉ [p, L, Y, S, r, h] ∧
    ∀ tr' n' m' H' H'' xs, KpA [p, L, Y, S, r, h] H H' → BothG G C p L Y S tr' H' → tr'.ss.length ≤ k + 1 → Rm H' r c n' → HeldV G H' h m' → [nV tr1.pr, nV tr2.pr].set w (nV tr'.pr) = xs → H'' = upd H' NW (.lst xs) → ∃ tr1' tr2', In55 G C p1 L1 Y1 S1 p2 L2 Y2 S2 r c h NW TR RW tr1' tr2' n' m' H'' ∧ tr1'.ss.length ≤ k + 1 ∧ tr2'.ss.length ≤ k + 1 := by
  have nN := D.nN
  simp only [List.mem_cons, List.not_mem_nil, or_false, forall_eq_or_imp, forall_eq] at nN
  obtain ⟨q1, q2, q3, q4, q5, q6, q7, q8, q9, q10, q11, q12, q13⟩ := nN
  rcases hw with rfl | rfl
  · have n12 := D.n12
    refine ⟨p1, L1, Y1, S1, tr1, D.c1, I.b1, hk.1, rfl, rfl, rfl, n12 NW (by simp), n12 TR (by simp), n12 RW (by simp), ?_⟩
    intro tr' n' m' H' H'' xs k' b' hl' R' V' hxs hH''
    subst hH''
    subst hxs
    have bb := I.b2.kp k'.1 (fun x hx => sub6 D.c1.gp D.c1.gL D.c1.gY D.c1.gS D.c1.gr D.c1.gh hx) (n12 p2 (by simp)) (n12 L2 (by simp)) (n12 Y2 (by simp)) (n12 S2 (by simp))
    have hN := k'.1.1 _ _ (n12 NW (by simp)) I.nw
    have kN : Kp [NW] H' (upd H' NW (.lst ([nV tr1.pr, nV tr2.pr].set 0 (nV tr'.pr)))) := Kp.upd (List.mem_singleton.mpr rfl) (fun t z => by rw [hN] at z; cases z)
    have sN : ∀ b ∈ [NW], b ∈ G := fun b hb => by rw [List.mem_singleton.mp hb]; exact D.gN
    exact ⟨tr', tr2, ⟨b'.kp kN sN (nin1 q1) (nin1 q2) (nin1 q3) (nin1 q4), bb.kp kN sN (nin1 q5) (nin1 q6) (nin1 q7) (nin1 q8), R'.keep kN (nin1 q9) (nin1 q10), V'.kp kN sN (nin1 q11), upd_same, kN.1 _ _ (nin1 q12) (k'.1.1 _ _ (n12 TR (by simp)) I.trs), kN.1 _ _ (nin1 q13) (k'.1.1 _ _ (n12 RW (by simp)) I.rws)⟩, hl', by omega⟩
  · have n21 := D.n21
    refine ⟨p2, L2, Y2, S2, tr2, D.c2, I.b2, hk.2, rfl, rfl, rfl, n21 NW (by simp), n21 TR (by simp), n21 RW (by simp), ?_⟩
    intro tr' n' m' H' H'' xs k' b' hl' R' V' hxs hH''
    subst hH''
    subst hxs
    have bb := I.b1.kp k'.1 (fun x hx => sub6 D.c2.gp D.c2.gL D.c2.gY D.c2.gS D.c2.gr D.c2.gh hx) (n21 p1 (by simp)) (n21 L1 (by simp)) (n21 Y1 (by simp)) (n21 S1 (by simp))
    have hN := k'.1.1 _ _ (n21 NW (by simp)) I.nw
    have kN : Kp [NW] H' (upd H' NW (.lst ([nV tr1.pr, nV tr2.pr].set 1 (nV tr'.pr)))) := Kp.upd (List.mem_singleton.mpr rfl) (fun t z => by rw [hN] at z; cases z)
    have sN : ∀ b ∈ [NW], b ∈ G := fun b hb => by rw [List.mem_singleton.mp hb]; exact D.gN
    exact ⟨tr1, tr', ⟨bb.kp kN sN (nin1 q1) (nin1 q2) (nin1 q3) (nin1 q4), b'.kp kN sN (nin1 q5) (nin1 q6) (nin1 q7) (nin1 q8), R'.keep kN (nin1 q9) (nin1 q10), V'.kp kN sN (nin1 q11), upd_same, kN.1 _ _ (nin1 q12) (k'.1.1 _ _ (n21 TR (by simp)) I.trs), kN.1 _ _ (nin1 q13) (k'.1.1 _ _ (n21 RW (by simp)) I.rws)⟩, by omega, hl'⟩
theorem In55.take {G : List Addr} {C p1 L1 Y1 S1 p2 L2 Y2 S2 r c h NW TR RW : Addr} {tr1 tr2 : Tr} {n k : Int} {m : Nat} {H H' : Hp} (I : In55 G C p1 L1 Y1 S1 p2 L2 Y2 S2 r c h NW TR RW tr1 tr2 n m H) (D : Dst G p1 L1 Y1 S1 p2 L2 Y2 S2 r c h NW TR RW) (s : SameX r H H') (R' : Rm H' r c k) : In55 G C p1 L1 Y1 S1 p2 L2 Y2 S2 r c h NW TR RW tr1 tr2 k m H' := by
  have n12 := D.n12
  have mr : ∀ {x : Addr}, x ∉ [p1, L1, Y1, S1, r, h] → x ≠ r := fun {x} hx z => hx (by rw [z]; simp)
  exact ⟨take_both I.b1 D.c1 I.rm s R', take_both I.b2 D.c2 I.rm s R', R', take_held I.hv D.c1 I.rm s R', s _ _ (mr (n12 NW (by simp))) I.nw, s _ _ (mr (n12 TR (by simp))) I.trs, s _ _ (mr (n12 RW (by simp))) I.rws⟩
theorem In55.same {G : List Addr} {C p1 L1 Y1 S1 p2 L2 Y2 S2 r c h NW TR RW : Addr} {tr1 tr2 : Tr} {n : Int} {m : Nat} {H H' : Hp} (I : In55 G C p1 L1 Y1 S1 p2 L2 Y2 S2 r c h NW TR RW tr1 tr2 n m H) (s : Same H H') : In55 G C p1 L1 Y1 S1 p2 L2 Y2 S2 r c h NW TR RW tr1 tr2 n m H' := ⟨I.b1.same s, I.b2.same s, I.rm.same s, I.hv.same s, s _ _ I.nw, s _ _ I.trs, s _ _ I.rws⟩

end My

set_option Elab.async false
set_option linter.all false
set_option maxRecDepth 100000
set_option maxHeartbeats 4000000
namespace My
open PySem L2






theorem look_both {G : List Addr} {C p L Y SL r c h : Addr} {tr : Tr} {n : Int} {m : Nat} {H H' : Hp} (B : BothG G C p L Y SL tr H) (X : Cst G p L Y SL r c h) (R : Rm H r c n) (V0 : HeldV G H h m) (k : Kp [r, h] H H') : BothG G C p L Y SL tr H' := by
  obtain ⟨_, _, rk, rc, hr1, _⟩ := R.al
  obtain ⟨dx2, hp2⟩ := B.tree.at_
  obtain ⟨as2, hL2, _⟩ := B.tree.kn
  obtain ⟨kv2, hY2, _⟩ := B.tree.yg
  obtain ⟨ds2, ⟨_, ls2, hS2, _⟩, _⟩ := B.law
  obtain ⟨vs2, hh2, _⟩ := V0.len
  have two : ∀ {a : Addr}, a ≠ r → a ≠ h → a ∉ [r, h] := fun {a} h1 h2 z => by
    rcases List.mem_cons.mp z with h | h
    · exact h1 h
    · exact h2 (List.mem_singleton.mp h)
  refine B.kp k (fun b hb => ?_) (two (fun z => ?_) (fun z => ?_)) (two (fun z => ?_) (Ne.symm X.nhL)) (two X.nY (fun z => ?_)) (two (fun z => ?_) (Ne.symm X.nhS))
  · rcases List.mem_cons.mp hb with h | h
    · rw [h]; exact X.gr
    · rw [List.mem_singleton.mp h]; exact X.gh
  · rw [z, hr1] at hp2; cases hp2
  · rw [z, hh2] at hp2; cases hp2
  · rw [z, hr1] at hL2; cases hL2
  · rw [z, hh2] at hY2; cases hY2
  · rw [z, hr1] at hS2; cases hS2
def SpG (sp : List Addr → Sp) : Sp := fun vs H Q E => ∃ G, sp G vs H Q E
theorem fn_G {P : Program} {w : World} {K : PySem.W.Frag} {mg : Str → Option Value} {base : Heap} {CX : CXT} {k : Nat} {f : Addr} {fd : FuncData} {ps : List Str} {sp : List Addr → Sp} (F : ∀ G, FnOk P w K mg base CX k f fd ps (sp G)) : FnOk P w K mg base CX k f fd ps (SpG sp) :=
  ⟨fun vs H Q E ⟨G, q⟩ => (F G).len vs H Q E q, fun A outer s H args us vs Q E hr he hb hv ⟨G, hs⟩ => (F G).run A outer s H args us vs Q E hr he hb hv hs⟩
theorem own_G {P : Program} {w : World} {K : PySem.W.Frag} {mg : Str → Option Value} {base : Heap} {CX : CXT} {k : Nat} {x : Str} {ps : List Str} {sp : List Addr → Sp} (O : Own P w K mg base CX k x ps (SpG sp)) (G : List Addr) : Own P w K mg base CX k x ps (sp G) := own_mono O (fun vs H Q E h => ⟨G, h⟩)
theorem tree_new {C p L Y dx : Addr} {tr : Tr} {l : List Nat} {k : Nat} {H H' : Hp} (np : H p = none) (ndx : H dx = none) (U : Upto p (upd (upd H dx (.own p)) p (.ins C dx [])) H') (nL : (upd (upd H dx (.own p)) p (.ins C dx [])) L = none) (nY : (upd (upd H dx (.own p)) p (.ins C dx [])) Y = none) : Same H H' ∧ H L = none ∧ H Y = none ∧ L ≠ p ∧ Y ≠ p := by
  have E2 := same_new ndx (.own p)
  have E3 : Same H (upd (upd H dx (.own p)) p (.ins C dx [])) := same_upd E2 np
  refine ⟨fun b u h => U b u (fun z => by rw [z, np] at h; cases h) (E3 _ _ h), E3.free nL, E3.free nY, fun z => ?_, fun z => ?_⟩
  · rw [z, upd_same] at nL; cases nL
  · rw [z, upd_same] at nY; cases nY
theorem nd_dis {α : Type} {l : List α} (nd : l.Nodup) (is js : List Nat) (hd : ∀ i ∈ is, ∀ j ∈ js, i ≠ j) (xs ys : List α) (hx : xs.map some = is.map (fun i => l[i]?)) (hy : ys.map some = js.map (fun i => l[i]?)) : ∀ x ∈ xs, x ∉ ys := fun x h1 h2 => by
  have m1 : some x ∈ xs.map some := List.mem_map.mpr ⟨x, h1, rfl⟩
  have m2 : some x ∈ ys.map some := List.mem_map.mpr ⟨x, h2, rfl⟩
  rw [hx] at m1
  rw [hy] at m2
  obtain ⟨i, hi, ei⟩ := List.mem_map.mp m1
  obtain ⟨j, hj, ej⟩ := List.mem_map.mp m2
  exact nd_ne nd ei ej (hd i hi j hj) rfl
theorem TreeAt.al {C p L Y : Addr} {tr : Tr} {H : Hp} (T : TreeAt C p L Y tr H) : H p ≠ none ∧ H L ≠ none ∧ H Y ≠ none ∧ Y ≠ L := by
  obtain ⟨dx, h1⟩ := T.at_
  obtain ⟨as, h2, _⟩ := T.kn
  obtain ⟨kvs, h3, _⟩ := T.yg
  exact ⟨(by rw [h1]; exact (fun z => by cases z)), (by rw [h2]; exact (fun z => by cases z)), (by rw [h3]; exact (fun z => by cases z)), fun z => by rw [z, h2] at h3; cases h3⟩
theorem notin_cons {x y : Addr} {l : List Addr} (h1 : x ≠ y) (h2 : x ∉ l) : x ∉ y :: l := fun z => (List.mem_cons.mp z).elim h1 h2
theorem In55.mono {G : List Addr} {C p1 L1 Y1 S1 p2 L2 Y2 S2 r c h NW TR RW : Addr} {tr1 tr2 : Tr} {n n' : Int} {m m' : Nat} {H : Hp} (I : In55 G C p1 L1 Y1 S1 p2 L2 Y2 S2 r c h NW TR RW tr1 tr2 n m H) (hn : n ≤ n') (hm : m ≤ m') : In55 G C p1 L1 Y1 S1 p2 L2 Y2 S2 r c h NW TR RW tr1 tr2 n' m' H := ⟨I.b1, I.b2, I.rm.mono hn, I.hv.mono hm, I.nw, I.trs, I.rws⟩
theorem in6 {a1 a2 a3 a4 a5 a6 x : Addr} {l : List Addr} (hl : ∀ y ∈ l, y = a1 ∨ y = a2 ∨ y = a3 ∨ y = a4 ∨ y = a5 ∨ y = a6) (hx : x ∈ l) : x ∈ [a1, a2, a3, a4, a5, a6] := by
  rcases hl x hx with rfl | rfl | rfl | rfl | rfl | rfl <;> simp
section
variable {P : Program} {w : World} {K : PySem.W.Frag} {mg : Str → Option Value} {base : Heap} {f C : Addr} {fd : FuncData}
theorem sc_law : FnScope ["_law_script", "_law_room_here", "_law_begun", "_law_trees", "_law_rows", "_law_now", "_law_held", "_law_k", "_law_which", "_law_way_here", "_law_at", "_law_found", "_law_due"] ["_law_script"] (defScope s_law) := ⟨rfl, rfl, rfl, by decide +kernel, rfl, by decide +kernel, by decide +kernel⟩
theorem ok_law (F : Fun K "law" "law" s_law f fd) (O__law_room : Own P w K mg base CX0 2 "_law_room" ["_law_script"] (sp_room K)) (O__law_take : Own P w K mg base CX0 1 "_law_take" ["_law_room_here", "_law_many"] sp_take) (O__law_deep : Own P w K mg base CX0 7 "_law_deep" ["_law_number"] sp_deep) (O__law_first : Own P w K mg base CX0 3 "_law_first" ["_law_room_here"] sp_first55) (O_Tree : OwnMk P w K mg base CX0 1 C "Tree" ["self", "text", "place"] (sp_tinit C))
    (O__law_grown : Own P w K mg base CX0 7 "_law_grown" ["_law_tree", "_law_states", "_law_at", "_law_room_here"] (SpG fun G => sp_grown55 G C)) (O__law_led : Own P w K mg base CX0 8 "_law_led" ["_law_tree", "_law_states", "_law_at", "_law_way_here", "_law_room_here"] (SpG fun G => sp_led55 G C)) (O__law_looked : Own P w K mg base CX0 7 "_law_looked" ["_law_tree", "_law_states", "_law_at", "_law_room_here", "_law_held"] (SpG fun G => sp_look55 G C)) (O__law_all_again : Own P w K mg base CX0 8 "_law_all_again" ["_law_tree", "_law_states", "_law_room_here", "_law_held"] (SpG fun G => sp_again55 G C)) (O__law_row : Own P w K mg base CX0 1 "_law_row" ["_law_found", "_law_due"] sp_lrowT) (m_len : mg "len" = none) (m_range : mg "range" = none) (m_int : mg "int" = none) : FnOk P w K mg base CX0 9 f fd ["_law_script"] (sp_law K) := by
  refine F.ok sc_law (fun vs H Q E h => ?_) (fun cdv A outer s H vs Q E hr h => ?_)
  · obtain ⟨a, ns, rfl, _⟩ := h
    rfl
  obtain ⟨a, ns, rfl, hS, h63, q⟩ := h
  refine ⟨_, (pss_cons (ps_set (i := 1) sc_law.nd rfl (Or.inl rfl) (pe_own O__law_room hr (by rfl) pass0 (pa_cons (pv 0) pa_nil)))
      (pss_cons (ps_if (PW.pt (pw_and (pt_cmpR op_eq (pe_own O__law_take hr (by rfl) pass0 (pa_cons (pv 1) (pa_cons pe_int pa_nil))) pe_int (nomark _)) (pw_and1 (pt_not (pt_val (pe_own O__law_deep hr (by rfl) pass0 (pa_cons (pe_own O__law_take hr (by rfl) pass0 (pa_cons (pv 1) (pa_cons pe_int pa_nil))) pa_nil))))))) (pss_one (ps_ret pe_bl)) pss_nil)
      (pss_cons (ps_set (i := 2) sc_law.nd rfl (Or.inl rfl) (pe_own O__law_first hr (by rfl) pass0 (pa_cons (pv 1) pa_nil)))
      (pss_cons (ps_set (i := 3) sc_law.nd rfl (Or.inl rfl) (pe_lst (pa_cons (pe_ownMk O_Tree hr (by rfl) pass0 (pa_cons (pe_ix ix_tup (pv 2) pe_int (fun _ _ => rfl)) (pa_cons (pe_ix ix_tup (pv 2) pe_int (fun _ _ => rfl)) pa_nil))) (pa_cons (pe_ownMk O_Tree hr (by rfl) pass0 (pa_cons (pe_ix ix_tup (pv 2) pe_int (fun _ _ => rfl)) (pa_cons (pe_ix ix_tup (pv 2) pe_int (fun _ _ => rfl)) pa_nil))) pa_nil))))
      (pss_cons (ps_set (i := 4) sc_law.nd rfl (Or.inl rfl) (pe_lst (pa_cons (pe_lst (pa_cons (pv 2) pa_nil)) (pa_cons (pe_lst (pa_cons (pv 2) pa_nil)) pa_nil))))
      (pss_cons (ps_set (i := 5) sc_law.nd rfl (Or.inl rfl) (pe_lst (pa_cons pe_int (pa_cons pe_int pa_nil))))
      (pss_cons (ps_set (i := 6) sc_law.nd rfl (Or.inl rfl) (pe_lst pa_nil))
      (pss_cons (ps_for PassesOwn.never rfl (pi_range1 (by rfl) m_range (pa_cons (pe_own O__law_take hr (by rfl) pass0 (pa_cons (pv 1) (pa_cons pe_int pa_nil))) pa_nil)) (pg_name (i := 7) sc_law.nd rfl (Or.inl rfl)) (pss_cons (ps_set (i := 8) sc_law.nd rfl (Or.inl rfl) (pe_callTy call_intB (by rfl) m_int boot_int (pa_cons (pe_cmpR op_eq (pe_own O__law_take hr (by rfl) pass0 (pa_cons (pv 1) (pa_cons pe_int pa_nil))) pe_int (nomark _)) pa_nil)))
      (pss_cons (ps_set (i := 9) sc_law.nd rfl (Or.inl rfl) (pe_ix ix_list (pe_lst (pa_cons pe_int (pa_cons pe_int (pa_cons pe_int (pa_cons pe_int (pa_cons pe_int (pa_cons pe_int (pa_cons pe_int (pa_cons pe_int pa_nil star_const) star_const) star_const) star_const) star_const) star_const) star_const) star_const)) (pe_own O__law_take hr (by rfl) pass0 (pa_cons (pv 1) (pa_cons pe_int pa_nil))) (fun _ _ => rfl)))
      (pss_cons (ps_if (pt_cmpR op_eq (pv 9) pe_int (nomark _)) (pss_one (ps_set (i := 10) sc_law.nd rfl (Or.inl rfl) (pe_own O__law_grown hr (by rfl) pass0 (pa_cons (pe_ix ix_list (pv 3) (pv 8) (fun _ _ => rfl)) (pa_cons (pe_ix ix_list (pv 4) (pv 8) (fun _ _ => rfl)) (pa_cons (pe_ix ix_list (pv 5) (pv 8) (fun _ _ => rfl)) (pa_cons (pv 1) pa_nil))))))) (pss_one (ps_set (i := 10) sc_law.nd rfl (Or.inl rfl) (pe_own O__law_led hr (by rfl) pass0 (pa_cons (pe_ix ix_list (pv 3) (pv 8) (fun _ _ => rfl)) (pa_cons (pe_ix ix_list (pv 4) (pv 8) (fun _ _ => rfl)) (pa_cons (pe_ix ix_list (pv 5) (pv 8) (fun _ _ => rfl)) (pa_cons (pv 9) (pa_cons (pv 1) pa_nil)))))))))
      (pss_cons (ps_if (PW.pt (pw_or (pt_cmpR op_isN (pv 10) pe_non (nomark _)) (pw_or1 (pt_not (pt_val (pe_own O__law_looked hr (by rfl) pass0 (pa_cons (pe_ix ix_list (pv 3) (pv 8) (fun _ _ => rfl)) (pa_cons (pe_ix ix_list (pv 4) (pv 8) (fun _ _ => rfl)) (pa_cons (pv 10) (pa_cons (pv 1) (pa_cons (pv 6) pa_nil))))))))))) (pss_one (ps_ret pe_bl)) pss_nil)
      (pss_one (ps_asg (pv 10) (pg_sub (pv 5) (pv 8) set_list))))))))
      (pss_cons (ps_for PassesOwn.never rfl (pi_range1 (by rfl) m_range (pa_cons pe_int pa_nil)) (pg_name (i := 7) sc_law.nd rfl (Or.inl rfl)) (pss_one (ps_if (pt_not (pt_val (pe_own O__law_all_again hr (by rfl) pass0 (pa_cons (pe_ix ix_list (pv 3) (pv 7) (fun _ _ => rfl)) (pa_cons (pe_ix ix_list (pv 4) (pv 7) (fun _ _ => rfl)) (pa_cons (pv 1) (pa_cons (pv 6) pa_nil))))))) (pss_one (ps_ret pe_bl)) pss_nil)))
      (pss_cons (ps_for PassesOwn.never rfl (pi_list (pv 6)) (pg_tup rfl (pgs_cons (pg_name (i := 11) sc_law.nd rfl (Or.inl rfl)) (pgs_cons (pg_name (i := 12) sc_law.nd rfl (Or.inl rfl)) pgs_nil))) (pss_one (ps_if (pt_not (pt_val (pe_own O__law_row hr (by rfl) pass0 (pa_cons (pv 11) (pa_cons (pv 12) pa_nil))))) (pss_one (ps_ret pe_bl)) pss_nil)))
      (pss_one (ps_ret pe_bl)))))))))))), ?_⟩
  refine ⟨_, rfl, a, ns, rfl, hS, h63, fun r c H1 S1 nr R1 => ?_⟩
  refine gname_go (seq_at (seq_to (fun σ H' => Rm H' r c 2 ∧ σ = [some (.ref a), some (.ref r), none, none, none, none, none, none, none, none, none, none, none]) (fun nx fin => ?_) ?_))
  · refine ⟨_, rfl, r, c, 16, 0, rfl, R1, ⟨by decide, by decide⟩, ⟨by decide, by decide⟩, fun v H2 v0 v1 s2 R2 => ⟨rfl, _, rfl, ite2 (fun c5 => ?_) (fun c5 => iteF (fin _ _ ⟨R2.mono (by decide), rfl⟩))⟩⟩
    exact ⟨_, rfl, r, c, 1000, 1, rfl, R2, ⟨by decide, by decide⟩, ⟨by decide, by decide⟩, fun v' H3 v0' v1' s3 R3 => ⟨v', rfl, v0', v1', fun H4 S4 => ⟨_, rfl, iteF (fin _ _ ⟨(R3.same S4).mono (by decide), rfl⟩)⟩⟩⟩
  rintro σ H2 ⟨R2, rfl⟩
  refine ⟨_, rfl, r, c, 2, rfl, R2, ⟨by decide, by decide⟩, fun t l pp D H5 K5 ht hD nD hl hc hpp R5 => ?_⟩
  refine ⟨_, rfl, t, _, _, _, rfl, rfl, SqT.of ht, rfl, _, rfl, t, _, _, _, rfl, rfl, SqT.of ht, rfl, ?_⟩
  intro p1 dx1 np1 ndx1 nxd1
  refine ⟨p1, dx1, l, pp, rfl, upd_same, fun L1 Y1 H6 U6 nL1 nY1 T1 => ⟨rfl, ?_⟩⟩
  obtain ⟨S6, nL1', nY1', nLp1, nYp1⟩ := tree_new (tr := ⟨[], fun _ => none, 0⟩) (l := []) (k := 0) np1 ndx1 U6 nL1 nY1
  refine ⟨_, rfl, t, _, _, _, rfl, rfl, SqT.of (S6 _ _ ht), rfl, _, rfl, t, _, _, _, rfl, rfl, SqT.of (S6 _ _ ht), rfl, ?_⟩
  intro p2 dx2 np2 ndx2 nxd2
  refine ⟨p2, dx2, l, pp, rfl, upd_same, fun L2 Y2 H7 U7 nL2 nY2 T2 => ⟨rfl, ?_⟩⟩
  obtain ⟨S7, nL2', nY2', nLp2, nYp2⟩ := tree_new (tr := ⟨[], fun _ => none, 0⟩) (l := []) (k := 0) np2 ndx2 U7 nL2 nY2
  have A5 : Alive [D, r, c] H5 := fun g hg => by
    rcases List.mem_cons.mp hg with rfl | hg
    · rw [hD]; exact fun z => by cases z
    rcases List.mem_cons.mp hg with rfl | hg
    · exact R5.al.1
    rw [List.mem_singleton.mp hg]
    exact R5.al.2.1
  have nd5 : [D, r, c].Nodup := by
    obtain ⟨_, _, kvs, cs, e1, e2⟩ := R5.al
    have n1 : D ≠ r := fun z => R2.al.1 (z ▸ nD)
    have n2 : D ≠ c := fun z => R2.al.2.1 (z ▸ nD)
    have n3 : r ≠ c := fun z => by rw [z, e2] at e1; cases e1
    exact List.nodup_cons.mpr ⟨notin_cons n1 (nin1 n2), List.nodup_cons.mpr ⟨nin1 n3, List.nodup_cons.mpr ⟨(fun z => by cases z), List.nodup_nil⟩⟩⟩
  obtain ⟨t1, t2, t3, t4⟩ := T1.al
  have A6 : Alive [Y1, L1, p1, D, r, c] H6 := ((A5.cons S6 t1).cons (Same.refl _) t2).cons (Same.refl _) t3
  have nd6 : [Y1, L1, p1, D, r, c].Nodup := List.nodup_cons.mpr ⟨notin_cons t4 (notin_cons nYp1 (A5.new nY1')), List.nodup_cons.mpr ⟨notin_cons nLp1 (A5.new nL1'), List.nodup_cons.mpr ⟨A5.new np1, nd5⟩⟩⟩
  obtain ⟨u1, u2, u3, u4⟩ := T2.al
  have A7 : Alive [Y2, L2, p2, Y1, L1, p1, D, r, c] H7 := ((A6.cons S7 u1).cons (Same.refl _) u2).cons (Same.refl _) u3
  have nd7 : [Y2, L2, p2, Y1, L1, p1, D, r, c].Nodup := List.nodup_cons.mpr ⟨notin_cons u4 (notin_cons nYp2 (A6.new nY2')), List.nodup_cons.mpr ⟨notin_cons nLp2 (A6.new nL2'), List.nodup_cons.mpr ⟨A6.new np2, nd6⟩⟩⟩
  have T1' := T1.same S7
  have R7 := (R5.same S6).same S7
  have ht7 := S7 _ _ (S6 _ _ ht)
  have hD7 := S7 _ _ (S6 _ _ hD)
  refine ⟨(by show 2 ≤ sizeLine; decide), fun TR n8 => ?_⟩
  have E8 := same_new n8 (.lst [.ref p1, .ref p2])
  have hTR : upd H7 TR (.lst [.ref p1, .ref p2]) TR = some (.lst [.ref p1, .ref p2]) := upd_same
  generalize upd H7 TR (.lst [.ref p1, .ref p2]) = H8 at E8 hTR
  have A8 := A7.cons E8 (x := TR) (by rw [hTR]; exact fun z => by cases z)
  have nd8 := List.nodup_cons.mpr ⟨A7.new n8, nd7⟩
  refine ⟨_, rfl, (by show 1 ≤ sizeLine; decide), fun SA n9 => ?_⟩
  have E9 := same_new n9 (.lst [.ref t])
  have hSA : upd H8 SA (.lst [.ref t]) SA = some (.lst [.ref t]) := upd_same
  generalize upd H8 SA (.lst [.ref t]) = H9 at E9 hSA
  have A9 := A8.cons E9 (x := SA) (by rw [hSA]; exact fun z => by cases z)
  have nd9 := List.nodup_cons.mpr ⟨A8.new n9, nd8⟩
  refine ⟨_, rfl, (by show 1 ≤ sizeLine; decide), fun SB n10 => ?_⟩
  have E10 := same_new n10 (.lst [.ref t])
  have hSB : upd H9 SB (.lst [.ref t]) SB = some (.lst [.ref t]) := upd_same
  generalize upd H9 SB (.lst [.ref t]) = H10 at E10 hSB
  have A10 := A9.cons E10 (x := SB) (by rw [hSB]; exact fun z => by cases z)
  have nd10 := List.nodup_cons.mpr ⟨A9.new n10, nd9⟩
  refine ⟨(by show 2 ≤ sizeLine; decide), fun RW n11 => ?_⟩
  have E11 := same_new n11 (.lst [.ref SA, .ref SB])
  have hRW : upd H10 RW (.lst [.ref SA, .ref SB]) RW = some (.lst [.ref SA, .ref SB]) := upd_same
  generalize upd H10 RW (.lst [.ref SA, .ref SB]) = H11 at E11 hRW
  have A11 := A10.cons E11 (x := RW) (by rw [hRW]; exact fun z => by cases z)
  have nd11 := List.nodup_cons.mpr ⟨A10.new n11, nd10⟩
  refine ⟨(by show 2 ≤ sizeLine; decide), fun NW n12 => ?_⟩
  have E12 := same_new n12 (.lst [.int 0, .int 0])
  have hNW : upd H11 NW (.lst [.int 0, .int 0]) NW = some (.lst [nV 0, nV 0]) := upd_same
  generalize upd H11 NW (.lst [.int 0, .int 0]) = H12 at E12 hNW
  have A12 := A11.cons E12 (x := NW) (by rw [hNW]; exact fun z => by cases z)
  have nd12 := List.nodup_cons.mpr ⟨A11.new n12, nd11⟩
  refine ⟨(by show 0 ≤ sizeLine; decide), fun h n13 => ?_⟩
  have E13 := same_new n13 (.lst [])
  have hh : upd H12 h (.lst []) h = some (.lst []) := upd_same
  generalize upd H12 h (.lst []) = H13 at E13 hh
  have nd := List.nodup_cons.mpr ⟨A12.new n13, nd12⟩
  have S813 := E8.trans (E9.trans (E10.trans (E11.trans (E12.trans E13))))
  obtain ⟨G, hG⟩ : ∃ G, G = [p1, L1, Y1, SA, p2, L2, Y2, SB, r, h, NW] := ⟨_, rfl⟩
  have gm : ∀ x, x ∈ [p1, L1, Y1, SA, p2, L2, Y2, SB, r, h, NW] → x ∈ G := fun x hx => by rw [hG]; exact hx
  have nGD : D ∉ G := by rw [hG]; exact nd_dis nd [12] [11, 10, 9, 4, 8, 7, 6, 3, 13, 0, 1] (by decide) [D] _ rfl rfl D (List.mem_singleton.mpr rfl)
  have nGc : c ∉ G := by rw [hG]; exact nd_dis nd [14] [11, 10, 9, 4, 8, 7, 6, 3, 13, 0, 1] (by decide) [c] _ rfl rfl c (List.mem_singleton.mpr rfl)
  have X1 : Cst G p1 L1 Y1 SA r c h := ⟨gm _ (by simp), gm _ (by simp), gm _ (by simp), gm _ (by simp), gm _ (by simp), gm _ (by simp), nGc, nd_ne nd (i := 9) (j := 13) rfl rfl (by decide), nd_ne nd (i := 0) (j := 10) rfl rfl (by decide), nd_ne nd (i := 0) (j := 4) rfl rfl (by decide)⟩
  have X2 : Cst G p2 L2 Y2 SB r c h := ⟨gm _ (by simp), gm _ (by simp), gm _ (by simp), gm _ (by simp), gm _ (by simp), gm _ (by simp), nGc, nd_ne nd (i := 6) (j := 13) rfl rfl (by decide), nd_ne nd (i := 0) (j := 7) rfl rfl (by decide), nd_ne nd (i := 0) (j := 3) rfl rfl (by decide)⟩
  have DS : Dst G p1 L1 Y1 SA p2 L2 Y2 SB r c h NW TR RW := ⟨X1, X2, nd_dis nd [8, 7, 6, 3, 1, 5, 2] [11, 10, 9, 4, 13, 0] (by decide) _ _ rfl rfl, nd_dis nd [11, 10, 9, 4, 1, 5, 2] [8, 7, 6, 3, 13, 0] (by decide) _ _ rfl rfl, fun x hx z => nd_dis nd [11, 10, 9, 4, 8, 7, 6, 3, 13, 14, 0, 5, 2] [1] (by decide) _ [NW] rfl rfl x hx (List.mem_singleton.mpr z), gm _ (by simp), fun g hg => by rw [hG] at hg; exact hg⟩
  have hY0 : YgOk ⟨[⟨l, none, [], pp, pp⟩], fun _ => none, 0⟩ := fun i j' s' e => by
    cases j' with
    | succ j' => cases e
    | zero => cases e; exact fun z => by cases z
  have nds : ∀ d ∈ [D], d ∉ G := fun d hd => by rw [List.mem_singleton.mp hd]; exact nGD
  have I0 : In55 G C p1 L1 Y1 SA p2 L2 Y2 SB r c h NW TR RW ⟨[⟨l, none, [], pp, pp⟩], fun _ => none, 0⟩ ⟨[⟨l, none, [], pp, pp⟩], fun _ => none, 0⟩ 402 0 H13 := ⟨⟨T1'.same S813, ⟨[D], lst1 ((E10.trans (E11.trans (E12.trans E13))) _ _ hSA) (S813 _ _ ht7) (S813 _ _ hD7) (nd_ne nd (i := 4) (j := 10) rfl rfl (by decide)) (nd_ne nd (i := 12) (j := 10) rfl rfl (by decide)) (nd_ne nd (i := 12) (j := 4) rfl rfl (by decide)), nds⟩, good1 hl hc hpp, hY0⟩, ⟨T2.same S813, ⟨[D], lst1 ((E11.trans (E12.trans E13)) _ _ hSB) (S813 _ _ ht7) (S813 _ _ hD7) (nd_ne nd (i := 3) (j := 7) rfl rfl (by decide)) (nd_ne nd (i := 12) (j := 7) rfl rfl (by decide)) (nd_ne nd (i := 12) (j := 3) rfl rfl (by decide)), nds⟩, good1 hl hc hpp, hY0⟩, R7.same S813, ⟨[], hh, Nat.le_refl _, (fun t ht => by cases ht)⟩, E13 _ _ hNW, (E9.trans (E10.trans (E11.trans (E12.trans E13)))) _ _ hTR, (E12.trans E13) _ _ hRW⟩
  clear hG
  refine ⟨_, rfl, r, c, 61, 402, rfl, I0.rm, ⟨by decide, by decide⟩, ⟨by decide, by decide⟩, fun kk H14 k0 k1 s14 R14 => ?_⟩
  have I14 := I0.take DS s14 R14
  refine ⟨_, rfl, by omega, by omega, ?_⟩
  refine for_range (fun k σ H' => ∃ (tr1 tr2 : Tr) (x1 x2 x3 x4 : Option V), In55 G C p1 L1 Y1 SA p2 L2 Y2 SB r c h NW TR RW tr1 tr2 (500 + 500 * k) (2 * k) H' ∧ (tr1.ss.length ≤ 1 + k ∧ tr2.ss.length ≤ 1 + k) ∧ σ = [some (.ref a), some (.ref r), some (.ref t), some (.ref TR), some (.ref RW), some (.ref NW), some (.ref h), x1, x2, x3, x4, none, none]) ⟨_, _, none, none, none, none, ⟨I14.b1, I14.b2, I14.rm.mono (by decide), I14.hv, I14.nw, I14.trs, I14.rws⟩, ⟨Nat.le_refl _, Nat.le_refl _⟩, rfl⟩ ?_ ?_
  · rintro k σ H' hk ⟨tr1, tr2, x1, x2, x3, x4, I, hkl, rfl⟩
    have hk' : k < 61 := by
      have : k < (kk : Int).toNat := hk
      omega
    rw [Int.zero_add]
    refine ⟨_, rfl, r, c, 4, _, rfl, I.rm, ⟨by omega, by omega⟩, ⟨by decide, by decide⟩, fun v H1 v0 v1 s1 R1 => ⟨rfl, _, rfl, ?_⟩⟩
    have hww : ∃ ww : Nat, (ww = 0 ∨ ww = 1) ∧ V.int (if (decide (V.int v = V.int 0)) = true then 1 else 0) = nV ww := by
      by_cases c0 : V.int v = V.int 0
      · exact ⟨1, .inr rfl, by rw [if_pos (decide_eq_true c0)]; rfl⟩
      · exact ⟨0, .inl rfl, by rw [if_neg (fun z => c0 (of_decide_eq_true z))]; rfl⟩
    obtain ⟨ww, hww, eww⟩ := hww
    show gName _ (V.int (if (decide (V.int v = V.int 0)) = true then 1 else 0)) _ _ _
    rw [eww]
    have I1 := I.take DS s1 R1
    refine ⟨(by show 8 ≤ sizeLine; decide), fun wl nwl => ?_⟩
    have E2 := same_new nwl (.lst [V.int 2, V.int 0, V.int 3, V.int 2, V.int 1, V.int 2, V.int 0, V.int 3])
    have hwl : upd H1 wl (.lst [V.int 2, V.int 0, V.int 3, V.int 2, V.int 1, V.int 2, V.int 0, V.int 3]) wl = some (.lst [V.int 2, V.int 0, V.int 3, V.int 2, V.int 1, V.int 2, V.int 0, V.int 3]) := upd_same
    have nwr : wl ≠ r := fun z => R1.al.1 (z ▸ nwl)
    generalize upd H1 wl (.lst [V.int 2, V.int 0, V.int 3, V.int 2, V.int 1, V.int 2, V.int 0, V.int 3]) = H2' at E2 hwl
    have I2 := I1.same E2
    refine ⟨_, rfl, r, c, 8, _, rfl, I2.rm, ⟨by omega, by omega⟩, ⟨by decide, by decide⟩, fun u H3 u0 u1 s3 R3 => ?_⟩
    have I3 := I2.take DS s3 R3
    have hway : ∃ kw : Int, atI [V.int 2, V.int 0, V.int 3, V.int 2, V.int 1, V.int 2, V.int 0, V.int 3] u = some (V.int kw) ∧ (kw = 2 ∨ (kw = 0 ∨ kw = 1 ∨ kw = 3)) := by
      obtain ⟨cu, rfl⟩ : ∃ i : Nat, u = (i : Int) := ⟨_, (Int.toNat_of_nonneg u0).symm⟩
      have hcs : cu = 0 ∨ cu = 1 ∨ cu = 2 ∨ cu = 3 ∨ cu = 4 ∨ cu = 5 ∨ cu = 6 ∨ cu = 7 := by omega
      rcases hcs with rfl | rfl | rfl | rfl | rfl | rfl | rfl | rfl
      · exact ⟨2, rfl, .inl rfl⟩
      · exact ⟨0, rfl, .inr (.inl rfl)⟩
      · exact ⟨3, rfl, .inr (.inr (.inr rfl))⟩
      · exact ⟨2, rfl, .inl rfl⟩
      · exact ⟨1, rfl, .inr (.inr (.inl rfl))⟩
      · exact ⟨2, rfl, .inl rfl⟩
      · exact ⟨0, rfl, .inr (.inl rfl)⟩
      · exact ⟨3, rfl, .inr (.inr (.inr rfl))⟩
    obtain ⟨kw, hkw, hk3⟩ := hway
    refine ⟨wl, _, _, _, rfl, rfl, SqL.of (s3 _ _ nwr hwl), hkw, ?_⟩
    have AL3 := I3.al DS
    obtain ⟨p, L, Y, S, tr, X, B3, hl3, hat1, hat2, hat3, nN, nT, nR, back⟩ := I3.pick DS hww (1 + k) hkl
    have nh5 : h ∉ [p, L, Y, S, r] := by
      obtain ⟨dx, hp⟩ := B3.tree.at_
      obtain ⟨kvs, hY, _⟩ := B3.tree.yg
      obtain ⟨vs, hhv, _⟩ := I3.hv.len
      exact notin_cons (fun z => by rw [← z, hhv] at hp; cases hp) (notin_cons X.nhL (notin_cons (fun z => by rw [← z, hhv] at hY; cases hY) (notin_cons X.nhS (nin1 (Ne.symm (held_r I3.hv I3.rm))))))
    have sub5 : ∀ x ∈ [p, L, Y, S, r], x ∈ G := fun x hx => sub6 X.gp X.gL X.gY X.gS X.gr X.gh (in6 (l := [p, L, Y, S, r]) (fun y hy => by
      simp only [List.mem_cons, List.not_mem_nil, or_false] at hy
      rcases hy with h | h | h | h | h
      · exact .inl h
      · exact .inr (.inl h)
      · exact .inr (.inr (.inl h))
      · exact .inr (.inr (.inr (.inl h)))
      · exact .inr (.inr (.inr (.inr (.inl h))))) hx)
    have m56 : ∀ x, x ∈ [p, L, Y, S, r] → x ∈ [p, L, Y, S, r, h] := fun x hx => by
      simp only [List.mem_cons, List.not_mem_nil, or_false] at hx
      rcases hx with rfl | rfl | rfl | rfl | rfl <;> simp
    have m25 : ∀ x, x ∈ [p, r] → x ∈ [p, L, Y, S, r] := fun x hx => by
      simp only [List.mem_cons, List.not_mem_nil, or_false] at hx
      rcases hx with rfl | rfl <;> simp
    have m26 : ∀ x, x ∈ [r, h] → x ∈ [p, L, Y, S, r, h] := fun x hx => by
      simp only [List.mem_cons, List.not_mem_nil, or_false] at hx
      rcases hx with rfl | rfl <;> simp
    refine gname_go (seq_at (seq_to (fun σ H4 => ∃ (tr' : Tr), KpA [p, L, Y, S, r, h] H3 H4 ∧ BothG G C p L Y S tr' H4 ∧ tr'.ss.length ≤ 1 + k + 1 ∧ Rm H4 r c (500 + 500 * k + 450) ∧ HeldV G H4 h (2 * k) ∧ σ = [some (.ref a), some (.ref r), some (.ref t), some (.ref TR), some (.ref RW), some (.ref NW), some (.ref h), some (nV k), some (nV ww), some (.int kw), some (nV tr'.pr), none, none]) (fun nx fin => ?_) ?_))
    · rcases hk3 with rfl | hk2
      · refine ⟨_, rfl, rfl, _, rfl, iteDT rfl ?_⟩
        refine ⟨_, rfl, _, rfl, TR, _, _, _, rfl, rfl, SqL.of I3.trs, hat1, _, rfl, _, rfl, RW, _, _, _, rfl, rfl, SqL.of I3.rws, hat2, _, rfl, _, rfl, NW, _, _, _, rfl, rfl, SqL.of I3.nw, hat3, _, rfl, G, p, L, Y, S, r, c, h, tr, _, rfl, X, B3, AL3, I3.rm, ⟨by omega, by omega⟩, by omega, fun m xs ah bh H4 K4 B4 R4 => ?_⟩
        have eg : (tr.grown m xs ah bh).ss.length = tr.ss.length + 1 := by
          show (tr.ss ++ [_]).length = _
          rw [List.length_append]
          rfl
        exact fin _ _ ⟨tr.grown m xs ah bh, K4.mono m56, B4, by omega, R4.mono (by omega), I3.hv.kp K4.1 sub5 nh5, rfl⟩
      · refine ⟨_, rfl, rfl, _, rfl, iteDF (fun z => by have := V.int.inj z; omega) ?_⟩
        refine ⟨_, rfl, _, rfl, TR, _, _, _, rfl, rfl, SqL.of I3.trs, hat1, _, rfl, _, rfl, RW, _, _, _, rfl, rfl, SqL.of I3.rws, hat2, _, rfl, _, rfl, NW, _, _, _, rfl, rfl, SqL.of I3.nw, hat3, _, rfl, _, rfl, G, p, L, Y, S, r, c, h, tr, kw, _, rfl, X, B3, I3.rm, ⟨by omega, by omega⟩, hk2, by omega, fun j H4 K4 B4 R4 => ?_⟩
        have K4' := K4.mono m25
        exact fin _ _ ⟨tr.led j, K4'.mono m56, B4, by show tr.ss.length ≤ _; omega, R4.mono (by omega), I3.hv.kp K4'.1 sub5 nh5, rfl⟩
    · rintro σ H4 ⟨tr', K4, B4, hl4, R4, V4, rfl⟩
      refine ⟨_, rfl, rfl, _, rfl, iteDF (fun z => by cases z) ?_⟩
      refine ⟨_, rfl, _, rfl, TR, _, _, _, rfl, rfl, SqL.of (K4.1.1 _ _ nT I3.trs), hat1, _, rfl, _, rfl, RW, _, _, _, rfl, rfl, SqL.of (K4.1.1 _ _ nR I3.rws), hat2, _, rfl, _, rfl, _, rfl, G, p, L, Y, S, r, c, h, tr', _, _, rfl, X, B4, AL3.kp K4, R4, ⟨by omega, by omega⟩, V4, by omega, by omega, fun H5 K5 V5 R5 => ⟨_, rfl, iteF ?_⟩⟩
      have B5 := look_both B4 X R4 V4 K5.1
      have K45 := K4.trans (K5.mono m26)
      refine ⟨_, rfl, _, rfl, _, rfl, NW, _, _, ww, rfl, rfl, K45.1.1 _ _ nN I3.nw, (by rcases hww with rfl | rfl <;> rfl), ?_⟩
      obtain ⟨tr1', tr2', I', l1, l2⟩ := back tr' _ _ H5 _ _ K45 B5 hl4 R5 V5 rfl rfl
      exact ⟨tr1', tr2', _, _, _, _, I'.mono (by omega) (by omega), ⟨by omega, by omega⟩, rfl⟩
  · rintro σ H' ⟨tr1, tr2, x1, x2, x3, x4, I, hkl, rfl⟩
    have hkk : (kk : Int).toNat ≤ 60 := by omega
    have I' := I.mono (n' := 50000) (m' := 200) (by omega) (by omega)
    have hl61 : tr1.ss.length ≤ 61 ∧ tr2.ss.length ≤ 61 := by omega
    refine ⟨_, rfl, by decide, by decide, ?_⟩
    refine for_range (fun j σ H'' => ∃ (y : Option V), Rm H'' r c (50000 + 300 * j) ∧ HeldV G H'' h (200 + 200 * j) ∧ (j = 0 → BothG G C p1 L1 Y1 SA tr1 H'') ∧ (j ≤ 1 → BothG G C p2 L2 Y2 SB tr2 H'') ∧ Alive G H'' ∧ H'' TR = some (.lst [.ref p1, .ref p2]) ∧ H'' RW = some (.lst [.ref SA, .ref SB]) ∧ σ = [some (.ref a), some (.ref r), some (.ref t), some (.ref TR), some (.ref RW), some (.ref NW), some (.ref h), y, x2, x3, x4, none, none]) ⟨_, by simpa using I'.rm, I'.hv, (fun _ => I'.b1), (fun _ => I'.b2), I'.al DS, I'.trs, I'.rws, rfl⟩ ?_ ?_
    · rintro j σ H1 hj ⟨y, R1, V1, B1, B2, AL1, hT1, hR1, rfl⟩
      have hj2 : j < 2 := by
        have : j < ((2 : Int)).toNat := hj
        omega
      rw [Int.zero_add]
      have n12' := DS.n12
      have m36 : ∀ x, x ∈ [p1, r, h] → x ∈ [p1, L1, Y1, SA, r, h] := fun x hx => by
        simp only [List.mem_cons, List.not_mem_nil, or_false] at hx
        rcases hx with rfl | rfl | rfl <;> simp
      have m37 : ∀ x, x ∈ [p2, r, h] → x ∈ [p2, L2, Y2, SB, r, h] := fun x hx => by
        simp only [List.mem_cons, List.not_mem_nil, or_false] at hx
        rcases hx with rfl | rfl | rfl <;> simp
      have hj01 : j = 0 ∨ j = 1 := by omega
      rcases hj01 with rfl | rfl
      · refine ⟨_, rfl, _, rfl, TR, _, _, _, rfl, rfl, SqL.of hT1, (rfl : atI [V.ref p1, V.ref p2] ((0 : Nat) : Int) = some (.ref p1)), _, rfl, _, rfl, RW, _, _, _, rfl, rfl, SqL.of hR1, (rfl : atI [V.ref SA, V.ref SB] ((0 : Nat) : Int) = some (.ref SA)), _, rfl, _, rfl, G, p1, L1, Y1, SA, r, c, h, tr1, _, _, rfl, DS.c1, B1 rfl, AL1, R1, ⟨by omega, by omega⟩, V1, by omega, by omega, fun H2 K2 V2 R2 => ⟨_, rfl, iteF ?_⟩⟩
        have K2' := K2.mono m36
        exact ⟨_, R2.mono (by omega), V2.mono (by omega), (fun z => by omega), (fun _ => (B2 (by omega)).kp K2'.1 (fun x hx => sub6 DS.c1.gp DS.c1.gL DS.c1.gY DS.c1.gS DS.c1.gr DS.c1.gh hx) (n12' p2 (by simp)) (n12' L2 (by simp)) (n12' Y2 (by simp)) (n12' SB (by simp))), AL1.kp K2, K2'.1.1 _ _ (n12' TR (by simp)) hT1, K2'.1.1 _ _ (n12' RW (by simp)) hR1, rfl⟩
      · refine ⟨_, rfl, _, rfl, TR, _, _, _, rfl, rfl, SqL.of hT1, (rfl : atI [V.ref p1, V.ref p2] ((1 : Nat) : Int) = some (.ref p2)), _, rfl, _, rfl, RW, _, _, _, rfl, rfl, SqL.of hR1, (rfl : atI [V.ref SA, V.ref SB] ((1 : Nat) : Int) = some (.ref SB)), _, rfl, _, rfl, G, p2, L2, Y2, SB, r, c, h, tr2, _, _, rfl, DS.c2, B2 (Nat.le_refl _), AL1, R1, ⟨by omega, by omega⟩, V1, by omega, by omega, fun H2 K2 V2 R2 => ⟨_, rfl, iteF ?_⟩⟩
        have K2' := K2.mono m37
        have n21' := DS.n21
        exact ⟨_, R2.mono (by omega), V2.mono (by omega), (fun z => by omega), (fun z => by omega), AL1.kp K2, K2'.1.1 _ _ (n21' TR (by simp)) hT1, K2'.1.1 _ _ (n21' RW (by simp)) hR1, rfl⟩
    · rintro σ H2 ⟨y, R2, V2, _, _, _, _, _, rfl⟩
      obtain ⟨ts, hh2, htl, hts⟩ := V2
      refine ⟨_, rfl, h, rfl, ⟨_, SqL.of hh2⟩, ?_⟩
      refine for_list (xs := ts.map V.ref) (fun i σ H' => H2 = H' ∧ ∃ (y1 y2 : Option V), σ = [some (.ref a), some (.ref r), some (.ref t), some (.ref TR), some (.ref RW), some (.ref NW), some (.ref h), y, x2, x3, x4, y1, y2]) ⟨rfl, none, none, rfl⟩ (fun i σ H' _ z => z.1 ▸ SqL.of hh2) ?_ ?_
      · rintro i v σ H' hv ⟨rfl, y1, y2, rfl⟩
        obtain ⟨t', ht', rfl⟩ := row_at hv
        obtain ⟨F1, F2, xs, g1, g2, g3, _, _⟩ := hts t' (List.mem_of_getElem? ht')
        refine ⟨t', _, rfl, SqT.of g1, rfl, _, _, rfl, _, _, rfl, rfl, ?_⟩
        exact ⟨_, rfl, _, rfl, F1, F2, xs, rfl, g2, g3, _, rfl, iteF ⟨rfl, _, _, rfl⟩⟩
      · rintro σ H' ⟨rfl, y1, y2, rfl⟩
        exact q _
end
end My

set_option Elab.async false
set_option linter.all false
set_option maxRecDepth 100000
set_option maxHeartbeats 4000000
namespace My
open PySem L2

theorem len0 {α : Type} {us : List α} (h : us.length = 0) : us = [] := List.length_eq_zero_iff.mp h
theorem len1 {α : Type} {us : List α} (h : us.length = 1) : ∃ a, us = [a] := List.length_eq_one_iff.mp h
theorem len2 {α : Type} {us : List α} (h : us.length = 2) : ∃ a b, us = [a, b] := by
  cases us with
  | nil => cases h
  | cons a r => obtain ⟨b, rfl⟩ := len1 (Nat.succ.inj h); exact ⟨a, b, rfl⟩
theorem len3 {α : Type} {us : List α} (h : us.length = 3) : ∃ a b c, us = [a, b, c] := by
  cases us with
  | nil => cases h
  | cons a r => obtain ⟨b, c, rfl⟩ := len2 (Nat.succ.inj h); exact ⟨a, b, c, rfl⟩
theorem len4 {α : Type} {us : List α} (h : us.length = 4) : ∃ a b c d, us = [a, b, c, d] := by
  cases us with
  | nil => cases h
  | cons a r => obtain ⟨b, c, d, rfl⟩ := len3 (Nat.succ.inj h); exact ⟨a, b, c, d, rfl⟩
theorem len5 {α : Type} {us : List α} (h : us.length = 5) : ∃ a b c d e, us = [a, b, c, d, e] := by
  cases us with
  | nil => cases h
  | cons a r => obtain ⟨b, c, d, e, rfl⟩ := len4 (Nat.succ.inj h); exact ⟨a, b, c, d, e, rfl⟩

theorem all_mk {l : PySem.W.OpenLaw} {w : World} {K : PySem.W.Frag} {h : Heap} {mg : Str → Option Value} {fa : Addr} (X : K.In h) (G : h.Ns mainGlobals mg) (hfa : mg "law" = some (.ref fa))
    {f_is_whole : Addr} {od_is_whole an_is_whole : Option Addr} {sl_is_whole : Array (Option Value)} {oc_is_whole kV_is_whole dc_is_whole pm_is_whole cd_is_whole ct_is_whole : Value}
    (a_is_whole : PySem.W.nsIn K mainGlobals "is_whole" = some (some (.ref f_is_whole))) (l_is_whole : K.lookup f_is_whole = some ⟨oc_is_whole, od_is_whole, .func (PySem.W.fnOf "is_whole" "is_whole" (defArgs s_is_whole) (defBody s_is_whole) (defScope s_is_whole) .none kV_is_whole dc_is_whole pm_is_whole an_is_whole cd_is_whole ct_is_whole), sl_is_whole⟩) (c_is_whole : PySem.W.codeIn K cd_is_whole "is_whole" = true) (k_is_whole : PySem.W.keepIn K (.ref f_is_whole) = true)
    {f_is_place : Addr} {od_is_place an_is_place : Option Addr} {sl_is_place : Array (Option Value)} {oc_is_place kV_is_place dc_is_place pm_is_place cd_is_place ct_is_place : Value}
    (a_is_place : PySem.W.nsIn K mainGlobals "is_place" = some (some (.ref f_is_place))) (l_is_place : K.lookup f_is_place = some ⟨oc_is_place, od_is_place, .func (PySem.W.fnOf "is_place" "is_place" (defArgs s_is_place) (defBody s_is_place) (defScope s_is_place) .none kV_is_place dc_is_place pm_is_place an_is_place cd_is_place ct_is_place), sl_is_place⟩) (c_is_place : PySem.W.codeIn K cd_is_place "is_place" = true) (k_is_place : PySem.W.keepIn K (.ref f_is_place) = true)
    {f_fits : Addr} {od_fits an_fits : Option Addr} {sl_fits : Array (Option Value)} {oc_fits kV_fits dc_fits pm_fits cd_fits ct_fits : Value}
    (a_fits : PySem.W.nsIn K mainGlobals "fits" = some (some (.ref f_fits))) (l_fits : K.lookup f_fits = some ⟨oc_fits, od_fits, .func (PySem.W.fnOf "fits" "fits" (defArgs s_fits) (defBody s_fits) (defScope s_fits) .none kV_fits dc_fits pm_fits an_fits cd_fits ct_fits), sl_fits⟩) (c_fits : PySem.W.codeIn K cd_fits "fits" = true) (k_fits : PySem.W.keepIn K (.ref f_fits) = true)
    {f_spliced : Addr} {od_spliced an_spliced : Option Addr} {sl_spliced : Array (Option Value)} {oc_spliced kV_spliced dc_spliced pm_spliced cd_spliced ct_spliced : Value}
    (a_spliced : PySem.W.nsIn K mainGlobals "spliced" = some (some (.ref f_spliced))) (l_spliced : K.lookup f_spliced = some ⟨oc_spliced, od_spliced, .func (PySem.W.fnOf "spliced" "spliced" (defArgs s_spliced) (defBody s_spliced) (defScope s_spliced) .none kV_spliced dc_spliced pm_spliced an_spliced cd_spliced ct_spliced), sl_spliced⟩) (c_spliced : PySem.W.codeIn K cd_spliced "spliced" = true) (k_spliced : PySem.W.keepIn K (.ref f_spliced) = true)
    {f_turned : Addr} {od_turned an_turned : Option Addr} {sl_turned : Array (Option Value)} {oc_turned kV_turned dc_turned pm_turned cd_turned ct_turned : Value}
    (a_turned : PySem.W.nsIn K mainGlobals "turned" = some (some (.ref f_turned))) (l_turned : K.lookup f_turned = some ⟨oc_turned, od_turned, .func (PySem.W.fnOf "turned" "turned" (defArgs s_turned) (defBody s_turned) (defScope s_turned) .none kV_turned dc_turned pm_turned an_turned cd_turned ct_turned), sl_turned⟩) (c_turned : PySem.W.codeIn K cd_turned "turned" = true) (k_turned : PySem.W.keepIn K (.ref f_turned) = true)
    {f_all_spliced : Addr} {od_all_spliced an_all_spliced : Option Addr} {sl_all_spliced : Array (Option Value)} {oc_all_spliced kV_all_spliced dc_all_spliced pm_all_spliced cd_all_spliced ct_all_spliced : Value}
    (a_all_spliced : PySem.W.nsIn K mainGlobals "all_spliced" = some (some (.ref f_all_spliced))) (l_all_spliced : K.lookup f_all_spliced = some ⟨oc_all_spliced, od_all_spliced, .func (PySem.W.fnOf "all_spliced" "all_spliced" (defArgs s_all_spliced) (defBody s_all_spliced) (defScope s_all_spliced) .none kV_all_spliced dc_all_spliced pm_all_spliced an_all_spliced cd_all_spliced ct_all_spliced), sl_all_spliced⟩) (c_all_spliced : PySem.W.codeIn K cd_all_spliced "all_spliced" = true) (k_all_spliced : PySem.W.keepIn K (.ref f_all_spliced) = true)
    {f_way_back : Addr} {od_way_back an_way_back : Option Addr} {sl_way_back : Array (Option Value)} {oc_way_back kV_way_back dc_way_back pm_way_back cd_way_back ct_way_back : Value}
    (a_way_back : PySem.W.nsIn K mainGlobals "way_back" = some (some (.ref f_way_back))) (l_way_back : K.lookup f_way_back = some ⟨oc_way_back, od_way_back, .func (PySem.W.fnOf "way_back" "way_back" (defArgs s_way_back) (defBody s_way_back) (defScope s_way_back) .none kV_way_back dc_way_back pm_way_back an_way_back cd_way_back ct_way_back), sl_way_back⟩) (c_way_back : PySem.W.codeIn K cd_way_back "way_back" = true) (k_way_back : PySem.W.keepIn K (.ref f_way_back) = true)
    {f__law_cell_at : Addr} {od__law_cell_at an__law_cell_at : Option Addr} {sl__law_cell_at : Array (Option Value)} {oc__law_cell_at kV__law_cell_at dc__law_cell_at pm__law_cell_at cd__law_cell_at ct__law_cell_at : Value}
    (a__law_cell_at : PySem.W.nsIn K mainGlobals "_law_cell_at" = some (some (.ref f__law_cell_at))) (l__law_cell_at : K.lookup f__law_cell_at = some ⟨oc__law_cell_at, od__law_cell_at, .func (PySem.W.fnOf "_law_cell_at" "_law_cell_at" (defArgs s__law_cell_at) (defBody s__law_cell_at) (defScope s__law_cell_at) .none kV__law_cell_at dc__law_cell_at pm__law_cell_at an__law_cell_at cd__law_cell_at ct__law_cell_at), sl__law_cell_at⟩) (c__law_cell_at : PySem.W.codeIn K cd__law_cell_at "_law_cell_at" = true) (k__law_cell_at : PySem.W.keepIn K (.ref f__law_cell_at) = true)
    {f__law_room : Addr} {od__law_room an__law_room : Option Addr} {sl__law_room : Array (Option Value)} {oc__law_room kV__law_room dc__law_room pm__law_room cd__law_room ct__law_room : Value}
    (a__law_room : PySem.W.nsIn K mainGlobals "_law_room" = some (some (.ref f__law_room))) (l__law_room : K.lookup f__law_room = some ⟨oc__law_room, od__law_room, .func (PySem.W.fnOf "_law_room" "_law_room" (defArgs s__law_room) (defBody s__law_room) (defScope s__law_room) .none kV__law_room dc__law_room pm__law_room an__law_room cd__law_room ct__law_room), sl__law_room⟩) (c__law_room : PySem.W.codeIn K cd__law_room "_law_room" = true) (k__law_room : PySem.W.keepIn K (.ref f__law_room) = true)
    {f__law_take : Addr} {od__law_take an__law_take : Option Addr} {sl__law_take : Array (Option Value)} {oc__law_take kV__law_take dc__law_take pm__law_take cd__law_take ct__law_take : Value}
    (a__law_take : PySem.W.nsIn K mainGlobals "_law_take" = some (some (.ref f__law_take))) (l__law_take : K.lookup f__law_take = some ⟨oc__law_take, od__law_take, .func (PySem.W.fnOf "_law_take" "_law_take" (defArgs s__law_take) (defBody s__law_take) (defScope s__law_take) .none kV__law_take dc__law_take pm__law_take an__law_take cd__law_take ct__law_take), sl__law_take⟩) (c__law_take : PySem.W.codeIn K cd__law_take "_law_take" = true) (k__law_take : PySem.W.keepIn K (.ref f__law_take) = true)
    {f__law_same : Addr} {od__law_same an__law_same : Option Addr} {sl__law_same : Array (Option Value)} {oc__law_same kV__law_same dc__law_same pm__law_same cd__law_same ct__law_same : Value}
    (a__law_same : PySem.W.nsIn K mainGlobals "_law_same" = some (some (.ref f__law_same))) (l__law_same : K.lookup f__law_same = some ⟨oc__law_same, od__law_same, .func (PySem.W.fnOf "_law_same" "_law_same" (defArgs s__law_same) (defBody s__law_same) (defScope s__law_same) .none kV__law_same dc__law_same pm__law_same an__law_same cd__law_same ct__law_same), sl__law_same⟩) (c__law_same : PySem.W.codeIn K cd__law_same "_law_same" = true) (k__law_same : PySem.W.keepIn K (.ref f__law_same) = true)
    {f__law_signs : Addr} {od__law_signs an__law_signs : Option Addr} {sl__law_signs : Array (Option Value)} {oc__law_signs kV__law_signs dc__law_signs pm__law_signs cd__law_signs ct__law_signs : Value}
    (a__law_signs : PySem.W.nsIn K mainGlobals "_law_signs" = some (some (.ref f__law_signs))) (l__law_signs : K.lookup f__law_signs = some ⟨oc__law_signs, od__law_signs, .func (PySem.W.fnOf "_law_signs" "_law_signs" (defArgs s__law_signs) (defBody s__law_signs) (defScope s__law_signs) .none kV__law_signs dc__law_signs pm__law_signs an__law_signs cd__law_signs ct__law_signs), sl__law_signs⟩) (c__law_signs : PySem.W.codeIn K cd__law_signs "_law_signs" = true) (k__law_signs : PySem.W.keepIn K (.ref f__law_signs) = true)
    {f__law_state : Addr} {od__law_state an__law_state : Option Addr} {sl__law_state : Array (Option Value)} {oc__law_state kV__law_state dc__law_state pm__law_state cd__law_state ct__law_state : Value}
    (a__law_state : PySem.W.nsIn K mainGlobals "_law_state" = some (some (.ref f__law_state))) (l__law_state : K.lookup f__law_state = some ⟨oc__law_state, od__law_state, .func (PySem.W.fnOf "_law_state" "_law_state" (defArgs s__law_state) (defBody s__law_state) (defScope s__law_state) .none kV__law_state dc__law_state pm__law_state an__law_state cd__law_state ct__law_state), sl__law_state⟩) (c__law_state : PySem.W.codeIn K cd__law_state "_law_state" = true) (k__law_state : PySem.W.keepIn K (.ref f__law_state) = true)
    {f__law_first : Addr} {od__law_first an__law_first : Option Addr} {sl__law_first : Array (Option Value)} {oc__law_first kV__law_first dc__law_first pm__law_first cd__law_first ct__law_first : Value}
    (a__law_first : PySem.W.nsIn K mainGlobals "_law_first" = some (some (.ref f__law_first))) (l__law_first : K.lookup f__law_first = some ⟨oc__law_first, od__law_first, .func (PySem.W.fnOf "_law_first" "_law_first" (defArgs s__law_first) (defBody s__law_first) (defScope s__law_first) .none kV__law_first dc__law_first pm__law_first an__law_first cd__law_first ct__law_first), sl__law_first⟩) (c__law_first : PySem.W.codeIn K cd__law_first "_law_first" = true) (k__law_first : PySem.W.keepIn K (.ref f__law_first) = true)
    {f__law_row : Addr} {od__law_row an__law_row : Option Addr} {sl__law_row : Array (Option Value)} {oc__law_row kV__law_row dc__law_row pm__law_row cd__law_row ct__law_row : Value}
    (a__law_row : PySem.W.nsIn K mainGlobals "_law_row" = some (some (.ref f__law_row))) (l__law_row : K.lookup f__law_row = some ⟨oc__law_row, od__law_row, .func (PySem.W.fnOf "_law_row" "_law_row" (defArgs s__law_row) (defBody s__law_row) (defScope s__law_row) .none kV__law_row dc__law_row pm__law_row an__law_row cd__law_row ct__law_row), sl__law_row⟩) (c__law_row : PySem.W.codeIn K cd__law_row "_law_row" = true) (k__law_row : PySem.W.keepIn K (.ref f__law_row) = true)
    {f__law_shows : Addr} {od__law_shows an__law_shows : Option Addr} {sl__law_shows : Array (Option Value)} {oc__law_shows kV__law_shows dc__law_shows pm__law_shows cd__law_shows ct__law_shows : Value}
    (a__law_shows : PySem.W.nsIn K mainGlobals "_law_shows" = some (some (.ref f__law_shows))) (l__law_shows : K.lookup f__law_shows = some ⟨oc__law_shows, od__law_shows, .func (PySem.W.fnOf "_law_shows" "_law_shows" (defArgs s__law_shows) (defBody s__law_shows) (defScope s__law_shows) .none kV__law_shows dc__law_shows pm__law_shows an__law_shows cd__law_shows ct__law_shows), sl__law_shows⟩) (c__law_shows : PySem.W.codeIn K cd__law_shows "_law_shows" = true) (k__law_shows : PySem.W.keepIn K (.ref f__law_shows) = true)
    {f__law_newest : Addr} {od__law_newest an__law_newest : Option Addr} {sl__law_newest : Array (Option Value)} {oc__law_newest kV__law_newest dc__law_newest pm__law_newest cd__law_newest ct__law_newest : Value}
    (a__law_newest : PySem.W.nsIn K mainGlobals "_law_newest" = some (some (.ref f__law_newest))) (l__law_newest : K.lookup f__law_newest = some ⟨oc__law_newest, od__law_newest, .func (PySem.W.fnOf "_law_newest" "_law_newest" (defArgs s__law_newest) (defBody s__law_newest) (defScope s__law_newest) .none kV__law_newest dc__law_newest pm__law_newest an__law_newest cd__law_newest ct__law_newest), sl__law_newest⟩) (c__law_newest : PySem.W.codeIn K cd__law_newest "_law_newest" = true) (k__law_newest : PySem.W.keepIn K (.ref f__law_newest) = true)
    {f__law_no_lead : Addr} {od__law_no_lead an__law_no_lead : Option Addr} {sl__law_no_lead : Array (Option Value)} {oc__law_no_lead kV__law_no_lead dc__law_no_lead pm__law_no_lead cd__law_no_lead ct__law_no_lead : Value}
    (a__law_no_lead : PySem.W.nsIn K mainGlobals "_law_no_lead" = some (some (.ref f__law_no_lead))) (l__law_no_lead : K.lookup f__law_no_lead = some ⟨oc__law_no_lead, od__law_no_lead, .func (PySem.W.fnOf "_law_no_lead" "_law_no_lead" (defArgs s__law_no_lead) (defBody s__law_no_lead) (defScope s__law_no_lead) .none kV__law_no_lead dc__law_no_lead pm__law_no_lead an__law_no_lead cd__law_no_lead ct__law_no_lead), sl__law_no_lead⟩) (c__law_no_lead : PySem.W.codeIn K cd__law_no_lead "_law_no_lead" = true) (k__law_no_lead : PySem.W.keepIn K (.ref f__law_no_lead) = true)
    {f__law_led : Addr} {od__law_led an__law_led : Option Addr} {sl__law_led : Array (Option Value)} {oc__law_led kV__law_led dc__law_led pm__law_led cd__law_led ct__law_led : Value}
    (a__law_led : PySem.W.nsIn K mainGlobals "_law_led" = some (some (.ref f__law_led))) (l__law_led : K.lookup f__law_led = some ⟨oc__law_led, od__law_led, .func (PySem.W.fnOf "_law_led" "_law_led" (defArgs s__law_led) (defBody s__law_led) (defScope s__law_led) .none kV__law_led dc__law_led pm__law_led an__law_led cd__law_led ct__law_led), sl__law_led⟩) (c__law_led : PySem.W.codeIn K cd__law_led "_law_led" = true) (k__law_led : PySem.W.keepIn K (.ref f__law_led) = true)
    {f__law_grown : Addr} {od__law_grown an__law_grown : Option Addr} {sl__law_grown : Array (Option Value)} {oc__law_grown kV__law_grown dc__law_grown pm__law_grown cd__law_grown ct__law_grown : Value}
    (a__law_grown : PySem.W.nsIn K mainGlobals "_law_grown" = some (some (.ref f__law_grown))) (l__law_grown : K.lookup f__law_grown = some ⟨oc__law_grown, od__law_grown, .func (PySem.W.fnOf "_law_grown" "_law_grown" (defArgs s__law_grown) (defBody s__law_grown) (defScope s__law_grown) .none kV__law_grown dc__law_grown pm__law_grown an__law_grown cd__law_grown ct__law_grown), sl__law_grown⟩) (c__law_grown : PySem.W.codeIn K cd__law_grown "_law_grown" = true) (k__law_grown : PySem.W.keepIn K (.ref f__law_grown) = true)
    {f__law_way : Addr} {od__law_way an__law_way : Option Addr} {sl__law_way : Array (Option Value)} {oc__law_way kV__law_way dc__law_way pm__law_way cd__law_way ct__law_way : Value}
    (a__law_way : PySem.W.nsIn K mainGlobals "_law_way" = some (some (.ref f__law_way))) (l__law_way : K.lookup f__law_way = some ⟨oc__law_way, od__law_way, .func (PySem.W.fnOf "_law_way" "_law_way" (defArgs s__law_way) (defBody s__law_way) (defScope s__law_way) .none kV__law_way dc__law_way pm__law_way an__law_way cd__law_way ct__law_way), sl__law_way⟩) (c__law_way : PySem.W.codeIn K cd__law_way "_law_way" = true) (k__law_way : PySem.W.keepIn K (.ref f__law_way) = true)
    {f__law_looked : Addr} {od__law_looked an__law_looked : Option Addr} {sl__law_looked : Array (Option Value)} {oc__law_looked kV__law_looked dc__law_looked pm__law_looked cd__law_looked ct__law_looked : Value}
    (a__law_looked : PySem.W.nsIn K mainGlobals "_law_looked" = some (some (.ref f__law_looked))) (l__law_looked : K.lookup f__law_looked = some ⟨oc__law_looked, od__law_looked, .func (PySem.W.fnOf "_law_looked" "_law_looked" (defArgs s__law_looked) (defBody s__law_looked) (defScope s__law_looked) .none kV__law_looked dc__law_looked pm__law_looked an__law_looked cd__law_looked ct__law_looked), sl__law_looked⟩) (c__law_looked : PySem.W.codeIn K cd__law_looked "_law_looked" = true) (k__law_looked : PySem.W.keepIn K (.ref f__law_looked) = true)
    {f__law_all_again : Addr} {od__law_all_again an__law_all_again : Option Addr} {sl__law_all_again : Array (Option Value)} {oc__law_all_again kV__law_all_again dc__law_all_again pm__law_all_again cd__law_all_again ct__law_all_again : Value}
    (a__law_all_again : PySem.W.nsIn K mainGlobals "_law_all_again" = some (some (.ref f__law_all_again))) (l__law_all_again : K.lookup f__law_all_again = some ⟨oc__law_all_again, od__law_all_again, .func (PySem.W.fnOf "_law_all_again" "_law_all_again" (defArgs s__law_all_again) (defBody s__law_all_again) (defScope s__law_all_again) .none kV__law_all_again dc__law_all_again pm__law_all_again an__law_all_again cd__law_all_again ct__law_all_again), sl__law_all_again⟩) (c__law_all_again : PySem.W.codeIn K cd__law_all_again "_law_all_again" = true) (k__law_all_again : PySem.W.keepIn K (.ref f__law_all_again) = true)
    {f__law_deep : Addr} {od__law_deep an__law_deep : Option Addr} {sl__law_deep : Array (Option Value)} {oc__law_deep kV__law_deep dc__law_deep pm__law_deep cd__law_deep ct__law_deep : Value}
    (a__law_deep : PySem.W.nsIn K mainGlobals "_law_deep" = some (some (.ref f__law_deep))) (l__law_deep : K.lookup f__law_deep = some ⟨oc__law_deep, od__law_deep, .func (PySem.W.fnOf "_law_deep" "_law_deep" (defArgs s__law_deep) (defBody s__law_deep) (defScope s__law_deep) .none kV__law_deep dc__law_deep pm__law_deep an__law_deep cd__law_deep ct__law_deep), sl__law_deep⟩) (c__law_deep : PySem.W.codeIn K cd__law_deep "_law_deep" = true) (k__law_deep : PySem.W.keepIn K (.ref f__law_deep) = true)
    {f_law : Addr} {od_law an_law : Option Addr} {sl_law : Array (Option Value)} {oc_law kV_law dc_law pm_law cd_law ct_law : Value}
    (a_law : PySem.W.nsIn K mainGlobals "law" = some (some (.ref f_law))) (l_law : K.lookup f_law = some ⟨oc_law, od_law, .func (PySem.W.fnOf "law" "law" (defArgs s_law) (defBody s_law) (defScope s_law) .none kV_law dc_law pm_law an_law cd_law ct_law), sl_law⟩) (c_law : PySem.W.codeIn K cd_law "law" = true) (k_law : PySem.W.keepIn K (.ref f_law) = true)
    {C_Tree : Addr} (aC_Tree : PySem.W.nsIn K mainGlobals "Tree" = some (some (.ref C_Tree)))
    (pg_Tree : PySem.W.plainGet K C_Tree Str.empty = true) (hd_Tree : PySem.W.hasDictIn K C_Tree = true) (po_Tree : PySem.W.plainOver K C_Tree = true) (sa_Tree : PySem.W.findIn K (.ref C_Tree) "__setattr__" = some (some (.builtin "object.__setattr__"))) (mk_Tree : PySem.W.makesIn K C_Tree = true) (kc_Tree : PySem.W.keepIn K (.ref C_Tree) = true)
    (n_Tree_known : PySem.W.findIn K (.ref C_Tree) "known" = some none) (n_Tree_youngest : PySem.W.findIn K (.ref C_Tree) "youngest" = some none) (n_Tree_present : PySem.W.findIn K (.ref C_Tree) "present" = some none)
    {f_Tree__init : Addr} {od_Tree__init an_Tree__init : Option Addr} {sl_Tree__init : Array (Option Value)} {oc_Tree__init kV_Tree__init dc_Tree__init pm_Tree__init cd_Tree__init ct_Tree__init : Value} (a_Tree__init : PySem.W.findIn K (.ref C_Tree) "__init__" = some (some (.ref f_Tree__init))) (i_Tree__init : PySem.W.isFn K (.ref f_Tree__init) = true) (l_Tree__init : K.lookup f_Tree__init = some ⟨oc_Tree__init, od_Tree__init, .func (PySem.W.fnOf "__init__" "Tree.__init__" (defArgs s_Tree__init) (defBody s_Tree__init) (defScope s_Tree__init) .none kV_Tree__init dc_Tree__init pm_Tree__init an_Tree__init cd_Tree__init ct_Tree__init), sl_Tree__init⟩) (c_Tree__init : PySem.W.codeIn K cd_Tree__init "Tree.__init__" = true) (k_Tree__init : PySem.W.keepIn K (.ref f_Tree__init) = true)
    {f_Tree__check : Addr} {od_Tree__check an_Tree__check : Option Addr} {sl_Tree__check : Array (Option Value)} {oc_Tree__check kV_Tree__check dc_Tree__check pm_Tree__check cd_Tree__check ct_Tree__check : Value} (a_Tree__check : PySem.W.findIn K (.ref C_Tree) "check" = some (some (.ref f_Tree__check))) (i_Tree__check : PySem.W.isFn K (.ref f_Tree__check) = true) (l_Tree__check : K.lookup f_Tree__check = some ⟨oc_Tree__check, od_Tree__check, .func (PySem.W.fnOf "check" "Tree.check" (defArgs s_Tree__check) (defBody s_Tree__check) (defScope s_Tree__check) .none kV_Tree__check dc_Tree__check pm_Tree__check an_Tree__check cd_Tree__check ct_Tree__check), sl_Tree__check⟩) (c_Tree__check : PySem.W.codeIn K cd_Tree__check "Tree.check" = true) (k_Tree__check : PySem.W.keepIn K (.ref f_Tree__check) = true)
    {f_Tree__here : Addr} {od_Tree__here an_Tree__here : Option Addr} {sl_Tree__here : Array (Option Value)} {oc_Tree__here kV_Tree__here dc_Tree__here pm_Tree__here cd_Tree__here ct_Tree__here : Value} (a_Tree__here : PySem.W.findIn K (.ref C_Tree) "here" = some (some (.ref f_Tree__here))) (i_Tree__here : PySem.W.isFn K (.ref f_Tree__here) = true) (l_Tree__here : K.lookup f_Tree__here = some ⟨oc_Tree__here, od_Tree__here, .func (PySem.W.fnOf "here" "Tree.here" (defArgs s_Tree__here) (defBody s_Tree__here) (defScope s_Tree__here) .none kV_Tree__here dc_Tree__here pm_Tree__here an_Tree__here cd_Tree__here ct_Tree__here), sl_Tree__here⟩) (c_Tree__here : PySem.W.codeIn K cd_Tree__here "Tree.here" = true) (k_Tree__here : PySem.W.keepIn K (.ref f_Tree__here) = true)
    {f_Tree__many : Addr} {od_Tree__many an_Tree__many : Option Addr} {sl_Tree__many : Array (Option Value)} {oc_Tree__many kV_Tree__many dc_Tree__many pm_Tree__many cd_Tree__many ct_Tree__many : Value} (a_Tree__many : PySem.W.findIn K (.ref C_Tree) "many" = some (some (.ref f_Tree__many))) (i_Tree__many : PySem.W.isFn K (.ref f_Tree__many) = true) (l_Tree__many : K.lookup f_Tree__many = some ⟨oc_Tree__many, od_Tree__many, .func (PySem.W.fnOf "many" "Tree.many" (defArgs s_Tree__many) (defBody s_Tree__many) (defScope s_Tree__many) .none kV_Tree__many dc_Tree__many pm_Tree__many an_Tree__many cd_Tree__many ct_Tree__many), sl_Tree__many⟩) (c_Tree__many : PySem.W.codeIn K cd_Tree__many "Tree.many" = true) (k_Tree__many : PySem.W.keepIn K (.ref f_Tree__many) = true)
    {f_Tree__text_of : Addr} {od_Tree__text_of an_Tree__text_of : Option Addr} {sl_Tree__text_of : Array (Option Value)} {oc_Tree__text_of kV_Tree__text_of dc_Tree__text_of pm_Tree__text_of cd_Tree__text_of ct_Tree__text_of : Value} (a_Tree__text_of : PySem.W.findIn K (.ref C_Tree) "text_of" = some (some (.ref f_Tree__text_of))) (i_Tree__text_of : PySem.W.isFn K (.ref f_Tree__text_of) = true) (l_Tree__text_of : K.lookup f_Tree__text_of = some ⟨oc_Tree__text_of, od_Tree__text_of, .func (PySem.W.fnOf "text_of" "Tree.text_of" (defArgs s_Tree__text_of) (defBody s_Tree__text_of) (defScope s_Tree__text_of) .none kV_Tree__text_of dc_Tree__text_of pm_Tree__text_of an_Tree__text_of cd_Tree__text_of ct_Tree__text_of), sl_Tree__text_of⟩) (c_Tree__text_of : PySem.W.codeIn K cd_Tree__text_of "Tree.text_of" = true) (k_Tree__text_of : PySem.W.keepIn K (.ref f_Tree__text_of) = true)
    {f_Tree__elder_of : Addr} {od_Tree__elder_of an_Tree__elder_of : Option Addr} {sl_Tree__elder_of : Array (Option Value)} {oc_Tree__elder_of kV_Tree__elder_of dc_Tree__elder_of pm_Tree__elder_of cd_Tree__elder_of ct_Tree__elder_of : Value} (a_Tree__elder_of : PySem.W.findIn K (.ref C_Tree) "elder_of" = some (some (.ref f_Tree__elder_of))) (i_Tree__elder_of : PySem.W.isFn K (.ref f_Tree__elder_of) = true) (l_Tree__elder_of : K.lookup f_Tree__elder_of = some ⟨oc_Tree__elder_of, od_Tree__elder_of, .func (PySem.W.fnOf "elder_of" "Tree.elder_of" (defArgs s_Tree__elder_of) (defBody s_Tree__elder_of) (defScope s_Tree__elder_of) .none kV_Tree__elder_of dc_Tree__elder_of pm_Tree__elder_of an_Tree__elder_of cd_Tree__elder_of ct_Tree__elder_of), sl_Tree__elder_of⟩) (c_Tree__elder_of : PySem.W.codeIn K cd_Tree__elder_of "Tree.elder_of" = true) (k_Tree__elder_of : PySem.W.keepIn K (.ref f_Tree__elder_of) = true)
    {f_Tree__splices_of : Addr} {od_Tree__splices_of an_Tree__splices_of : Option Addr} {sl_Tree__splices_of : Array (Option Value)} {oc_Tree__splices_of kV_Tree__splices_of dc_Tree__splices_of pm_Tree__splices_of cd_Tree__splices_of ct_Tree__splices_of : Value} (a_Tree__splices_of : PySem.W.findIn K (.ref C_Tree) "splices_of" = some (some (.ref f_Tree__splices_of))) (i_Tree__splices_of : PySem.W.isFn K (.ref f_Tree__splices_of) = true) (l_Tree__splices_of : K.lookup f_Tree__splices_of = some ⟨oc_Tree__splices_of, od_Tree__splices_of, .func (PySem.W.fnOf "splices_of" "Tree.splices_of" (defArgs s_Tree__splices_of) (defBody s_Tree__splices_of) (defScope s_Tree__splices_of) .none kV_Tree__splices_of dc_Tree__splices_of pm_Tree__splices_of an_Tree__splices_of cd_Tree__splices_of ct_Tree__splices_of), sl_Tree__splices_of⟩) (c_Tree__splices_of : PySem.W.codeIn K cd_Tree__splices_of "Tree.splices_of" = true) (k_Tree__splices_of : PySem.W.keepIn K (.ref f_Tree__splices_of) = true)
    {f_Tree__places_of : Addr} {od_Tree__places_of an_Tree__places_of : Option Addr} {sl_Tree__places_of : Array (Option Value)} {oc_Tree__places_of kV_Tree__places_of dc_Tree__places_of pm_Tree__places_of cd_Tree__places_of ct_Tree__places_of : Value} (a_Tree__places_of : PySem.W.findIn K (.ref C_Tree) "places_of" = some (some (.ref f_Tree__places_of))) (i_Tree__places_of : PySem.W.isFn K (.ref f_Tree__places_of) = true) (l_Tree__places_of : K.lookup f_Tree__places_of = some ⟨oc_Tree__places_of, od_Tree__places_of, .func (PySem.W.fnOf "places_of" "Tree.places_of" (defArgs s_Tree__places_of) (defBody s_Tree__places_of) (defScope s_Tree__places_of) .none kV_Tree__places_of dc_Tree__places_of pm_Tree__places_of an_Tree__places_of cd_Tree__places_of ct_Tree__places_of), sl_Tree__places_of⟩) (c_Tree__places_of : PySem.W.codeIn K cd_Tree__places_of "Tree.places_of" = true) (k_Tree__places_of : PySem.W.keepIn K (.ref f_Tree__places_of) = true)
    {f_Tree__grow : Addr} {od_Tree__grow an_Tree__grow : Option Addr} {sl_Tree__grow : Array (Option Value)} {oc_Tree__grow kV_Tree__grow dc_Tree__grow pm_Tree__grow cd_Tree__grow ct_Tree__grow : Value} (a_Tree__grow : PySem.W.findIn K (.ref C_Tree) "grow" = some (some (.ref f_Tree__grow))) (i_Tree__grow : PySem.W.isFn K (.ref f_Tree__grow) = true) (l_Tree__grow : K.lookup f_Tree__grow = some ⟨oc_Tree__grow, od_Tree__grow, .func (PySem.W.fnOf "grow" "Tree.grow" (defArgs s_Tree__grow) (defBody s_Tree__grow) (defScope s_Tree__grow) .none kV_Tree__grow dc_Tree__grow pm_Tree__grow an_Tree__grow cd_Tree__grow ct_Tree__grow), sl_Tree__grow⟩) (c_Tree__grow : PySem.W.codeIn K cd_Tree__grow "Tree.grow" = true) (k_Tree__grow : PySem.W.keepIn K (.ref f_Tree__grow) = true)
    {f_Tree__undone : Addr} {od_Tree__undone an_Tree__undone : Option Addr} {sl_Tree__undone : Array (Option Value)} {oc_Tree__undone kV_Tree__undone dc_Tree__undone pm_Tree__undone cd_Tree__undone ct_Tree__undone : Value} (a_Tree__undone : PySem.W.findIn K (.ref C_Tree) "undone" = some (some (.ref f_Tree__undone))) (i_Tree__undone : PySem.W.isFn K (.ref f_Tree__undone) = true) (l_Tree__undone : K.lookup f_Tree__undone = some ⟨oc_Tree__undone, od_Tree__undone, .func (PySem.W.fnOf "undone" "Tree.undone" (defArgs s_Tree__undone) (defBody s_Tree__undone) (defScope s_Tree__undone) .none kV_Tree__undone dc_Tree__undone pm_Tree__undone an_Tree__undone cd_Tree__undone ct_Tree__undone), sl_Tree__undone⟩) (c_Tree__undone : PySem.W.codeIn K cd_Tree__undone "Tree.undone" = true) (k_Tree__undone : PySem.W.keepIn K (.ref f_Tree__undone) = true)
    {f_Tree__done : Addr} {od_Tree__done an_Tree__done : Option Addr} {sl_Tree__done : Array (Option Value)} {oc_Tree__done kV_Tree__done dc_Tree__done pm_Tree__done cd_Tree__done ct_Tree__done : Value} (a_Tree__done : PySem.W.findIn K (.ref C_Tree) "done" = some (some (.ref f_Tree__done))) (i_Tree__done : PySem.W.isFn K (.ref f_Tree__done) = true) (l_Tree__done : K.lookup f_Tree__done = some ⟨oc_Tree__done, od_Tree__done, .func (PySem.W.fnOf "done" "Tree.done" (defArgs s_Tree__done) (defBody s_Tree__done) (defScope s_Tree__done) .none kV_Tree__done dc_Tree__done pm_Tree__done an_Tree__done cd_Tree__done ct_Tree__done), sl_Tree__done⟩) (c_Tree__done : PySem.W.codeIn K cd_Tree__done "Tree.done" = true) (k_Tree__done : PySem.W.keepIn K (.ref f_Tree__done) = true)
    {f_Tree__to : Addr} {od_Tree__to an_Tree__to : Option Addr} {sl_Tree__to : Array (Option Value)} {oc_Tree__to kV_Tree__to dc_Tree__to pm_Tree__to cd_Tree__to ct_Tree__to : Value} (a_Tree__to : PySem.W.findIn K (.ref C_Tree) "to" = some (some (.ref f_Tree__to))) (i_Tree__to : PySem.W.isFn K (.ref f_Tree__to) = true) (l_Tree__to : K.lookup f_Tree__to = some ⟨oc_Tree__to, od_Tree__to, .func (PySem.W.fnOf "to" "Tree.to" (defArgs s_Tree__to) (defBody s_Tree__to) (defScope s_Tree__to) .none kV_Tree__to dc_Tree__to pm_Tree__to an_Tree__to cd_Tree__to ct_Tree__to), sl_Tree__to⟩) (c_Tree__to : PySem.W.codeIn K cd_Tree__to "Tree.to" = true) (k_Tree__to : PySem.W.keepIn K (.ref f_Tree__to) = true)
    {f_Tree__way : Addr} {od_Tree__way an_Tree__way : Option Addr} {sl_Tree__way : Array (Option Value)} {oc_Tree__way kV_Tree__way dc_Tree__way pm_Tree__way cd_Tree__way ct_Tree__way : Value} (a_Tree__way : PySem.W.findIn K (.ref C_Tree) "way" = some (some (.ref f_Tree__way))) (i_Tree__way : PySem.W.isFn K (.ref f_Tree__way) = true) (l_Tree__way : K.lookup f_Tree__way = some ⟨oc_Tree__way, od_Tree__way, .func (PySem.W.fnOf "way" "Tree.way" (defArgs s_Tree__way) (defBody s_Tree__way) (defScope s_Tree__way) .none kV_Tree__way dc_Tree__way pm_Tree__way an_Tree__way cd_Tree__way ct_Tree__way), sl_Tree__way⟩) (c_Tree__way : PySem.W.codeIn K cd_Tree__way "Tree.way" = true) (k_Tree__way : PySem.W.keepIn K (.ref f_Tree__way) = true)
    {C_NoFit : Addr} (n_NoFit : PySem.W.nsIn K mainGlobals "NoFit" = some (some (.ref C_NoFit)))
    {C_NoState : Addr} (n_NoState : PySem.W.nsIn K mainGlobals "NoState" = some (some (.ref C_NoState)))
    {C_ModeError : Addr} (n_ModeError : PySem.W.nsIn K mainGlobals "ModeError" = some (some (.ref C_ModeError)))
    (e1F : PySem.W.isClsIn K C_NoFit = true) (e2F : PySem.W.findIn K (.ref C_NoFit) "__getattribute__" = some (some (.builtin "BaseException.__getattribute__"))) (e3F : PySem.W.findIn K (.ref C_NoFit) "__getattr__" = some none) (e4F : PySem.W.findIn K (.ref C_NoFit) "__class__" = some (some (.builtin "object.__class__"))) (e7F : PySem.W.mroIn K C_NoFit (.type "object") = some true) (e8F : PySem.W.mroIn K C_NoFit (.type "BaseException") = some true) (rF : PySem.W.mroIn K C_NoFit (.ref C_ModeError) = some true)
    (qF0 : PySem.W.kitOne K (.ref C_NoFit) (.type "ValueError") = some true) (qF1 : PySem.W.kitOne K (.ref C_NoFit) (.ref C_NoFit) = some true) (qF2 : PySem.W.kitOne K (.ref C_NoFit) (.ref C_NoState) = some false) (qF3 : PySem.W.kitOne K (.ref C_NoFit) (.ref C_ModeError) = some true)
    (e1N : PySem.W.isClsIn K C_NoState = true) (e2N : PySem.W.findIn K (.ref C_NoState) "__getattribute__" = some (some (.builtin "BaseException.__getattribute__"))) (e3N : PySem.W.findIn K (.ref C_NoState) "__getattr__" = some none) (e4N : PySem.W.findIn K (.ref C_NoState) "__class__" = some (some (.builtin "object.__class__"))) (e7N : PySem.W.mroIn K C_NoState (.type "object") = some true) (e8N : PySem.W.mroIn K C_NoState (.type "BaseException") = some true) (rN : PySem.W.mroIn K C_NoState (.ref C_ModeError) = some true)
    (qN0 : PySem.W.kitOne K (.ref C_NoState) (.type "ValueError") = some true) (qN1 : PySem.W.kitOne K (.ref C_NoState) (.ref C_NoFit) = some false) (qN2 : PySem.W.kitOne K (.ref C_NoState) (.ref C_NoState) = some true) (qN3 : PySem.W.kitOne K (.ref C_NoState) (.ref C_ModeError) = some true)
    (x1 : PySem.W.excIn K C_NoFit bmV "ValueError.__new__" = true) (x2 : excInI K C_NoState bmV "ValueError.__new__" = true) (e5 : PySem.W.specialIn K (.builtin "object.__class__") "__get__" = some (some (.builtin "getset_descriptor.__get__"))) (e6 : PySem.W.takesIn K (.builtin "object.__class__") = some true)
    (cm : PySem.W.isClsIn K C_ModeError = true) (tm : PySem.W.typeIn K (.ref C_ModeError) = some (.type "type")) (bm : PySem.W.mroIn K C_ModeError (.type "BaseException") = some true) (tN : PySem.W.typeIn K (.ref C_NoState) = some (.type "type")) (rNN : PySem.W.mroIn K C_NoState (.ref C_NoState) = some true)
    (sN : PySem.W.findIn K (.ref C_NoState) "__setattr__" = some (some (.builtin "object.__setattr__"))) (nN : PySem.W.findIn K (.ref C_NoState) "number" = some none) (mN : (PySem.W.clsIn K C_NoState).any (fun cd => cd.hasDict && tailOk cd.mro) = true) (kN : PySem.W.keepIn K (.ref C_NoState) = true)
    {f_NoState__init : Addr} {od_NoState__init an_NoState__init : Option Addr} {sl_NoState__init : Array (Option Value)} {oc_NoState__init kV_NoState__init dc_NoState__init pm_NoState__init cd_NoState__init ct_NoState__init : Value} (a_NoState__init : PySem.W.findIn K (.ref C_NoState) "__init__" = some (some (.ref f_NoState__init))) (i_NoState__init : PySem.W.isFn K (.ref f_NoState__init) = true) (l_NoState__init : K.lookup f_NoState__init = some ⟨oc_NoState__init, od_NoState__init, .func (PySem.W.fnOf "__init__" "NoState.__init__" (defArgs s_NoState__init) (defBody s_NoState__init) (defScope s_NoState__init) .none kV_NoState__init dc_NoState__init pm_NoState__init an_NoState__init cd_NoState__init ct_NoState__init), sl_NoState__init⟩) (c_NoState__init : PySem.W.codeIn K cd_NoState__init "NoState.__init__" = true) (k_NoState__init : PySem.W.keepIn K (.ref f_NoState__init) = true)
    (z_len : PySem.W.nsIn K mainGlobals "len" = some none) (z_range : PySem.W.nsIn K mainGlobals "range" = some none) (z_isinstance : PySem.W.nsIn K mainGlobals "isinstance" = some none) (z_int : PySem.W.nsIn K mainGlobals "int" = some none) (z_bool : PySem.W.nsIn K mainGlobals "bool" = some none) (z_str : PySem.W.nsIn K mainGlobals "str" = some none) (z_tuple : PySem.W.nsIn K mainGlobals "tuple" = some none) (z_list : PySem.W.nsIn K mainGlobals "list" = some none) (z_reversed : PySem.W.nsIn K mainGlobals "reversed" = some none) (z_abs : PySem.W.nsIn K mainGlobals "abs" = some none) (z_ValueError : PySem.W.nsIn K mainGlobals "ValueError" = some none) :
    ∃ fd : FuncData, (∀ (s : Shared) (v : Value), BindsTo s fd ⟨[v], []⟩ [("_law_script", v)]) ∧ ∀ base : Heap, K.In base → base.Ns mainGlobals mg → FnOk l.prog w K mg base CX0 9 fa fd ["_law_script"] (sp_law K) := by
  have e := hfa.symm.trans (PySem.W.mg_of X G a_law)
  cases e
  have F_is_whole := fun_mk (st := s_is_whole) l_is_whole c_is_whole k_is_whole
  have b_is_whole := F_is_whole.binds (ps := ["value"]) fun _ _ _ _ _ _ us hl => (by obtain ⟨_, rfl⟩ := len1 hl; rfl)
  have F_is_place := fun_mk (st := s_is_place) l_is_place c_is_place k_is_place
  have b_is_place := F_is_place.binds (ps := ["text", "place"]) fun _ _ _ _ _ _ us hl => (by obtain ⟨_, _, rfl⟩ := len2 hl; rfl)
  have F_fits := fun_mk (st := s_fits) l_fits c_fits k_fits
  have b_fits := F_fits.binds (ps := ["text", "splice"]) fun _ _ _ _ _ _ us hl => (by obtain ⟨_, _, rfl⟩ := len2 hl; rfl)
  have F_spliced := fun_mk (st := s_spliced) l_spliced c_spliced k_spliced
  have b_spliced := F_spliced.binds (ps := ["text", "splice"]) fun _ _ _ _ _ _ us hl => (by obtain ⟨_, _, rfl⟩ := len2 hl; rfl)
  have F_turned := fun_mk (st := s_turned) l_turned c_turned k_turned
  have b_turned := F_turned.binds (ps := ["splice"]) fun _ _ _ _ _ _ us hl => (by obtain ⟨_, rfl⟩ := len1 hl; rfl)
  have F_all_spliced := fun_mk (st := s_all_spliced) l_all_spliced c_all_spliced k_all_spliced
  have b_all_spliced := F_all_spliced.binds (ps := ["text", "splices"]) fun _ _ _ _ _ _ us hl => (by obtain ⟨_, _, rfl⟩ := len2 hl; rfl)
  have F_way_back := fun_mk (st := s_way_back) l_way_back c_way_back k_way_back
  have b_way_back := F_way_back.binds (ps := ["splices"]) fun _ _ _ _ _ _ us hl => (by obtain ⟨_, rfl⟩ := len1 hl; rfl)
  have F__law_cell_at := fun_mk (st := s__law_cell_at) l__law_cell_at c__law_cell_at k__law_cell_at
  have b__law_cell_at := F__law_cell_at.binds (ps := ["_law_script", "_law_k"]) fun _ _ _ _ _ _ us hl => (by obtain ⟨_, _, rfl⟩ := len2 hl; rfl)
  have F__law_room := fun_mk (st := s__law_room) l__law_room c__law_room k__law_room
  have b__law_room := F__law_room.binds (ps := ["_law_script"]) fun _ _ _ _ _ _ us hl => (by obtain ⟨_, rfl⟩ := len1 hl; rfl)
  have F__law_take := fun_mk (st := s__law_take) l__law_take c__law_take k__law_take
  have b__law_take := F__law_take.binds (ps := ["_law_room_here", "_law_many"]) fun _ _ _ _ _ _ us hl => (by obtain ⟨_, _, rfl⟩ := len2 hl; rfl)
  have F__law_same := fun_mk (st := s__law_same) l__law_same c__law_same k__law_same
  have b__law_same := F__law_same.binds (ps := ["_law_found", "_law_due"]) fun _ _ _ _ _ _ us hl => (by obtain ⟨_, _, rfl⟩ := len2 hl; rfl)
  have F__law_signs := fun_mk (st := s__law_signs) l__law_signs c__law_signs k__law_signs
  have b__law_signs := F__law_signs.binds (ps := ["_law_room_here", "_law_size"]) fun _ _ _ _ _ _ us hl => (by obtain ⟨_, _, rfl⟩ := len2 hl; rfl)
  have F__law_state := fun_mk (st := s__law_state) l__law_state c__law_state k__law_state
  have b__law_state := F__law_state.binds (ps := ["_law_text", "_law_elder", "_law_room_here"]) fun _ _ _ _ _ _ us hl => (by obtain ⟨_, _, _, rfl⟩ := len3 hl; rfl)
  have F__law_first := fun_mk (st := s__law_first) l__law_first c__law_first k__law_first
  have b__law_first := F__law_first.binds (ps := ["_law_room_here"]) fun _ _ _ _ _ _ us hl => (by obtain ⟨_, rfl⟩ := len1 hl; rfl)
  have F__law_row := fun_mk (st := s__law_row) l__law_row c__law_row k__law_row
  have b__law_row := F__law_row.binds (ps := ["_law_found", "_law_due"]) fun _ _ _ _ _ _ us hl => (by obtain ⟨_, _, rfl⟩ := len2 hl; rfl)
  have F__law_shows := fun_mk (st := s__law_shows) l__law_shows c__law_shows k__law_shows
  have b__law_shows := F__law_shows.binds (ps := ["_law_tree", "_law_states", "_law_number"]) fun _ _ _ _ _ _ us hl => (by obtain ⟨_, _, _, rfl⟩ := len3 hl; rfl)
  have F__law_newest := fun_mk (st := s__law_newest) l__law_newest c__law_newest k__law_newest
  have b__law_newest := F__law_newest.binds (ps := ["_law_states", "_law_at"]) fun _ _ _ _ _ _ us hl => (by obtain ⟨_, _, rfl⟩ := len2 hl; rfl)
  have F__law_no_lead := fun_mk (st := s__law_no_lead) l__law_no_lead c__law_no_lead k__law_no_lead
  have b__law_no_lead := F__law_no_lead.binds (ps := ["_law_tree", "_law_way_here"]) fun _ _ _ _ _ _ us hl => (by obtain ⟨_, _, rfl⟩ := len2 hl; rfl)
  have F__law_led := fun_mk (st := s__law_led) l__law_led c__law_led k__law_led
  have b__law_led := F__law_led.binds (ps := ["_law_tree", "_law_states", "_law_at", "_law_way_here", "_law_room_here"]) fun _ _ _ _ _ _ us hl => (by obtain ⟨_, _, _, _, _, rfl⟩ := len5 hl; rfl)
  have F__law_grown := fun_mk (st := s__law_grown) l__law_grown c__law_grown k__law_grown
  have b__law_grown := F__law_grown.binds (ps := ["_law_tree", "_law_states", "_law_at", "_law_room_here"]) fun _ _ _ _ _ _ us hl => (by obtain ⟨_, _, _, _, rfl⟩ := len4 hl; rfl)
  have F__law_way := fun_mk (st := s__law_way) l__law_way c__law_way k__law_way
  have b__law_way := F__law_way.binds (ps := ["_law_tree", "_law_states", "_law_one", "_law_other", "_law_held"]) fun _ _ _ _ _ _ us hl => (by obtain ⟨_, _, _, _, _, rfl⟩ := len5 hl; rfl)
  have F__law_looked := fun_mk (st := s__law_looked) l__law_looked c__law_looked k__law_looked
  have b__law_looked := F__law_looked.binds (ps := ["_law_tree", "_law_states", "_law_at", "_law_room_here", "_law_held"]) fun _ _ _ _ _ _ us hl => (by obtain ⟨_, _, _, _, _, rfl⟩ := len5 hl; rfl)
  have F__law_all_again := fun_mk (st := s__law_all_again) l__law_all_again c__law_all_again k__law_all_again
  have b__law_all_again := F__law_all_again.binds (ps := ["_law_tree", "_law_states", "_law_room_here", "_law_held"]) fun _ _ _ _ _ _ us hl => (by obtain ⟨_, _, _, _, rfl⟩ := len4 hl; rfl)
  have F__law_deep := fun_mk (st := s__law_deep) l__law_deep c__law_deep k__law_deep
  have b__law_deep := F__law_deep.binds (ps := ["_law_number"]) fun _ _ _ _ _ _ us hl => (by obtain ⟨_, rfl⟩ := len1 hl; rfl)
  have F_law := fun_mk (st := s_law) l_law c_law k_law
  have b_law := F_law.binds (ps := ["_law_script"]) fun _ _ _ _ _ _ us hl => (by obtain ⟨_, rfl⟩ := len1 hl; rfl)
  have F_NoState__init := fun_mk (st := s_NoState__init) l_NoState__init c_NoState__init k_NoState__init
  have b_NoState__init := F_NoState__init.binds (ps := ["self", "number"]) fun _ _ _ _ _ _ us hl => (by obtain ⟨_, _, rfl⟩ := len2 hl; rfl)
  have F_Tree__init := fun_mk (st := s_Tree__init) l_Tree__init c_Tree__init k_Tree__init
  have b_Tree__init := F_Tree__init.binds (ps := ["self", "text", "place"]) fun _ _ _ _ _ _ us hl => (by obtain ⟨_, _, _, rfl⟩ := len3 hl; rfl)
  have F_Tree__check := fun_mk (st := s_Tree__check) l_Tree__check c_Tree__check k_Tree__check
  have b_Tree__check := F_Tree__check.binds (ps := ["self", "number"]) fun _ _ _ _ _ _ us hl => (by obtain ⟨_, _, rfl⟩ := len2 hl; rfl)
  have F_Tree__here := fun_mk (st := s_Tree__here) l_Tree__here c_Tree__here k_Tree__here
  have b_Tree__here := F_Tree__here.binds (ps := ["self"]) fun _ _ _ _ _ _ us hl => (by obtain ⟨_, rfl⟩ := len1 hl; rfl)
  have F_Tree__many := fun_mk (st := s_Tree__many) l_Tree__many c_Tree__many k_Tree__many
  have b_Tree__many := F_Tree__many.binds (ps := ["self"]) fun _ _ _ _ _ _ us hl => (by obtain ⟨_, rfl⟩ := len1 hl; rfl)
  have F_Tree__text_of := fun_mk (st := s_Tree__text_of) l_Tree__text_of c_Tree__text_of k_Tree__text_of
  have b_Tree__text_of := F_Tree__text_of.binds (ps := ["self", "number"]) fun _ _ _ _ _ _ us hl => (by obtain ⟨_, _, rfl⟩ := len2 hl; rfl)
  have F_Tree__elder_of := fun_mk (st := s_Tree__elder_of) l_Tree__elder_of c_Tree__elder_of k_Tree__elder_of
  have b_Tree__elder_of := F_Tree__elder_of.binds (ps := ["self", "number"]) fun _ _ _ _ _ _ us hl => (by obtain ⟨_, _, rfl⟩ := len2 hl; rfl)
  have F_Tree__splices_of := fun_mk (st := s_Tree__splices_of) l_Tree__splices_of c_Tree__splices_of k_Tree__splices_of
  have b_Tree__splices_of := F_Tree__splices_of.binds (ps := ["self", "number"]) fun _ _ _ _ _ _ us hl => (by obtain ⟨_, _, rfl⟩ := len2 hl; rfl)
  have F_Tree__places_of := fun_mk (st := s_Tree__places_of) l_Tree__places_of c_Tree__places_of k_Tree__places_of
  have b_Tree__places_of := F_Tree__places_of.binds (ps := ["self", "number"]) fun _ _ _ _ _ _ us hl => (by obtain ⟨_, _, rfl⟩ := len2 hl; rfl)
  have F_Tree__grow := fun_mk (st := s_Tree__grow) l_Tree__grow c_Tree__grow k_Tree__grow
  have b_Tree__grow := F_Tree__grow.binds (ps := ["self", "splices", "ahead", "behind"]) fun _ _ _ _ _ _ us hl => (by obtain ⟨_, _, _, _, rfl⟩ := len4 hl; rfl)
  have F_Tree__undone := fun_mk (st := s_Tree__undone) l_Tree__undone c_Tree__undone k_Tree__undone
  have b_Tree__undone := F_Tree__undone.binds (ps := ["self"]) fun _ _ _ _ _ _ us hl => (by obtain ⟨_, rfl⟩ := len1 hl; rfl)
  have F_Tree__done := fun_mk (st := s_Tree__done) l_Tree__done c_Tree__done k_Tree__done
  have b_Tree__done := F_Tree__done.binds (ps := ["self"]) fun _ _ _ _ _ _ us hl => (by obtain ⟨_, rfl⟩ := len1 hl; rfl)
  have F_Tree__to := fun_mk (st := s_Tree__to) l_Tree__to c_Tree__to k_Tree__to
  have b_Tree__to := F_Tree__to.binds (ps := ["self", "number"]) fun _ _ _ _ _ _ us hl => (by obtain ⟨_, _, rfl⟩ := len2 hl; rfl)
  have F_Tree__way := fun_mk (st := s_Tree__way) l_Tree__way c_Tree__way k_Tree__way
  have b_Tree__way := F_Tree__way.binds (ps := ["self", "one", "other"]) fun _ _ _ _ _ _ us hl => (by obtain ⟨_, _, _, rfl⟩ := len3 hl; rfl)
  have cl_Tree : Cls K C_Tree := ⟨pg_Tree, hd_Tree, po_Tree, sa_Tree⟩
  have m := fun (x : Str) (z : PySem.W.nsIn K mainGlobals x = some none) => PySem.W.mg_none_of X G z
  have ml := m _ z_len
  have mr := m _ z_range
  refine ⟨PySem.W.fnOf "law" "law" (defArgs s_law) (defBody s_law) (defScope s_law) .none kV_law dc_law pm_law an_law cd_law ct_law, fun s v => .of_eq rfl, fun base _ _ => ?_⟩
  have TT : TreT K C_Tree := ⟨cl_Tree, n_Tree_known, n_Tree_youngest, n_Tree_present⟩
  have XF : ExcCls K C_NoFit := ⟨e1F, e2F, e3F, e4F, e5, e6, e7F, e8F⟩
  have XN : ExcCls K C_NoState := ⟨e1N, e2N, e3N, e4N, e5, e6, e7N, e8N⟩
  have NC : NstCls K C_NoState "number" := ⟨XN, sN, nN, mN⟩
  have NS : NoSt l.prog w K mg base C_NoState := ⟨_, _, PySem.W.mg_of X G n_NoState, ⟨x2, NC, a_NoState__init, i_NoState__init, kN⟩, ok_nsinit F_NoState__init, b_NoState__init⟩
  have Owh : Own l.prog w K mg base CX0 1 "is_whole" ["value"] sp_whole := ⟨_, _, ok_is_whole F_is_whole (m _ z_isinstance) (m _ z_int) (m _ z_bool), b_is_whole, k_is_whole, PySem.W.mg_of X G a_is_whole⟩
  have Opl : Own l.prog w K mg base CX0 2 "is_place" ["text", "place"] sp_is_place := ⟨_, _, ok_is_place F_is_place Owh ml, b_is_place, k_is_place, PySem.W.mg_of X G a_is_place⟩
  have Ofi : Own l.prog w K mg base CX0 3 "fits" ["text", "splice"] (sp_fits K) := ⟨_, _, ok_fits F_fits Opl ml, b_fits, k_fits, PySem.W.mg_of X G a_fits⟩
  have Osp : Own l.prog w K mg base (CXE l.prog w) 4 "spliced" ["text", "splice"] (sp_spliced K C_NoFit) := ⟨_, _, ok_spliced F_spliced Ofi ml (PySem.W.mg_of X G n_NoFit) x1, b_spliced, k_spliced, PySem.W.mg_of X G a_spliced⟩
  have Oal : Own l.prog w K mg base (CXE l.prog w) 5 "all_spliced" ["text", "splices"] (sp_all K C_NoFit) := ⟨_, _, ok_all F_all_spliced Osp, b_all_spliced, k_all_spliced, PySem.W.mg_of X G a_all_spliced⟩
  have Tch : OwnM l.prog w K mg base (CXD l.prog w) 3 C_Tree "check" ["self", "number"] (sp_tcheck C_Tree C_NoState) := ⟨_, _, cl_Tree, ⟨a_Tree__check, i_Tree__check, k_Tree__check⟩, ok_tcheck F_Tree__check TT NS Owh ml, b_Tree__check⟩
  have Ttx : OwnM l.prog w K mg base (CXD l.prog w) 4 C_Tree "text_of" ["self", "number"] (sp_tget C_Tree C_NoState gText) := ⟨_, _, cl_Tree, ⟨a_Tree__text_of, i_Tree__text_of, k_Tree__text_of⟩, ok_ttext F_Tree__text_of TT Tch, b_Tree__text_of⟩
  have Tgr : OwnM l.prog w K mg base (CXD l.prog w) 6 C_Tree "grow" ["self", "splices", "ahead", "behind"] (sp_tgrow C_Tree C_NoFit) := ⟨_, _, cl_Tree, ⟨a_Tree__grow, i_Tree__grow, k_Tree__grow⟩, ok_tgrow F_Tree__grow TT Ttx Oal.exD ml (m _ z_tuple), b_Tree__grow⟩
  have The : OwnM l.prog w K mg base CX0 1 C_Tree "here" ["self"] (sp_there C_Tree) := ⟨_, _, cl_Tree, ⟨a_Tree__here, i_Tree__here, k_Tree__here⟩, ok_there F_Tree__here TT, b_Tree__here⟩
  have Tmk : OwnMk l.prog w K mg base CX0 1 C_Tree "Tree" ["self", "text", "place"] (sp_tinit C_Tree) := ⟨_, _, ⟨mk_Tree, a_Tree__init, i_Tree__init, kc_Tree⟩, ok_tinit F_Tree__init TT, b_Tree__init, PySem.W.mg_of X G aC_Tree⟩

  have Tmy : OwnM l.prog w K mg base CX0 1 C_Tree "many" ["self"] (sp_tmany C_Tree) := ⟨_, _, cl_Tree, ⟨a_Tree__many, i_Tree__many, k_Tree__many⟩, ok_tmany F_Tree__many TT ml, b_Tree__many⟩

  have Tel : OwnM l.prog w K mg base (CXD l.prog w) 4 C_Tree "elder_of" ["self", "number"] (sp_tget C_Tree C_NoState gElder) := ⟨_, _, cl_Tree, ⟨a_Tree__elder_of, i_Tree__elder_of, k_Tree__elder_of⟩, ok_telder F_Tree__elder_of TT Tch, b_Tree__elder_of⟩
  have Tpl : OwnM l.prog w K mg base (CXD l.prog w) 4 C_Tree "places_of" ["self", "number"] (sp_tget C_Tree C_NoState gPlaces) := ⟨_, _, cl_Tree, ⟨a_Tree__places_of, i_Tree__places_of, k_Tree__places_of⟩, ok_tplc F_Tree__places_of TT Tch, b_Tree__places_of⟩
  have Tso : OwnM l.prog w K mg base (CXD l.prog w) 4 C_Tree "splices_of" ["self", "number"] (sp_tget C_Tree C_NoState gSpl) := ⟨_, _, cl_Tree, ⟨a_Tree__splices_of, i_Tree__splices_of, k_Tree__splices_of⟩, ok_tspl F_Tree__splices_of TT Tch (m _ z_list), b_Tree__splices_of⟩

  have Tto : OwnM l.prog w K mg base (CXD l.prog w) 5 C_Tree "to" ["self", "number"] (sp_tto C_Tree C_NoState) := ⟨_, _, cl_Tree, ⟨a_Tree__to, i_Tree__to, k_Tree__to⟩, ok_tto F_Tree__to TT Tch Tpl, b_Tree__to⟩

  have Otd : Own l.prog w K mg base CX0 1 "turned" ["splice"] (sp_turned K) := ⟨_, _, ok_turned F_turned , b_turned, k_turned, PySem.W.mg_of X G a_turned⟩
  have Owb : Own l.prog w K mg base CX0 2 "way_back" ["splices"] (sp_back K) := ⟨_, _, ok_back F_way_back Otd (m _ z_reversed), b_way_back, k_way_back, PySem.W.mg_of X G a_way_back⟩
  have Tway : OwnM l.prog w K mg base (CXD l.prog w) 5 C_Tree "way" ["self", "one", "other"] (sp_tway C_Tree C_NoState) := ⟨_, _, cl_Tree, ⟨a_Tree__way, i_Tree__way, k_Tree__way⟩, ok_tway F_Tree__way TT Tch Tel Tso Owb (m _ z_reversed), b_Tree__way⟩
  have Tun : OwnM l.prog w K mg base (CXD l.prog w) 5 C_Tree "undone" ["self"] (sp_tundone C_Tree C_NoState) := ⟨_, _, cl_Tree, ⟨a_Tree__undone, i_Tree__undone, k_Tree__undone⟩, ok_tundone F_Tree__undone TT NS Tel Tpl, b_Tree__undone⟩
  have Tdo : OwnM l.prog w K mg base (CXD l.prog w) 6 C_Tree "done" ["self"] (sp_tdone C_Tree C_NoState) := ⟨_, _, cl_Tree, ⟨a_Tree__done, i_Tree__done, k_Tree__done⟩, ok_tdone F_Tree__done TT NS Tto, b_Tree__done⟩
  have Oce : Own l.prog w K mg base CX0 1 "_law_cell_at" ["_law_script", "_law_k"] (sp_cell K) := ⟨_, _, ok_cell F__law_cell_at ml, b__law_cell_at, k__law_cell_at, PySem.W.mg_of X G a__law_cell_at⟩
  have Orm : Own l.prog w K mg base CX0 2 "_law_room" ["_law_script"] (sp_room K) := ⟨_, _, ok_room F__law_room Oce (m _ z_abs), b__law_room, k__law_room, PySem.W.mg_of X G a__law_room⟩
  have Otk : Own l.prog w K mg base CX0 1 "_law_take" ["_law_room_here", "_law_many"] sp_take := ⟨_, _, ok_take F__law_take ml, b__law_take, k__law_take, PySem.W.mg_of X G a__law_take⟩
  have Osa : Own l.prog w K mg base CX0 1 "_law_same" ["_law_found", "_law_due"] sp_sameT := ⟨_, _, ok_sameT F__law_same (m _ z_isinstance) (m _ z_int) (m _ z_bool), b__law_same, k__law_same, PySem.W.mg_of X G a__law_same⟩
  have Osg : Own l.prog w K mg base CX0 2 "_law_signs" ["_law_room_here", "_law_size"] sp_signs55 := ⟨_, _, ok_signs55 F__law_signs Otk mr, b__law_signs, k__law_signs, PySem.W.mg_of X G a__law_signs⟩
  have Ost : Own l.prog w K mg base CX0 3 "_law_state" ["_law_text", "_law_elder", "_law_room_here"] sp_state55 := ⟨_, _, ok_state55 F__law_state Otk Osg ml mr, b__law_state, k__law_state, PySem.W.mg_of X G a__law_state⟩
  have Ofs : Own l.prog w K mg base CX0 3 "_law_first" ["_law_room_here"] sp_first55 := ⟨_, _, ok_first55 F__law_first Otk Osg ml, b__law_first, k__law_first, PySem.W.mg_of X G a__law_first⟩
  have Oro : Own l.prog w K mg base CX0 1 "_law_row" ["_law_found", "_law_due"] sp_lrowT := ⟨_, _, ok_lrowT F__law_row (m _ z_isinstance) (m _ z_int) (m _ z_bool) (m _ z_str) (m _ z_tuple) (m _ z_list) ml, b__law_row, k__law_row, PySem.W.mg_of X G a__law_row⟩

  have Osw : Own l.prog w K mg base CX0 5 "_law_shows" ["_law_tree", "_law_states", "_law_number"] (sp_tshow C_Tree) := ⟨_, _, ok_tshow F__law_shows (Ttx.sureD get_sure) (Tpl.sureD get_sure) (Tel.sureD get_sure) (Tso.sureD get_sure) Osa Oro (m _ z_isinstance) (m _ z_str) (m _ z_tuple) ml, b__law_shows, k__law_shows, PySem.W.mg_of X G a__law_shows⟩

  have Onw : Own l.prog w K mg base CX0 1 "_law_newest" ["_law_states", "_law_at"] sp_tnew := ⟨_, _, ok_tnew F__law_newest ml mr, b__law_newest, k__law_newest, PySem.W.mg_of X G a__law_newest⟩
  have Onl : Own l.prog w K mg base CX0 7 "_law_no_lead" ["_law_tree", "_law_way_here"] (sp_nolead C_Tree) := ⟨_, _, ok_nolead F__law_no_lead Tun Tdo (m _ z_isinstance) (m _ z_ValueError) XN qN0 qN2 (PySem.W.mg_of X G n_NoState) (PySem.W.mg_of X G n_ModeError) cm tm bm rN, b__law_no_lead, k__law_no_lead, PySem.W.mg_of X G a__law_no_lead⟩
  have Old : Own l.prog w K mg base CX0 8 "_law_led" ["_law_tree", "_law_states", "_law_at", "_law_way_here", "_law_room_here"] (SpG fun Gg => sp_led55 Gg C_Tree) := ⟨_, _, fn_G (fun Gg => ok_led55 (G := Gg) F__law_led Otk (Tto.sureD to_sure) (Tun.sureD undone_sure) (Tdo.sureD done_sure) Onw Onl Osa ml), b__law_led, k__law_led, PySem.W.mg_of X G a__law_led⟩
  have Ogn : Own l.prog w K mg base CX0 7 "_law_grown" ["_law_tree", "_law_states", "_law_at", "_law_room_here"] (SpG fun Gg => sp_grown55 Gg C_Tree) := ⟨_, _, fn_G (fun Gg => ok_grown55 (G := Gg) F__law_grown Ost (Tgr.sureD grow_sure) Osa ml (m _ z_list)), b__law_grown, k__law_grown, PySem.W.mg_of X G a__law_grown⟩
  have Owy : Own l.prog w K mg base CX0 6 "_law_way" ["_law_tree", "_law_states", "_law_one", "_law_other", "_law_held"] (SpG fun Gg => sp_way55 Gg C_Tree) := ⟨_, _, fn_G (fun Gg => ok_way55 (G := Gg) F__law_way (Tway.sureD way_sure) Oro ml (m _ z_list) (m _ z_isinstance)), b__law_way, k__law_way, PySem.W.mg_of X G a__law_way⟩
  have Olk : Own l.prog w K mg base CX0 7 "_law_looked" ["_law_tree", "_law_states", "_law_at", "_law_room_here", "_law_held"] (SpG fun Gg => sp_look55 Gg C_Tree) := ⟨_, _, fn_G (fun Gg => ok_look55 (G := Gg) F__law_looked Otk The Tmy (Tso.sureD get_sure) (own_G Owy Gg) Osw Osa ml (m _ z_list)), b__law_looked, k__law_looked, PySem.W.mg_of X G a__law_looked⟩
  have Oag : Own l.prog w K mg base CX0 8 "_law_all_again" ["_law_tree", "_law_states", "_law_room_here", "_law_held"] (SpG fun Gg => sp_again55 Gg C_Tree) := ⟨_, _, fn_G (fun Gg => ok_again55 (G := Gg) F__law_all_again Otk (Tto.sureD to_sure) (own_G Olk Gg) Osw Osa ml mr), b__law_all_again, k__law_all_again, PySem.W.mg_of X G a__law_all_again⟩
  have Odp : Own l.prog w K mg base CX0 7 "_law_deep" ["_law_number"] sp_deep := ⟨_, _, ok_deep F__law_deep Tmk (Tgr.sureD grow_sure) Tmy The (Ttx.sureD get_sure) (Tway.sureD way_sure) (Tun.sureD undone_sure) (Tdo.sureD done_sure) (Tto.sureD to_sure) Osa ml mr, b__law_deep, k__law_deep, PySem.W.mg_of X G a__law_deep⟩
  exact ok_law F_law Orm Otk Odp Ofs Tmk Ogn Old Olk Oag Oro ml mr (m _ z_int)
theorem walk {l : PySem.W.OpenLaw} {q : Program} {loose : List Str} {XP : (Str → Option Value) → Heap → Prop} {YP : World → Heap → Prop} {d : DefRec} {K : Params → PySem.W.Frag} (hn : l.most = some 63) (hdf : d.params.defaults = [])
    (hY : ∀ (w : World) (h : Heap), YP w h → (K w.params).In h)
    (F : ∀ (w : World) (mg : Str → Option Value) (fa : Addr) (h : Heap), (K w.params).In h → h.Ns mainGlobals mg → mg d.name = some (.ref fa) →
      ∃ fd : FuncData, (∀ (s : Shared) (u : Value), BindsTo s fd ⟨[u], []⟩ [("_law_script", u)]) ∧ ∀ base : Heap, (K w.params).In base → base.Ns mainGlobals mg → FnOk l.prog w (K w.params) mg base CX0 9 fa fd ["_law_script"] (sp_law (K w.params))) :
    PySem.W.WalkO q loose XP YP l.row.toRowW d [] (fun f vs => PySem.call f vs) :=
  L2.walk_of (n := 63) (k := 9) (x := "_law_script") (CX := fun _ => CX0) (sp := fun w => sp_law (K w.params)) hn (by decide) hdf ⟨rfl, by decide, by decide⟩ hY F (fun _ _ a ns hl _ hS => ⟨a, ns, rfl, hS, hl, fun _ => rfl⟩) fun _ _ _ _ _ z => z
end My
open PySem PySem.W PyProof.Rows
def PySem.W.Fast.tw12903098867464495168 : Nat := 0
def PySem.W.Fast.tw17616583876203463776 : Nat := 0
def PySem.W.Fast.tw14278772438990756992 : Nat := 0
def PySem.W.Fast.tw14262463242314500256 : Nat := 0
def PySem.W.Fast.tw4624558288754694336 : Nat := 0
def PySem.W.Fast.tw8894054178159070432 : Nat := 0
def PySem.W.Fast.tw14618485885227860448 : Nat := 0
def PySem.W.Fast.tw16143757268015358688 : Nat := 0
def PySem.W.Fast.tw5751942765419374304 : Nat := 0
def PySem.W.Fast.tw11558177385971536608 : Nat := 0
def PySem.W.Fast.tw6999458393459271456 : Nat := 0
def PySem.W.Fast.tw13567923998950804288 : Nat := 0
def PySem.W.Fast.tw15717694337277683520 : Nat := 0
def PySem.W.Fast.tw320426814010340224 : Nat := 0
def PySem.W.Fast.tw11789108373419581376 : Nat := 0
def PySem.W.Fast.tw6551885649736284193 : Nat := 0
def PySem.W.Fast.tw7771128556371495009 : Nat := 0
def PySem.W.Fast.tw17305942794015909057 : Nat := 0
def PySem.W.Fast.tw9197901180284581281 : Nat := 0
def PySem.W.Fast.tw3665318970717007393 : Nat := 0
def PySem.W.Fast.tw17108479041019786945 : Nat := 0
def PySem.W.Fast.tw13776850474230685409 : Nat := 0
def PySem.W.Fast.tw3766177754959806209 : Nat := 0
def PySem.W.Fast.tw3290198278706151329 : Nat := 0
def PySem.W.Fast.tw16870856498786196546 : Nat := 0
def PySem.W.Fast.tw8716056241975515202 : Nat := 0
def PySem.W.Fast.tw11411521897530753186 : Nat := 0
def PySem.W.Fast.tw960320179998735682 : Nat := 0
def PySem.W.Fast.tw18013863514874608962 : Nat := 0
def PySem.W.Fast.tw17890864388483774786 : Nat := 0
def PySem.W.Fast.tw5244018412285341090 : Nat := 0
def PySem.W.Fast.tw17300986638397872546 : Nat := 0
def PySem.W.Fast.tw2880562669319430594 : Nat := 0
def PySem.W.Fast.tw16611403387765075394 : Nat := 0
def PySem.W.Fast.tw7625126289269387778 : Nat := 0
def PySem.W.Fast.tw17115245414892836674 : Nat := 0
def PySem.W.Fast.tw3087461561273536418 : Nat := 0
def PySem.W.Fast.tw2597576876843432898 : Nat := 0
def PySem.W.Fast.tw1181061715806229667 : Nat := 0
def PySem.W.Fast.tw9632248440547579107 : Nat := 0
def PySem.W.Fast.tw18216823588529386851 : Nat := 0
def PySem.W.Fast.tw16273454232912330115 : Nat := 0
def PySem.W.Fast.tw1077465315581419939 : Nat := 0
def PySem.W.Fast.tw17011204653842562563 : Nat := 0
def PySem.W.Fast.tw4631750968303846947 : Nat := 0
def PySem.W.Fast.tw4474466345205807747 : Nat := 0
def PySem.W.Fast.tw170110668429700803 : Nat := 0
def PySem.W.Fast.tw14791037128058442435 : Nat := 0
def PySem.W.Fast.tw10224496051628384995 : Nat := 0
def PySem.W.Fast.tw704853513401702179 : Nat := 0
def PySem.W.Fast.tw11630587030638491459 : Nat := 0
def PySem.W.Fast.tw15392499210705967043 : Nat := 0
def PySem.W.Fast.tw2427911415646131268 : Nat := 0
def PySem.W.Fast.tw16257422030433068100 : Nat := 0
def PySem.W.Fast.tw2409375105856551012 : Nat := 0
def PySem.W.Fast.tw17066699299511479428 : Nat := 0
def PySem.W.Fast.tw8003469834185328804 : Nat := 0
def PySem.W.Fast.tw12802946194090174660 : Nat := 0
def PySem.W.Fast.tw11678238271385389284 : Nat := 0
def PySem.W.Fast.tw13514168604097706308 : Nat := 0
def PySem.W.Fast.tw11725132212749496772 : Nat := 0
def PySem.W.Fast.tw6976830502858182212 : Nat := 0
def PySem.W.Fast.tw12863323940523448932 : Nat := 0
def PySem.W.Fast.tw2898188436567316100 : Nat := 0
def PySem.W.Fast.tw6827353947659532100 : Nat := 0
def PySem.W.Fast.tw10092273362157245316 : Nat := 0
def PySem.W.Fast.tw2023207660974920676 : Nat := 0
def PySem.W.Fast.tw16387747723151749092 : Nat := 0
def PySem.W.Fast.tw2246562499071979525 : Nat := 0
def PySem.W.Fast.tw4401710391474440325 : Nat := 0
def PySem.W.Fast.tw8800986323619608741 : Nat := 0
def PySem.W.Fast.tw890487220418986149 : Nat := 0
def PySem.W.Fast.tw682483762034342117 : Nat := 0
def PySem.W.Fast.tw6873237414685213925 : Nat := 0
def PySem.W.Fast.tw18162331840010085605 : Nat := 0
def PySem.W.Fast.tw15262529794601748741 : Nat := 0
def PySem.W.Fast.tw8737015324013437189 : Nat := 0
def PySem.W.Fast.tw11653910069382116613 : Nat := 0
def PySem.W.Fast.tw7085502084019924261 : Nat := 0
def PySem.W.Fast.tw2814431595671307589 : Nat := 0
def PySem.W.Fast.tw8904334860428010853 : Nat := 0
def PySem.W.Fast.tw16515614076871104965 : Nat := 0
def PySem.W.Fast.tw5594759928215683653 : Nat := 0
def PySem.W.Fast.tw10748592055966032453 : Nat := 0
def PySem.W.Fast.tw8949523144503086757 : Nat := 0
def PySem.W.Fast.tw3642821740083351301 : Nat := 0
def PySem.W.Fast.tw9541602938413517605 : Nat := 0
def PySem.W.Fast.tw13061244852074673957 : Nat := 0
def PySem.W.Fast.tw4315050710644291365 : Nat := 0
def PySem.W.Fast.tw3051295015781918629 : Nat := 0
def PySem.W.Fast.tw2079266919164107685 : Nat := 0
def PySem.W.Fast.tw12872340410681779109 : Nat := 0
def PySem.W.Fast.tw16842067785308943301 : Nat := 0
def PySem.W.Fast.tw9245062401180129221 : Nat := 0
def PySem.W.Fast.tw13857505579137291270 : Nat := 0
def PySem.W.Fast.tw12097496237443852454 : Nat := 0
def PySem.W.Fast.tw2004610606664045766 : Nat := 0
def PySem.W.Fast.tw2452876561397925094 : Nat := 0
def PySem.W.Fast.tw9720969054022145382 : Nat := 0
def PySem.W.Fast.tw4095344358474305926 : Nat := 0
def PySem.W.Fast.tw723709645047705030 : Nat := 0
def PySem.W.Fast.tw5030288520956744326 : Nat := 0
def PySem.W.Fast.tw11728415468243109542 : Nat := 0
def PySem.W.Fast.tw8274625919144396614 : Nat := 0
def PySem.W.Fast.tw9325935472628518919 : Nat := 0
def PySem.W.Fast.tw5265905623586198599 : Nat := 0
def PySem.W.Fast.tw8480807866923034695 : Nat := 0
def PySem.W.Fast.tw1934414381355103335 : Nat := 0
def PySem.W.Fast.tw7856387759661902055 : Nat := 0
def PySem.W.Fast.tw12279036984247858471 : Nat := 0
def PySem.W.Fast.tw14167872663358090599 : Nat := 0
def PySem.W.Fast.tw8248013570977033607 : Nat := 0
def PySem.W.Fast.tw13377237988745337319 : Nat := 0
def PySem.W.Fast.tw7073135766151694823 : Nat := 0
def PySem.W.Fast.tw6002511432258721287 : Nat := 0
def PySem.W.Fast.tw8366829856561434311 : Nat := 0
def PySem.W.Fast.tw5462277826454113159 : Nat := 0
def PySem.W.Fast.tw11241163059619430311 : Nat := 0
def PySem.W.Fast.tw8737189428628547527 : Nat := 0
def PySem.W.Fast.tw7976494105518481448 : Nat := 0
def PySem.W.Fast.tw7201198684946065576 : Nat := 0
def PySem.W.Fast.tw16133443874747837640 : Nat := 0
def PySem.W.Fast.tw7659017413885782248 : Nat := 0
def PySem.W.Fast.tw9329593903425319304 : Nat := 0
def PySem.W.Fast.tw4353554118008029608 : Nat := 0
def PySem.W.Fast.tw5037651736778544776 : Nat := 0
def PySem.W.Fast.tw8079376686328860296 : Nat := 0
def PySem.W.Fast.tw12650768613916282536 : Nat := 0
def PySem.W.Fast.tw2700529627775881960 : Nat := 0
def PySem.W.Fast.tw2586364878951819176 : Nat := 0
def PySem.W.Fast.tw18116432831182771176 : Nat := 0
def PySem.W.Fast.tw18374959900234995753 : Nat := 0
def PySem.W.Fast.tw560518100913424553 : Nat := 0
def PySem.W.Fast.tw14993649186629329065 : Nat := 0
def PySem.W.Fast.tw3852077912624259241 : Nat := 0
def PySem.W.Fast.tw6183902024354459017 : Nat := 0
def PySem.W.Fast.tw9271595124773837417 : Nat := 0
def PySem.W.Fast.tw651797431472084649 : Nat := 0
def PySem.W.Fast.tw2055622805147966281 : Nat := 0
def PySem.W.Fast.tw14961498616742562729 : Nat := 0
def PySem.W.Fast.tw9400367089254562826 : Nat := 0
def PySem.W.Fast.tw17859960774125252618 : Nat := 0
def PySem.W.Fast.tw14443176681944798250 : Nat := 0
def PySem.W.Fast.tw1844744124084247754 : Nat := 0
def PySem.W.Fast.tw9747677231509484746 : Nat := 0
def PySem.W.Fast.tw16643696634985567594 : Nat := 0
def PySem.W.Fast.tw663111051804231146 : Nat := 0
def PySem.W.Fast.tw8582678093457360490 : Nat := 0
def PySem.W.Fast.tw15037401274951306890 : Nat := 0
def PySem.W.Fast.tw879370983391194794 : Nat := 0
def PySem.W.Fast.tw10200790001252153098 : Nat := 0
def PySem.W.Fast.tw6107068272589915914 : Nat := 0
def PySem.W.Fast.tw15425070088841038794 : Nat := 0
def PySem.W.Fast.tw5318887391038530538 : Nat := 0
def PySem.W.Fast.tw16021824116886504491 : Nat := 0
def PySem.W.Fast.tw6413766338481480843 : Nat := 0
def PySem.W.Fast.tw10910865131049064683 : Nat := 0
def PySem.W.Fast.tw16755760286237624587 : Nat := 0
def PySem.W.Fast.tw3655690998162955723 : Nat := 0
def PySem.W.Fast.tw2972327754064360939 : Nat := 0
def PySem.W.Fast.tw12993121386944224139 : Nat := 0
def PySem.W.Fast.tw5843013745657725867 : Nat := 0
def PySem.W.Fast.tw13103682381366125580 : Nat := 0
def PySem.W.Fast.tw7929555319681602604 : Nat := 0
def PySem.W.Fast.tw6413462103265432652 : Nat := 0
def PySem.W.Fast.tw12533852574982759628 : Nat := 0
def PySem.W.Fast.tw14690777371435887852 : Nat := 0
def PySem.W.Fast.tw14778944261528045836 : Nat := 0
def PySem.W.Fast.tw115439713741038860 : Nat := 0
def PySem.W.Fast.tw772097251751559500 : Nat := 0
def PySem.W.Fast.tw17647651923359616396 : Nat := 0
def PySem.W.Fast.tw5389056526636459500 : Nat := 0
def PySem.W.Fast.tw13426069254334269996 : Nat := 0
def PySem.W.Fast.tw9716303590783126092 : Nat := 0
def PySem.W.Fast.tw10751119300177707660 : Nat := 0
def PySem.W.Fast.tw8591131144270725804 : Nat := 0
def PySem.W.Fast.tw14470638238770375468 : Nat := 0
def PySem.W.Fast.tw4363858783706580812 : Nat := 0
def PySem.W.Fast.tw9730140151482865580 : Nat := 0
def PySem.W.Fast.tw193405482522224653 : Nat := 0
def PySem.W.Fast.tw2893491492614305005 : Nat := 0
def PySem.W.Fast.tw12588300517991688525 : Nat := 0
def PySem.W.Fast.tw8263940910235216397 : Nat := 0
def PySem.W.Fast.tw7555478945686915629 : Nat := 0
def PySem.W.Fast.tw4264357383254354605 : Nat := 0
def PySem.W.Fast.tw15993378768387642061 : Nat := 0
def PySem.W.Fast.tw12671223062257268429 : Nat := 0
def PySem.W.Fast.tw17419800929094399789 : Nat := 0
def PySem.W.Fast.tw1057731167992144781 : Nat := 0
def PySem.W.Fast.tw6974357897858945933 : Nat := 0
def PySem.W.Fast.tw4700285063292608429 : Nat := 0
def PySem.W.Fast.tw7069322237610258413 : Nat := 0
def PySem.W.Fast.tw2937904908240371790 : Nat := 0
def PySem.W.Fast.tw16995227587255902318 : Nat := 0
def PySem.W.Fast.tw8530918590925609070 : Nat := 0
def PySem.W.Fast.tw12342392447182314670 : Nat := 0
def PySem.W.Fast.tw7132146636146685198 : Nat := 0
def PySem.W.Fast.tw3885948274625064238 : Nat := 0
def PySem.W.Fast.tw5282786387933752686 : Nat := 0
def PySem.W.Fast.tw1689086414367694222 : Nat := 0
def PySem.W.Fast.tw15927025405612802510 : Nat := 0
def PySem.W.Fast.tw4727600006238216686 : Nat := 0
def PySem.W.Fast.tw12094576317569217038 : Nat := 0
def PySem.W.Fast.tw4260373199232857614 : Nat := 0
def PySem.W.Fast.tw8918595001553562190 : Nat := 0
def PySem.W.Fast.tw9946278653128592142 : Nat := 0
def PySem.W.Fast.tw12723791668285778766 : Nat := 0
def PySem.W.Fast.tw11949484415827259246 : Nat := 0
def PySem.W.Fast.tw18440970457706452878 : Nat := 0
def PySem.W.Fast.tw7887069761555877806 : Nat := 0
def PySem.W.Fast.tw7194959577737522126 : Nat := 0
def PySem.W.Fast.tw14820197849765278670 : Nat := 0
def PySem.W.Fast.tw13624972984526937070 : Nat := 0
def PySem.W.Fast.tw17998465510326195407 : Nat := 0
def PySem.W.Fast.tw10438513530641898767 : Nat := 0
def PySem.W.Fast.tw4931806669867041071 : Nat := 0
def PySem.W.Fast.tw14704775650447910191 : Nat := 0
def PySem.W.Fast.tw1491144893036311887 : Nat := 0
def PySem.W.Fast.tw15833375748241523183 : Nat := 0
def PySem.W.Fast.tw18075572272954489615 : Nat := 0
def PySem.W.Fast.tw17104067413167068047 : Nat := 0
def PySem.W.Fast.tw1437208518944133136 : Nat := 0
def PySem.W.Fast.tw7341249275892314160 : Nat := 0
def PySem.W.Fast.tw2256264079174197328 : Nat := 0
def PySem.W.Fast.tw12695700727193826448 : Nat := 0
def PySem.W.Fast.tw1672485194797437104 : Nat := 0
def PySem.W.Fast.tw5987129964429889744 : Nat := 0
def PySem.W.Fast.tw15159613073820139888 : Nat := 0
def PySem.W.Fast.tw1545209851753215344 : Nat := 0
def PySem.W.Fast.tw3551029732067989904 : Nat := 0
def PySem.W.Fast.tw17888289661289034256 : Nat := 0
def PySem.W.Fast.tw466273645400372880 : Nat := 0
def PySem.W.Fast.tw14209322001807255216 : Nat := 0
def PySem.W.Fast.tw1428831494557601520 : Nat := 0
def PySem.W.Fast.tw16077924007187296080 : Nat := 0
def PySem.W.Fast.tw9707497417361189776 : Nat := 0
def PySem.W.Fast.tw4022578258621684656 : Nat := 0
def PySem.W.Fast.tw13144464015848997840 : Nat := 0
def PySem.W.Fast.tw7916178658315683824 : Nat := 0
def PySem.W.Fast.tw6646623370897697905 : Nat := 0
def PySem.W.Fast.tw1258282036903556305 : Nat := 0
def PySem.W.Fast.tw8181846883627254001 : Nat := 0
def PySem.W.Fast.tw95067344717375089 : Nat := 0
def PySem.W.Fast.tw13956517948397317905 : Nat := 0
def PySem.W.Fast.tw15380890860967587665 : Nat := 0
def PySem.W.Fast.tw13244254492822085457 : Nat := 0
def PySem.W.Fast.tw16315473554380431249 : Nat := 0
def PySem.W.Fast.tw14812722402636482449 : Nat := 0
def PySem.W.Fast.tw13924108716500278322 : Nat := 0
def PySem.W.Fast.tw2991707302960708690 : Nat := 0
def PySem.W.Fast.tw13905073373216777490 : Nat := 0
def PySem.W.Fast.tw747237318940868978 : Nat := 0
def PySem.W.Fast.tw1013524725986776498 : Nat := 0
def PySem.W.Fast.tw17692522861675344338 : Nat := 0
def PySem.W.Fast.tw3295200726846643762 : Nat := 0
def PySem.W.Fast.tw14677693353766482482 : Nat := 0
def PySem.W.Fast.tw15591670816686451506 : Nat := 0
def PySem.W.Fast.tw8630625280159193938 : Nat := 0
def PySem.W.Fast.tw6314383661922823026 : Nat := 0
def PySem.W.Fast.tw17949176133836171122 : Nat := 0
def PySem.W.Fast.tw11323524115737626546 : Nat := 0
def PySem.W.Fast.tw2973507120838341651 : Nat := 0
def PySem.W.Fast.tw6563957266091545651 : Nat := 0
def PySem.W.Fast.tw2836381095531187283 : Nat := 0
def PySem.W.Fast.tw8059137744080220307 : Nat := 0
def PySem.W.Fast.tw3746289163450274003 : Nat := 0
def PySem.W.Fast.tw12100203437894139155 : Nat := 0
def PySem.W.Fast.tw15612450677654080819 : Nat := 0
def PySem.W.Fast.tw3605630390086239571 : Nat := 0
def PySem.W.Fast.tw4925579445848118707 : Nat := 0
def PySem.W.Fast.tw6094255321742141907 : Nat := 0
def PySem.W.Fast.tw4942244023195897299 : Nat := 0
def PySem.W.Fast.tw352565182405418515 : Nat := 0
def PySem.W.Fast.tw6351449474031968915 : Nat := 0
def PySem.W.Fast.tw13204025214436004499 : Nat := 0
def PySem.W.Fast.tw14525207773180714675 : Nat := 0
def PySem.W.Fast.tw4959662357644675795 : Nat := 0
def PySem.W.Fast.tw11420023910007717651 : Nat := 0
def PySem.W.Fast.tw10753217806663856979 : Nat := 0
def PySem.W.Fast.tw9836378076835152787 : Nat := 0
def PySem.W.Fast.tw3020417502566283412 : Nat := 0
def PySem.W.Fast.tw6091626819497143444 : Nat := 0
def PySem.W.Fast.tw15869119148041991476 : Nat := 0
def PySem.W.Fast.tw3347847086513342804 : Nat := 0
def PySem.W.Fast.tw14169457870427092308 : Nat := 0
def PySem.W.Fast.tw5750131973860434324 : Nat := 0
def PySem.W.Fast.tw13027381945940337076 : Nat := 0
def PySem.W.Fast.tw10914362001551150580 : Nat := 0
def PySem.W.Fast.tw610985258198128116 : Nat := 0
def PySem.W.Fast.tw2579218315046765076 : Nat := 0
def PySem.W.Fast.tw9905500437095210708 : Nat := 0
def PySem.W.Fast.tw11678001504443157268 : Nat := 0
def PySem.W.Fast.tw5899437960654453556 : Nat := 0
def PySem.W.Fast.tw9645649460430432116 : Nat := 0
def PySem.W.Fast.tw5651636030740384660 : Nat := 0
def PySem.W.Fast.tw18101702568101151700 : Nat := 0
def PySem.W.Fast.tw15559429871068098645 : Nat := 0
def PySem.W.Fast.tw12066683982156510357 : Nat := 0
def PySem.W.Fast.tw8136574100465370261 : Nat := 0
def PySem.W.Fast.tw5448954793225929973 : Nat := 0
def PySem.W.Fast.tw6165351964106556757 : Nat := 0
def PySem.W.Fast.tw15005781656750281109 : Nat := 0
def PySem.W.Fast.tw9119815033301513685 : Nat := 0
def PySem.W.Fast.tw13023127103871662581 : Nat := 0
def PySem.W.Fast.tw13416709845662870069 : Nat := 0
def PySem.W.Fast.tw3554750388020565653 : Nat := 0
def PySem.W.Fast.tw12773599782296349493 : Nat := 0
def PySem.W.Fast.tw18431712565252879253 : Nat := 0
def PySem.W.Fast.tw8615430807280321525 : Nat := 0
def PySem.W.Fast.tw3162811223915093014 : Nat := 0
def PySem.W.Fast.tw9682631772440959126 : Nat := 0
def PySem.W.Fast.tw12168020447762517302 : Nat := 0
def PySem.W.Fast.tw10954284085864302038 : Nat := 0
def PySem.W.Fast.tw15375016426022079062 : Nat := 0
def PySem.W.Fast.tw15821315451120520790 : Nat := 0
def PySem.W.Fast.tw15154587496043075318 : Nat := 0
def PySem.W.Fast.tw17408220229897507638 : Nat := 0
def PySem.W.Fast.tw4142802920231410550 : Nat := 0
def PySem.W.Fast.tw4335281945846450102 : Nat := 0
def PySem.W.Fast.tw7717930839292675062 : Nat := 0
def PySem.W.Fast.tw16601121416246014966 : Nat := 0
def PySem.W.Fast.tw7631956417044061303 : Nat := 0
def PySem.W.Fast.tw17691226801686532215 : Nat := 0
def PySem.W.Fast.tw15904810074150297719 : Nat := 0
def PySem.W.Fast.tw12929783234177141015 : Nat := 0
def PySem.W.Fast.tw12257463201794122103 : Nat := 0
def PySem.W.Fast.tw8931104033971496407 : Nat := 0
def PySem.W.Fast.tw15105276302350588407 : Nat := 0
def PySem.W.Fast.tw3472952195629072951 : Nat := 0
def PySem.W.Fast.tw10716895392433501783 : Nat := 0
def PySem.W.Fast.tw2366252380735011415 : Nat := 0
def PySem.W.Fast.tw14168593258103877591 : Nat := 0
def PySem.W.Fast.tw12522349753313224824 : Nat := 0
def PySem.W.Fast.tw4163105205871785304 : Nat := 0
def PySem.W.Fast.tw17813512979992630616 : Nat := 0
def PySem.W.Fast.tw15329238819943161272 : Nat := 0
def PySem.W.Fast.tw1623703617674990040 : Nat := 0
def PySem.W.Fast.tw10541804737047992952 : Nat := 0
def PySem.W.Fast.tw17819069474775491224 : Nat := 0
def PySem.W.Fast.tw12280044267050499800 : Nat := 0
def PySem.W.Fast.tw8253105626341810936 : Nat := 0
def PySem.W.Fast.tw6904856707540793112 : Nat := 0
def PySem.W.Fast.tw13394163032275819352 : Nat := 0
def PySem.W.Fast.tw10309565520078277624 : Nat := 0
def PySem.W.Fast.tw7216347446953906168 : Nat := 0
def PySem.W.Fast.tw7296069348275604665 : Nat := 0
def PySem.W.Fast.tw12984027915159862489 : Nat := 0
def PySem.W.Fast.tw2200483833601334585 : Nat := 0
def PySem.W.Fast.tw1369038610376794425 : Nat := 0
def PySem.W.Fast.tw11729043071868006713 : Nat := 0
def PySem.W.Fast.tw8294095341491941721 : Nat := 0
def PySem.W.Fast.tw3291746532204730777 : Nat := 0
def PySem.W.Fast.tw18318256267438265785 : Nat := 0
def PySem.W.Fast.tw10171151775194920377 : Nat := 0
def PySem.W.Fast.tw4914893444742813145 : Nat := 0
def PySem.W.Fast.tw13794572197987162809 : Nat := 0
def PySem.W.Fast.tw1102089680994172665 : Nat := 0
def PySem.W.Fast.tw9651776821400245113 : Nat := 0
def PySem.W.Fast.tw14146775209615672217 : Nat := 0
def PySem.W.Fast.tw221993778213523353 : Nat := 0
def PySem.W.Fast.tw12418724448752735161 : Nat := 0
def PySem.W.Fast.tw12367858388607633337 : Nat := 0
def PySem.W.Fast.tw16548522312051335097 : Nat := 0
def PySem.W.Fast.tw4149011750618646489 : Nat := 0
def PySem.W.Fast.tw12824575918533931258 : Nat := 0
def PySem.W.Fast.tw15037495640439682426 : Nat := 0
def PySem.W.Fast.tw17552913810604919226 : Nat := 0
def PySem.W.Fast.tw6974133080334019098 : Nat := 0
def PySem.W.Fast.tw7932570291877285466 : Nat := 0
def PySem.W.Fast.tw14559306523676704378 : Nat := 0
def PySem.W.Fast.tw17427529552187389786 : Nat := 0
def PySem.W.Fast.tw17839116842270289914 : Nat := 0
def PySem.W.Fast.tw4445706734505968667 : Nat := 0
def PySem.W.Fast.tw4333193763892923515 : Nat := 0
def PySem.W.Fast.tw1580941628262985883 : Nat := 0
def PySem.W.Fast.tw17237081470846306619 : Nat := 0
def PySem.W.Fast.tw17319659080644138299 : Nat := 0
def PySem.W.Fast.tw14777017404737116571 : Nat := 0
def PySem.W.Fast.tw11359511045505926619 : Nat := 0
def PySem.W.Fast.tw10156316147279768059 : Nat := 0
def PySem.W.Fast.tw10903913927075123835 : Nat := 0
def PySem.W.Fast.tw15314552900177658491 : Nat := 0
def PySem.W.Fast.tw18111938966341804699 : Nat := 0
def PySem.W.Fast.tw15600282064025937723 : Nat := 0
def PySem.W.Fast.tw2001724315529830331 : Nat := 0
def PySem.W.Fast.tw12788893685293812731 : Nat := 0
def PySem.W.Fast.tw17158784461491315964 : Nat := 0
def PySem.W.Fast.tw12921385966610155836 : Nat := 0
def PySem.W.Fast.tw5677798653440258396 : Nat := 0
def PySem.W.Fast.tw9475114999839689084 : Nat := 0
def PySem.W.Fast.tw12589936824183958908 : Nat := 0
def PySem.W.Fast.tw2328266610152633756 : Nat := 0
def PySem.W.Fast.tw11517909976900602332 : Nat := 0
def PySem.W.Fast.tw7285283303451053532 : Nat := 0
def PySem.W.Fast.tw5263304375954811452 : Nat := 0
def PySem.W.Fast.tw12854375883638958684 : Nat := 0
def PySem.W.Fast.tw6654805425862201052 : Nat := 0
def PySem.W.Fast.tw17420810190460142428 : Nat := 0
def PySem.W.Fast.tw632778014756069308 : Nat := 0
def PySem.W.Fast.tw9867694433979643868 : Nat := 0
def PySem.W.Fast.tw10776032494380658652 : Nat := 0
def PySem.W.Fast.tw5643594811037609181 : Nat := 0
def PySem.W.Fast.tw5072037764374571261 : Nat := 0
def PySem.W.Fast.tw15543293896616371517 : Nat := 0
def PySem.W.Fast.tw8153669099257109853 : Nat := 0
def PySem.W.Fast.tw6575321766193731997 : Nat := 0
def PySem.W.Fast.tw3996197717200866749 : Nat := 0
def PySem.W.Fast.tw2531554014641055165 : Nat := 0
def PySem.W.Fast.tw763307086936500733 : Nat := 0
def PySem.W.Fast.tw2070205079475450365 : Nat := 0
def PySem.W.Fast.tw13067853662788308509 : Nat := 0
def PySem.W.Fast.tw7471770456013935229 : Nat := 0
def PySem.W.Fast.tw1940275605688383197 : Nat := 0
def PySem.W.Fast.tw15281137556877227741 : Nat := 0
def PySem.W.Fast.tw2526708989488528125 : Nat := 0
def PySem.W.Fast.tw15324518371209988989 : Nat := 0
def PySem.W.Fast.tw5662117128861570973 : Nat := 0
def PySem.W.Fast.tw2194318389443839006 : Nat := 0
def PySem.W.Fast.tw1482534796856320030 : Nat := 0
def PySem.W.Fast.tw5234314209652939038 : Nat := 0
def PySem.W.Fast.tw16790362103234684254 : Nat := 0
def PySem.W.Fast.tw18187517261024942462 : Nat := 0
def PySem.W.Fast.tw3455340407732761214 : Nat := 0
def PySem.W.Fast.tw1829459792327255742 : Nat := 0
def PySem.W.Fast.tw9369728111620932478 : Nat := 0
def PySem.W.Fast.tw16202898441686729759 : Nat := 0
def PySem.W.Fast.tw15921663608901589119 : Nat := 0
def PySem.W.Fast.tw10520941732634299583 : Nat := 0
def PySem.W.Fast.tw5363056663400762591 : Nat := 0
def PySem.W.Fast.tw9431136364583775839 : Nat := 0
def PySem.W.Fast.tw14258597692486040191 : Nat := 0
def PySem.W.Fast.tw11205962150630385311 : Nat := 0
def PySem.W.Fast.tw4547562942810102463 : Nat := 0
def PySem.W.Fast.tw6740126870871091903 : Nat := 0
def PySem.W.Fast.tw1780023002336234303 : Nat := 0
def PySem.W.Fast.tw1443936923787925343 : Nat := 0
def PySem.W.Fast.tw5911439802916082591 : Nat := 0
set_option maxRecDepth 100000 in
set_option maxHeartbeats 0 in
theorem PySem.Challenge.cw_modehand_k55_whole_tree_holds : PySem.Challenge.rw_modehand_k55_whole_tree.Holds := by
  w_on; o_law; k_head; (case hw => w_witness2)
  k_fill
  refine My.walk (l := PySem.Challenge.rw_modehand_k55_whole_tree) rfl rfl (fun w h Y => PySem.W.kIn_of Y) ?F
  case F =>
    intro w mg fa h KX G hmg
    refine' My.all_mk KX G hmg ?a_is_whole ?l_is_whole ?c_is_whole ?k_is_whole ?a_is_place ?l_is_place ?c_is_place ?k_is_place ?a_fits ?l_fits ?c_fits ?k_fits ?a_spliced ?l_spliced ?c_spliced ?k_spliced ?a_turned ?l_turned ?c_turned ?k_turned ?a_all_spliced ?l_all_spliced ?c_all_spliced ?k_all_spliced ?a_way_back ?l_way_back ?c_way_back ?k_way_back ?a__law_cell_at ?l__law_cell_at ?c__law_cell_at ?k__law_cell_at ?a__law_room ?l__law_room ?c__law_room ?k__law_room ?a__law_take ?l__law_take ?c__law_take ?k__law_take ?a__law_same ?l__law_same ?c__law_same ?k__law_same ?a__law_signs ?l__law_signs ?c__law_signs ?k__law_signs ?a__law_state ?l__law_state ?c__law_state ?k__law_state ?a__law_first ?l__law_first ?c__law_first ?k__law_first ?a__law_row ?l__law_row ?c__law_row ?k__law_row ?a__law_shows ?l__law_shows ?c__law_shows ?k__law_shows ?a__law_newest ?l__law_newest ?c__law_newest ?k__law_newest ?a__law_no_lead ?l__law_no_lead ?c__law_no_lead ?k__law_no_lead ?a__law_led ?l__law_led ?c__law_led ?k__law_led ?a__law_grown ?l__law_grown ?c__law_grown ?k__law_grown ?a__law_way ?l__law_way ?c__law_way ?k__law_way ?a__law_looked ?l__law_looked ?c__law_looked ?k__law_looked ?a__law_all_again ?l__law_all_again ?c__law_all_again ?k__law_all_again ?a__law_deep ?l__law_deep ?c__law_deep ?k__law_deep ?a_law ?l_law ?c_law ?k_law ?aC_Tree ?pg_Tree ?hd_Tree ?po_Tree ?sa_Tree ?mk_Tree ?kc_Tree ?n_Tree_known ?n_Tree_youngest ?n_Tree_present ?a_Tree__init ?i_Tree__init ?l_Tree__init ?c_Tree__init ?k_Tree__init ?a_Tree__check ?i_Tree__check ?l_Tree__check ?c_Tree__check ?k_Tree__check ?a_Tree__here ?i_Tree__here ?l_Tree__here ?c_Tree__here ?k_Tree__here ?a_Tree__many ?i_Tree__many ?l_Tree__many ?c_Tree__many ?k_Tree__many ?a_Tree__text_of ?i_Tree__text_of ?l_Tree__text_of ?c_Tree__text_of ?k_Tree__text_of ?a_Tree__elder_of ?i_Tree__elder_of ?l_Tree__elder_of ?c_Tree__elder_of ?k_Tree__elder_of ?a_Tree__splices_of ?i_Tree__splices_of ?l_Tree__splices_of ?c_Tree__splices_of ?k_Tree__splices_of ?a_Tree__places_of ?i_Tree__places_of ?l_Tree__places_of ?c_Tree__places_of ?k_Tree__places_of ?a_Tree__grow ?i_Tree__grow ?l_Tree__grow ?c_Tree__grow ?k_Tree__grow ?a_Tree__undone ?i_Tree__undone ?l_Tree__undone ?c_Tree__undone ?k_Tree__undone ?a_Tree__done ?i_Tree__done ?l_Tree__done ?c_Tree__done ?k_Tree__done ?a_Tree__to ?i_Tree__to ?l_Tree__to ?c_Tree__to ?k_Tree__to ?a_Tree__way ?i_Tree__way ?l_Tree__way ?c_Tree__way ?k_Tree__way ?n_NoFit ?n_NoState ?n_ModeError ?e1F ?e2F ?e3F ?e4F ?e7F ?e8F ?rF ?qF0 ?qF1 ?qF2 ?qF3 ?e1N ?e2N ?e3N ?e4N ?e7N ?e8N ?rN ?qN0 ?qN1 ?qN2 ?qN3 ?x1 ?x2 ?e5 ?e6 ?cm ?tm ?bm ?tN ?rNN ?sN ?nN ?mN ?kN ?a_NoState__init ?i_NoState__init ?l_NoState__init ?c_NoState__init ?k_NoState__init ?z_len ?z_range ?z_isinstance ?z_int ?z_bool ?z_str ?z_tuple ?z_list ?z_reversed ?z_abs ?z_ValueError
    (case a_is_whole => k_is); (case l_is_whole => k_is); (case c_is_whole => k_is); (case k_is_whole => k_is)
    (case a_is_place => k_is); (case l_is_place => k_is); (case c_is_place => k_is); (case k_is_place => k_is)
    (case a_fits => k_is); (case l_fits => k_is); (case c_fits => k_is); (case k_fits => k_is)
    (case a_spliced => k_is); (case l_spliced => k_is); (case c_spliced => k_is); (case k_spliced => k_is)
    (case a_turned => k_is); (case l_turned => k_is); (case c_turned => k_is); (case k_turned => k_is)
    (case a_all_spliced => k_is); (case l_all_spliced => k_is); (case c_all_spliced => k_is); (case k_all_spliced => k_is)
    (case a_way_back => k_is); (case l_way_back => k_is); (case c_way_back => k_is); (case k_way_back => k_is)
    (case a__law_cell_at => k_is); (case l__law_cell_at => k_is); (case c__law_cell_at => k_is); (case k__law_cell_at => k_is)
    (case a__law_room => k_is); (case l__law_room => k_is); (case c__law_room => k_is); (case k__law_room => k_is)
    (case a__law_take => k_is); (case l__law_take => k_is); (case c__law_take => k_is); (case k__law_take => k_is)
    (case a__law_same => k_is); (case l__law_same => k_is); (case c__law_same => k_is); (case k__law_same => k_is)
    (case a__law_signs => k_is); (case l__law_signs => k_is); (case c__law_signs => k_is); (case k__law_signs => k_is)
    (case a__law_state => k_is); (case l__law_state => k_is); (case c__law_state => k_is); (case k__law_state => k_is)
    (case a__law_first => k_is); (case l__law_first => k_is); (case c__law_first => k_is); (case k__law_first => k_is)
    (case a__law_row => k_is); (case l__law_row => k_is); (case c__law_row => k_is); (case k__law_row => k_is)
    (case a__law_shows => k_is); (case l__law_shows => k_is); (case c__law_shows => k_is); (case k__law_shows => k_is)
    (case a__law_newest => k_is); (case l__law_newest => k_is); (case c__law_newest => k_is); (case k__law_newest => k_is)
    (case a__law_no_lead => k_is); (case l__law_no_lead => k_is); (case c__law_no_lead => k_is); (case k__law_no_lead => k_is)
    (case a__law_led => k_is); (case l__law_led => k_is); (case c__law_led => k_is); (case k__law_led => k_is)
    (case a__law_grown => k_is); (case l__law_grown => k_is); (case c__law_grown => k_is); (case k__law_grown => k_is)
    (case a__law_way => k_is); (case l__law_way => k_is); (case c__law_way => k_is); (case k__law_way => k_is)
    (case a__law_looked => k_is); (case l__law_looked => k_is); (case c__law_looked => k_is); (case k__law_looked => k_is)
    (case a__law_all_again => k_is); (case l__law_all_again => k_is); (case c__law_all_again => k_is); (case k__law_all_again => k_is)
    (case a__law_deep => k_is); (case l__law_deep => k_is); (case c__law_deep => k_is); (case k__law_deep => k_is)
    (case a_law => k_is); (case l_law => k_is); (case c_law => k_is); (case k_law => k_is)
    (case aC_Tree => k_is); (case pg_Tree => k_is); (case hd_Tree => k_is); (case po_Tree => k_is); (case sa_Tree => k_is); (case mk_Tree => k_is); (case kc_Tree => k_is); (case n_Tree_known => k_is); (case n_Tree_youngest => k_is); (case n_Tree_present => k_is); (case a_Tree__init => k_is); (case i_Tree__init => k_is); (case l_Tree__init => k_is); (case c_Tree__init => k_is); (case k_Tree__init => k_is); (case a_Tree__check => k_is); (case i_Tree__check => k_is); (case l_Tree__check => k_is); (case c_Tree__check => k_is); (case k_Tree__check => k_is); (case a_Tree__here => k_is); (case i_Tree__here => k_is); (case l_Tree__here => k_is); (case c_Tree__here => k_is); (case k_Tree__here => k_is); (case a_Tree__many => k_is); (case i_Tree__many => k_is); (case l_Tree__many => k_is); (case c_Tree__many => k_is); (case k_Tree__many => k_is); (case a_Tree__text_of => k_is); (case i_Tree__text_of => k_is); (case l_Tree__text_of => k_is); (case c_Tree__text_of => k_is); (case k_Tree__text_of => k_is); (case a_Tree__elder_of => k_is); (case i_Tree__elder_of => k_is); (case l_Tree__elder_of => k_is); (case c_Tree__elder_of => k_is); (case k_Tree__elder_of => k_is); (case a_Tree__splices_of => k_is); (case i_Tree__splices_of => k_is); (case l_Tree__splices_of => k_is); (case c_Tree__splices_of => k_is); (case k_Tree__splices_of => k_is); (case a_Tree__places_of => k_is); (case i_Tree__places_of => k_is); (case l_Tree__places_of => k_is); (case c_Tree__places_of => k_is); (case k_Tree__places_of => k_is); (case a_Tree__grow => k_is); (case i_Tree__grow => k_is); (case l_Tree__grow => k_is); (case c_Tree__grow => k_is); (case k_Tree__grow => k_is); (case a_Tree__undone => k_is); (case i_Tree__undone => k_is); (case l_Tree__undone => k_is); (case c_Tree__undone => k_is); (case k_Tree__undone => k_is); (case a_Tree__done => k_is); (case i_Tree__done => k_is); (case l_Tree__done => k_is); (case c_Tree__done => k_is); (case k_Tree__done => k_is); (case a_Tree__to => k_is); (case i_Tree__to => k_is); (case l_Tree__to => k_is); (case c_Tree__to => k_is); (case k_Tree__to => k_is); (case a_Tree__way => k_is); (case i_Tree__way => k_is); (case l_Tree__way => k_is); (case c_Tree__way => k_is); (case k_Tree__way => k_is); (case n_NoFit => k_is); (case n_NoState => k_is); (case n_ModeError => k_is); (case e1F => k_is); (case e2F => k_is); (case e3F => k_is); (case e4F => k_is); (case e7F => k_is); (case e8F => k_is); (case rF => k_is); (case qF0 => kit_is); (case qF1 => kit_is); (case qF2 => kit_is); (case qF3 => kit_is); (case e1N => k_is); (case e2N => k_is); (case e3N => k_is); (case e4N => k_is); (case e7N => k_is); (case e8N => k_is); (case rN => k_is); (case qN0 => kit_is); (case qN1 => kit_is); (case qN2 => kit_is); (case qN3 => kit_is); (case x1 => k_exc); (case x2 => kernel_rfl); (case e5 => k_is); (case e6 => k_is); (case cm => k_is); (case tm => k_is); (case bm => k_is); (case tN => k_is); (case rNN => k_is); (case sN => k_is); (case nN => k_is); (case mN => kernel_rfl); (case kN => k_is); (case a_NoState__init => k_is); (case i_NoState__init => k_is); (case l_NoState__init => k_is); (case c_NoState__init => k_is); (case k_NoState__init => k_is); (case z_len => k_is); (case z_range => k_is); (case z_isinstance => k_is); (case z_int => k_is); (case z_bool => k_is); (case z_str => k_is); (case z_tuple => k_is); (case z_list => k_is); (case z_reversed => k_is); (case z_abs => k_is); (case z_ValueError => k_is)
#print axioms PySem.Challenge.cw_modehand_k55_whole_tree_holds

