import PyProof.Rows.All
import Wide.All
import OpenK.AllK
import Wide.FinOn
import Lean
import PyProof.EqAt
import PyProof.EqKinds
import PyProof.TupleCall
import PySem.Challenge.RW_modehand_k44_any_keys
-- CHANGE: your row's module here, as the last of these rows
set_option Elab.async false
set_option linter.all false
set_option maxRecDepth 100000
/-! THE HAND LAYER, for ints, bools, texts, own classes, LISTS and tuples (index, slices, in, append, pop ..), calls, loops. Paste it whole ahead of your own text; what your proof does not reach may be deleted. -/
namespace L2
open PySem PySem.Spec PyProof.Rows

abbrev Key := Sum Int Str
def keyIs : Key → Value → Bool
  | .inl k, v => Value.isInt k v
  | .inr x, v => Value.isStrOf x v
def keyH (w : World) : Key → Int
  | .inl k => hashInt k
  | .inr x => hashStr w x
theorem keyIs_shape : ∀ {k : Key} {v : Value}, keyIs k v = true → (∃ i t, k = Sum.inl i ∧ v = Value.int i t) ∨ (∃ x t, k = Sum.inr x ∧ v = Value.str x t)
  | .inl i, v, h => by
    obtain ⟨t, e⟩ := Value.isInt_shape (k := i) (v := v) h
    exact .inl ⟨i, t, rfl, e⟩
  | .inr x, v, h => by
    obtain ⟨t, e⟩ := Value.isStrOf_shape (x := x) (v := v) h
    exact .inr ⟨x, t, rfl, e⟩
theorem keyIs_int (i : Int) (t : Tok) : keyIs (.inl i) (.int i t) = true := by simp [keyIs, Value.isInt]
theorem keyIs_str (x : Str) (t : Tok) : keyIs (.inr x) (.str x t) = true := by simp [keyIs, Value.isStrOf]
theorem key_ll (a b : Int) : decide ((Sum.inl a : Key) = Sum.inl b) = (a == b) := by
  by_cases e : a = b
  · subst e; simp
  · have h : ¬ (Sum.inl a : Key) = Sum.inl b := fun q => e (Sum.inl.inj q)
    rw [decide_eq_false h]
    exact (beq_eq_false_iff_ne.mpr e).symm
theorem key_rr (a b : Str) : decide ((Sum.inr a : Key) = Sum.inr b) = decide (a = b) := by
  by_cases e : a = b
  · subst e; simp
  · have h : ¬ (Sum.inr a : Key) = Sum.inr b := fun q => e (Sum.inr.inj q)
    rw [decide_eq_false h, decide_eq_false e]
theorem key_lr (a : Int) (b : Str) : decide ((Sum.inl a : Key) = Sum.inr b) = false := decide_eq_false (fun q => nomatch q)
theorem key_rl (a : Str) (b : Int) : decide ((Sum.inr a : Key) = Sum.inl b) = false := decide_eq_false (fun q => nomatch q)

def mixKind (prog : Program) (w : World) : PySem.KeyKind prog w Key where
  is := keyIs
  hash := keyH w
  inj := fun v a b ha hb => by
    rcases keyIs_shape ha with ⟨i, t, rfl, rfl⟩ | ⟨x, t, rfl, rfl⟩
    · rcases keyIs_shape hb with ⟨j, u, rfl, e⟩ | ⟨y, u, rfl, e⟩
      · injection e with e1 _; rw [e1]
      · exact nomatch e
    · rcases keyIs_shape hb with ⟨j, u, rfl, e⟩ | ⟨y, u, rfl, e⟩
      · exact nomatch e
      · injection e with e1 _; rw [e1]
  byValue := fun k v h => by
    rcases keyIs_shape h with ⟨i, t, rfl, rfl⟩ | ⟨x, t, rfl, rfl⟩ <;> rfl
  pyHash := fun hv h => by
    rcases keyIs_shape hv with ⟨i, t, rfl, rfl⟩ | ⟨x, t, rfl, rfl⟩
    · exact wpAny_pyHash_int h
    · exact wpAny_pyHash_str h
  eqBool := fun hu hv h => by
    rcases keyIs_shape hu with ⟨i, t, rfl, rfl⟩ | ⟨x, t, rfl, rfl⟩
    · rcases keyIs_shape hv with ⟨j, u, rfl, rfl⟩ | ⟨y, u, rfl, rfl⟩
      · rw [key_ll] at h; exact wpAny_eqBool_int h
      · rw [key_lr] at h; exact SeqAt.EqAt.int_str i t y u _ _ _ _ h
    · rcases keyIs_shape hv with ⟨j, u, rfl, rfl⟩ | ⟨y, u, rfl, rfl⟩
      · rw [key_rl] at h; exact SeqAt.EqAt.str_int x t j u _ _ _ _ h
      · rw [key_rr] at h; exact wpAny_eqBool_str h
  «strs» := fun k x t v h => by
    rcases keyIs_shape h with ⟨i, u, rfl, e⟩ | ⟨y, u, rfl, e⟩
    · exact nomatch e
    · injection e with e1 _
      subst e1
      cases v <;> rfl

theorem mixKind_int (prog : Program) (w : World) (i : Int) (t : Tok) : (mixKind prog w).is (.inl i) (.int i t) = true := keyIs_int i t
theorem mixKind_str (prog : Program) (w : World) (x : Str) (t : Tok) : (mixKind prog w).is (.inr x) (.str x t) = true := keyIs_str x t
end L2

namespace L2
open PySem PySem.Spec PyProof.Rows

inductive V where
  | non | bl (b : Bool) | int (i : Int) | str (x : Str) | byt (b : Array UInt8) | flt (b : UInt64) | ref (a : Addr) | ty (n : String)
  deriving DecidableEq

def RelV : V → Value → Prop
  | .non, u => u = Value.none
  | .bl b, u => u = Value.bool b
  | .int i, u => ∃ t, u = Value.int i t
  | .str x, u => ∃ t, u = Value.str x t
  | .byt b, u => ∃ t, u = Value.bytes b t
  | .flt b, u => ∃ t, u = Value.float b t
  | .ref a, u => u = Value.ref a
  | .ty n, u => u = Value.type n

abbrev Vals : List V → List Value → Prop := Paired RelV
theorem Vals.length {xs : List V} {us : List Value} (r : Vals xs us) : xs.length = us.length := Paired.length r
theorem Vals.get : ∀ {xs : List V} {us : List Value} {i : Nat} {x : V}, Vals xs us → xs[i]? = some x → ∃ u, us[i]? = some u ∧ RelV x u
  | _, _, _, _, .nil, e => by simp at e
  | _, _, 0, _, .cons r _, e => by simp at e; subst e; exact ⟨_, rfl, r⟩
  | _, _, i + 1, x, .cons _ t, e => by
    obtain ⟨u, h1, h2⟩ := Vals.get (i := i) (x := x) t (by simpa using e)
    exact ⟨u, by simpa using h1, h2⟩
theorem Vals.append : ∀ {xs ys : List V} {us ws : List Value}, Vals xs us → Vals ys ws → Vals (xs ++ ys) (us ++ ws)
  | _, _, _, _, .nil, s => s
  | _, _, _, _, .cons r t, s => .cons r (Vals.append t s)
theorem Vals.take : ∀ {xs : List V} {us : List Value} (n : Nat), Vals xs us → Vals (xs.take n) (us.take n)
  | _, _, 0, _ => .nil
  | _, _, _ + 1, .nil => .nil
  | _, _, n + 1, .cons r t => .cons r (Vals.take n t)
theorem Vals.drop : ∀ {xs : List V} {us : List Value} (n : Nat), Vals xs us → Vals (xs.drop n) (us.drop n)
  | _, _, 0, r => r
  | _, _, _ + 1, .nil => .nil
  | _, _, n + 1, .cons _ t => Vals.drop n t
def RelO : Option V → Option Value → Prop
  | some v, some u => RelV v u
  | none, none => True
  | _, _ => False
def KV {κ : Type} : List (κ × V) → List (κ × Value) → Prop := Paired fun (p : κ × V) (q : κ × Value) => p.1 = q.1 ∧ RelV p.2 q.2

def kV : Key → V
  | .inl i => .int i
  | .inr x => .str x

inductive HO where
  /-- a list -/
  | lst (xs : List V)
  /-- a tuple (never changes) -/
  | tup (xs : List V)
  /-- a dict whose keys are ints and texts; one whose keys are tuples of ints and texts (the empty one is both) -/
  | dK (kvs : List (Key × V)) | dT (kvs : List (List Key × V))
  /-- a set of ints: its members, its size -/
  | set (S : Int → Bool) (n : Nat)
  /-- an instance of the class at C, its dict at dx, its attributes -/
  | ins (C dx : Addr) (fs : List (Str × V))
  /-- the dict of the instance at x -/
  | own (x : Addr)
  /-- the dict of an exception -/
  | xd (fs : List (Str × V))
  /-- a bound method, f of x -/
  | met (f x : Addr)
  /-- a range object lo, lo + 1, .. below hi -/
  | rng (lo hi : Int)
  /-- a thing that is known to the object (the script; a dict while a loop walks it): read, never written while it is so -/
  | frz (o : Obj) (u : HO)
  /-- a code object's table -/
  | tbl (ps : Array Value)
  /-- any other thing, by what is true of its one object (a def of one's own: SetO a S n := HO.ext fun h => ..) -/
  | ext (φ : Heap → Prop)

abbrev Hp := Addr → Option HO
def upd (H : Hp) (a : Addr) (o : HO) : Hp := fun b => if b = a then some o else H b
theorem upd_same {H : Hp} {a : Addr} {o : HO} : upd H a o a = some o := by unfold upd; rw [if_pos rfl]
theorem upd_ne {H : Hp} {a b : Addr} {o : HO} (h : b ≠ a) : upd H a o b = H b := by unfold upd; rw [if_neg h]
theorem ne_of {H : Hp} {a b : Addr} {o u : HO} (h : H a = some o) (h' : H b = some u) (d : o ≠ u) : a ≠ b := by
  intro e; subst e; rw [h] at h'; exact d (Option.some.inj h')
theorem ne_of_none {H : Hp} {a b : Addr} {o : HO} (h : H a = some o) (h' : H b = none) : a ≠ b := by
  intro e; subst e; rw [h] at h'; cases h'

section
variable (P : Program) (w : World)
def ObjOk (H : Hp) (h : Heap) (a : Addr) : HO → Prop
  | .lst xs => xs.length ≤ sizeLine ∧ ∃ (its : List Value) (n : Nat), Vals xs its ∧ h.get? a = some { cls := .type "list", data := .seq its.toArray n }
  | .tup xs => xs.length ≤ sizeLine ∧ ∃ its : List Value, Vals xs its ∧ IsTup h a its.toArray
  | .dK kvs => kvs.length ≤ sizeLine ∧ (a == sysModules) = false ∧ ∃ vs, KV kvs vs ∧ h.DictOf (mixKind P w) a vs
  | .dT kvs => kvs.length ≤ sizeLine ∧ (a == sysModules) = false ∧ ∃ xs : List (List Key × Addr × Value),
      Paired (fun (p : List Key × V) (q : List Key × Addr × Value) => p.1 = q.1 ∧ H q.2.1 = some (.tup (p.1.map kV)) ∧ RelV p.2 q.2.2) kvs xs ∧
      ∃ o es ep, h.get? a = some o ∧ o.ExactDict ∧ o.data = .dict es ep ∧ es.toList = xs.map (entryOfKey (tupleKind (mixKind P w))) ∧ (xs.map (·.1)).Nodup
  | .set S n => h.SetOf (intKind P w) a S n
  | .ins C dx fs => H dx = some (.own a) ∧ fs.length ≤ 1000 ∧ dx ≠ a ∧ h.get? a = some (PySem.W.instObj C dx) ∧
      ∃ mA, h.Ns1 dx mA ∧ (∀ f, RelO (fs.lookup f) (mA f)) ∧ PySem.Within mA (fs.map (·.1))
  | .own _ => ∃ o, h.get? a = some o
  | .xd fs => ∃ mA, h.Ns1 a mA ∧ ∀ f, RelO (fs.lookup f) (mA f)
  | .rng lo hi => ∃ t u v, h.get? a = some { cls := .type "range", data := .fields #[.int lo t, .int hi u, .int 1 v] }
  | .frz o u => h.get? a = some o ∧ ObjOk H h a u
  | .tbl ps => h.get? a = some { cls := .none, data := .fields ps }
  | .met f x => h.get? a = some (PySem.W.methodObj (.ref f) (.ref x))
  | .ext φ => φ h ∧ (∃ o, h.get? a = some o) ∧ ∀ h1 h2 : Heap, φ h1 → (∀ o, h1.get? a = some o → h2.get? a = some o) → φ h2
def HOk (H : Hp) (h : Heap) : Prop := ∀ a o, H a = some o → ObjOk P w H h a o
end

section
variable {P : Program} {w : World} {H H' : Hp} {h h' : Heap} {a : Addr} {o : HO}
theorem ObjOk.lt (x : ObjOk P w H h a o) : a < h.objs.size := by
  cases o with
  | lst xs => obtain ⟨_, _, _, _, e⟩ := x; exact Heap.lt_size e
  | tup xs => obtain ⟨_, _, _, p⟩ := x; exact p.lt
  | dK kvs => obtain ⟨_, _, _, _, o, _, _, e, _⟩ := x; exact Heap.lt_size e
  | dT kvs => obtain ⟨_, _, _, _, o, _, _, e, _⟩ := x; exact Heap.lt_size e
  | set S n => obtain ⟨o, _, _, _, e, _⟩ := x; exact Heap.lt_size e
  | ins C dx fs => obtain ⟨_, _, _, e, _⟩ := x; exact Heap.lt_size e
  | own y => obtain ⟨_, e⟩ := x; exact Heap.lt_size e
  | xd fs => obtain ⟨_, ⟨_, _, _, e, _⟩, _⟩ := x; exact Heap.lt_size e
  | rng lo hi => obtain ⟨_, _, _, e⟩ := x; exact Heap.lt_size e
  | frz ob u => obtain ⟨e, _⟩ := x; exact Heap.lt_size e
  | tbl ps => exact Heap.lt_size (show h.get? a = some _ from x)
  | met f y => exact Heap.lt_size (show h.get? a = some _ from x)
  | ext φ => obtain ⟨_, ⟨_, e⟩, _⟩ := x; exact Heap.lt_size e
theorem Paired.mapP {α β : Type} {F G : α → β → Prop} : ∀ {l₁ : List α} {l₂ : List β}, Paired F l₁ l₂ → (∀ a b, F a b → G a b) → Paired G l₁ l₂
  | _, _, .nil, _ => .nil
  | _, _, .cons r t, f => .cons (f _ _ r) (Paired.mapP t f)
theorem ObjOk.stay (x : ObjOk P w H h a o) (k : ∀ b u, (b = a ∨ H b = some (.own a)) → h.get? b = some u → h'.get? b = some u)
    (ho : ∀ b, H b = some (.own a) → H' b = some (.own a)) (ht : ∀ b xs, H b = some (.tup xs) → H' b = some (.tup xs)) : ObjOk P w H' h' a o := by
  induction o with
  | lst xs => obtain ⟨z, its, n, r, e⟩ := x; exact ⟨z, its, n, r, k _ _ (.inl rfl) e⟩
  | tup xs => obtain ⟨z, its, r, ob, e, c⟩ := x; exact ⟨z, its, r, ob, k _ _ (.inl rfl) e, c⟩
  | dK kvs => obtain ⟨z, y, vs, r, ob, es, ep, e, c⟩ := x; exact ⟨z, y, vs, r, ob, es, ep, k _ _ (.inl rfl) e, c⟩
  | dT kvs =>
    obtain ⟨z, y, xs, r, ob, es, ep, e, c⟩ := x
    exact ⟨z, y, xs, Paired.mapP r fun p q z => ⟨z.1, ht _ _ z.2.1, z.2.2⟩, ob, es, ep, k _ _ (.inl rfl) e, c⟩
  | set S n => obtain ⟨ob, es, ep, t, e, c⟩ := x; exact ⟨ob, es, ep, t, k _ _ (.inl rfl) e, c⟩
  | ins C dx fs =>
    obtain ⟨d, z, ne, e, mA, ⟨od, es, ep, e2, c⟩, r⟩ := x
    exact ⟨ho _ d, z, ne, k _ _ (.inl rfl) e, mA, ⟨od, es, ep, k _ _ (.inr d) e2, c⟩, r⟩
  | own y => obtain ⟨ob, e⟩ := x; exact ⟨ob, k _ _ (.inl rfl) e⟩
  | xd fs => obtain ⟨mA, ⟨od, es, ep, e, c⟩, r⟩ := x; exact ⟨mA, ⟨od, es, ep, k _ _ (.inl rfl) e, c⟩, r⟩
  | rng lo hi => obtain ⟨t, u, v, e⟩ := x; exact ⟨t, u, v, k _ _ (.inl rfl) e⟩
  | frz ob u ih => obtain ⟨e, q⟩ := x; exact ⟨k _ _ (.inl rfl) e, ih q⟩
  | tbl ps =>
    have e : h.get? a = some { cls := .none, data := .fields ps } := x
    show h'.get? a = some { cls := .none, data := .fields ps }
    exact k a _ (.inl rfl) e
  | met f y =>
    have e : h.get? a = some (PySem.W.methodObj (.ref f) (.ref y)) := x
    show h'.get? a = some (PySem.W.methodObj (.ref f) (.ref y))
    exact k a _ (.inl rfl) e
  | ext φ => obtain ⟨p, ⟨o, e⟩, st⟩ := x; exact ⟨st _ _ p fun o q => k _ _ (.inl rfl) q, ⟨o, k _ _ (.inl rfl) e⟩, st⟩
theorem HOk.lt (x : HOk P w H h) (e : H a = some o) : a < h.objs.size := (x a o e).lt
theorem HOk.fresh (x : HOk P w H h) (e : h.objs.size ≤ a) : H a = none := by
  cases q : H a with
  | none => rfl
  | some u => exact absurd (Nat.lt_of_lt_of_le (x.lt q) e) (Nat.lt_irrefl _)
theorem HOk.kept (x : HOk P w H h) (k : ∀ b u, h.get? b = some u → h'.get? b = some u) : HOk P w H h' := fun a o e =>
  (x a o e).stay (fun b u _ q => k b u q) (fun _ q => q) fun _ _ q => q
theorem HOk.laid (x : HOk P w H h) (k : ∀ b u, h.get? b = some u → h'.get? b = some u) (hp : h.objs.size ≤ a) (new : ObjOk P w (upd H a o) h' a o) : HOk P w (upd H a o) h' := fun b u e => by
  have hn := x.fresh hp
  by_cases hb : b = a
  · subst hb; rw [upd_same] at e; cases e; exact new
  · rw [upd_ne hb] at e
    exact (x b u e).stay (fun c v _ q => k c v q) (fun c q => by rw [upd_ne (ne_of_none q hn)]; exact q) fun c xs q => by rw [upd_ne (ne_of_none q hn)]; exact q
end

def Rd (H : Hp) (a : Addr) (u : HO) : Prop := H a = some u ∨ ∃ o, H a = some (.frz o u)
theorem Rd.ok {P : Program} {w : World} {H : Hp} {h : Heap} {a : Addr} {u : HO} (r : Rd H a u) (x : HOk P w H h) : ObjOk P w H h a u := by
  rcases r with r | ⟨o, r⟩
  · exact x a u r
  · obtain ⟨_, q⟩ := x a _ r
    exact q
def Mut : Option HO → Prop
  | some (.lst _) => True
  | some (.dK _) => True
  | some (.dT _) => True
  | some (.set _ _) => True
  | some (.ins _ _ _) => True
  | some (.ext _) => True
  | _ => False
section
variable {P : Program} {w : World} {H : Hp} {h h' : Heap} {x e : Addr} {o' : HO}
theorem HOk.write (ok : HOk P w H h) (mu : Mut (H x)) (he : e = x ∨ H e = some (.own x)) (k : ∀ b u, b ≠ e → h.get? b = some u → h'.get? b = some u) (heo : ∃ u, h'.get? e = some u)
    (new : ObjOk P w (upd H x o') h' x o') : HOk P w (upd H x o') h' := fun b u q => by
  have nown : ∀ c y, H c = some (.own y) → c ≠ x := fun c y r z => by subst z; rw [r] at mu; exact mu
  have ntup : ∀ c xs, H c = some (.tup xs) → c ≠ x := fun c xs r z => by subst z; rw [r] at mu; exact mu
  by_cases hb : b = x
  · subst hb; rw [upd_same] at q; cases q; exact new
  · rw [upd_ne hb] at q
    by_cases hbe : b = e
    · have q' : H b = some (.own x) := by
        rcases he with z | z
        · exact absurd (hbe.trans z) hb
        · rw [hbe]; exact z
      rw [q] at q'; cases q'
      obtain ⟨v, hv⟩ := heo
      exact ⟨v, by rw [hbe]; exact hv⟩
    · refine (ok b u q).stay (fun c v hc r => k c v ?_ r) (fun c r => by rw [upd_ne (nown c b r)]; exact r) fun c xs r => by rw [upd_ne (ntup c xs r)]; exact r
      rcases hc with rfl | hc
      · exact hbe
      · rintro rfl
        rcases he with z | z
        · exact nown c b hc z
        · rw [hc] at z; cases z; exact hb rfl
end

/-! ### kept unless tracked; of the frames at fs (the callers') the slots may change (an exception that passes writes there); of the records at ex (iterators) nothing is said -/
structure Un (fs ex : List Addr) (H H' : Hp) (h h' : Heap) : Prop where
  keep : ∀ b o, h.get? b = some o → H b = none → b ∉ fs → b ∉ ex → h'.get? b = some o
  slot : ∀ b o, h.get? b = some o → H b = none → b ∈ fs → b ∉ ex → ∃ sl, h'.get? b = some { o with slots := sl }
  free : ∀ b o, h.get? b = some o → H b = none → b ∉ ex → H' b = none
  there : ∀ b o, h.get? b = some o → b ∉ ex → ∃ o', h'.get? b = some o'
  tups : ∀ b xs, H b = some (.tup xs) → H' b = some (.tup xs)
  frzs : ∀ b o u, H b = some (.frz o u) → H' b = some (.frz o u)
  tbls : ∀ b ps, H b = some (.tbl ps) → ∃ more, H' b = some (.tbl (ps ++ more))
section
variable {fs fs' ex ex' : List Addr} {H H1 H2 : Hp} {h h1 h2 h' : Heap} {a x e : Addr} {o : HO}
theorem Un.any (u : Un fs ex H H1 h h1) {b : Addr} {ob : Obj} (q : h.get? b = some ob) (n : H b = none) (hx : b ∉ ex) : ∃ sl, h1.get? b = some { ob with slots := sl } := by
  by_cases hb : b ∈ fs
  · exact u.slot b ob q n hb hx
  · exact ⟨ob.slots, u.keep b ob q n hb hx⟩
theorem Un.kept (k : ∀ b u, h.get? b = some u → h'.get? b = some u) : Un fs ex H H h h' :=
  ⟨fun b ob q _ _ _ => k b ob q, fun b ob q _ _ _ => ⟨ob.slots, k b ob q⟩, fun _ _ _ n _ => n, fun b ob q _ => ⟨ob, k b ob q⟩, fun _ _ q => q, fun _ _ _ q => q, fun _ ps q => ⟨#[], by rw [q]; simp⟩⟩
theorem Un.refl : Un fs ex H H h h := Un.kept fun _ _ q => q
theorem Un.laid (k : ∀ b u, h.get? b = some u → h'.get? b = some u) (hp : h.objs.size ≤ a) (hn : H a = none) : Un fs ex H (upd H a o) h h' where
  keep := fun b u q _ _ _ => k b u q
  slot := fun b u q _ _ _ => ⟨u.slots, k b u q⟩
  free := fun b u q n _ => by rw [upd_ne (Nat.ne_of_lt (Nat.lt_of_lt_of_le (Heap.lt_size q) hp))]; exact n
  there := fun b u q _ => ⟨u, k b u q⟩
  tups := fun b xs q => by rw [upd_ne (ne_of_none q hn)]; exact q
  frzs := fun b u xs q => by rw [upd_ne (ne_of_none q hn)]; exact q
  tbls := fun b ps q => ⟨#[], by rw [upd_ne (ne_of_none q hn), q]; simp⟩
theorem Un.write (mu : Mut (H x)) (he : e = x ∨ H e = some (.own x)) (k : ∀ b u, b ≠ e → h.get? b = some u → h'.get? b = some u) (heo : ∃ u, h'.get? e = some u) : Un fs ex H (upd H x o) h h' := by
  have hx : ∀ b, H b = none → b ≠ x := fun b n z => by subst z; rw [n] at mu; exact mu
  have hb : ∀ b, H b = none → b ≠ e := fun b n z => by
    subst z
    rcases he with r | r
    · exact hx b n r
    · rw [n] at r; cases r
  have hm : ∀ b u, H b = some u → ¬ Mut (some u) → b ≠ x := fun b u q nm z => by subst z; rw [q] at mu; exact nm mu
  refine ⟨fun b u q n _ _ => k b u (hb b n) q, fun b u q n _ _ => ⟨u.slots, k b u (hb b n) q⟩, fun b u q n _ => by rw [upd_ne (hx b n)]; exact n, fun b u q _ => ?_,
    fun b xs q => by rw [upd_ne (hm b _ q fun z => z)]; exact q, fun b u xs q => by rw [upd_ne (hm b _ q fun z => z)]; exact q, fun b ps q => ⟨#[], by rw [upd_ne (hm b _ q fun z => z), q]; simp⟩⟩
  by_cases hbe : b = e
  · subst hbe; exact heo
  · exact ⟨u, k b u hbe q⟩
end

/-! ### the heap without what is tracked -/
def trk (h : Heap) (H : Hp) : List Addr := (List.range h.objs.size).filter fun a => (H a).isSome
def hidT (h : Heap) (H : Hp) : Heap := PySem.W.hideAll h (trk h H)
theorem hidT_size (h : Heap) (H : Hp) : (hidT h H).objs.size = h.objs.size := PySem.W.hideAll_size _ _
theorem hidT_get {h : Heap} {H : Hp} {b : Addr} {o : Obj} (e : h.get? b = some o) (n : H b = none) : (hidT h H).get? b = some o :=
  PySem.W.hideAll_get _ e fun hm => by
    have q : (H b).isSome = true := (List.mem_filter.mp hm).2
    rw [n] at q; simp at q
theorem of_hidT {h : Heap} {H : Hp} {b : Addr} {o : Obj} (e : (hidT h H).get? b = some o) : h.get? b = some o ∧ H b = none := by
  have e' : h.get? b = some o := PySem.W.of_hideAll (trk h H) e
  refine ⟨e', ?_⟩
  cases q : H b with
  | none => rfl
  | some x =>
    have hm : b ∈ trk h H := List.mem_filter.mpr ⟨List.mem_range.mpr (Heap.lt_size e'), by simp [q]⟩
    have z : (hidT h H).get? b = none := PySem.W.hideAll_none (trk h H) hm
    rw [z] at e; cases e

/-! ### OpenK's ledger, filled with every new object but one -/
end L2

namespace L2
open PySem PySem.Spec PyProof.Rows

structure Mod (K : PySem.W.Frag) (mg : Str → Option Value) (base : Heap) : Prop where
  kin : K.In base
  glob : base.Ns mainGlobals mg
  blt : ∃ mb, base.Ns builtinsNs mb ∧ ∀ x : Str, x ≠ "__name__" → mb x = bootBuiltins x
  nolimit : base.NoLimit

structure Cx where
  prog : Program
  w : World
  K : PySem.W.Frag
  mg : Str → Option Value
  base : Heap
  A : Around
  N : List Str
  s₀ : Shared
  H₀ : Hp
  env : Env
  outer : List Env
  stack : List Env
  ex : List Addr
  fn : Str → Bool
  calm : Bool
  pn : List (Addr × Obj)
  xe : Value → Shared → Prop
def frs (l : List Env) : List Addr := l.filterMap (·.frame)
abbrev Cx.fs (X : Cx) : List Addr := frs X.outer

def Vis (sc : Scope) (x : Str) : Prop := sc.names.lookup x = some .local ∨ sc.names.lookup x = some .cell ∨ sc.names.lookup x = some .free
def Loc (sc : Scope) (x : Str) : Prop := sc.names.lookup x = some .local ∨ sc.names.lookup x = some .cell
def Look (env : Env) (h : Heap) (m : Str → Option Value) (x : Str) (u : Value) : Prop :=
  (env.kindOf x = some .local ∧ m x = some u) ∨ ((env.kindOf x = some .cell ∨ env.kindOf x = some .free) ∧ ∃ c, env.cells.lookup x = some c ∧ h.IsCell c (some u))

structure Cx.Ok (X : Cx) : Prop where
  mod : Mod X.K X.mg X.base
  kind : X.env.scope.kind = .function
  glob : X.env.globals = mainGlobals
  blt : X.env.builtins = builtinsNs
  above : X.s₀.heap.objs.size ≤ X.env.locals
  inj : ∀ x y c, X.env.cells.lookup x = some c → X.env.cells.lookup y = some c → x = y
  has : ∀ x, (X.env.kindOf x = some .cell ∨ X.env.kindOf x = some .free) → ∃ c, X.env.cells.lookup x = some c
  cab : ∀ x c, X.fn x = true → X.env.cells.lookup x = some c → X.s₀.heap.objs.size ≤ c
  hd : X.calm = true → X.A.handled = none
  frames : X.A.frames = some X.stack
  stk : X.stack = X.outer ∨ (X.stack = X.env :: X.outer ∧ X.env.frame = some X.env.locals)
  exf : ∀ b ∈ X.ex, b ≠ X.env.locals ∧ ∀ x c, X.env.cells.lookup x = some c → c ≠ b
  bs : ∀ b o, X.base.get? b = some o → X.s₀.heap.get? b = some o ∧ X.H₀ b = none
  bsz : X.base.objs.size ≤ X.s₀.heap.objs.size
  noex : ∀ b o, X.base.get? b = some o → b ∉ X.ex
  exfs : ∀ b ∈ X.ex, b ∉ X.fs
  funs : X.s₀.heap.FunFrames X.base X.outer
  frf : ∀ b ∈ X.fs, X.H₀ b = none

structure Inv (X : Cx) (pins : List (Addr × Obj)) (σ : List (Option V)) (H : Hp) (s : Shared) : Prop where
  ok : X.Ok
  os : s.os = X.s₀.os
  bare : AllBare s.gens
  base : Un X.fs X.ex X.H₀ H X.s₀.heap s.heap
  loc : ∃ m, s.heap.Ns X.env.locals m ∧ ∀ (i : Nat) (x : Str) (v : V), X.N[i]? = some x → σ[i]? = some (some v) → Vis X.env.scope x → ∃ u, RelV v u ∧ Look X.env s.heap m x u
  cell : ∀ x c, X.env.cells.lookup x = some c → ∃ v, s.heap.IsCell c v
  free : H X.env.locals = none
  freeC : ∀ x c, X.env.cells.lookup x = some c → H c = none
  pin : ∀ p ∈ X.pn ++ pins, s.heap.get? p.1 = some p.2 ∧ H p.1 = none ∧ p.1 ≠ X.env.locals ∧ p.1 ∉ X.fs ∧ ∀ v, p.2.data ≠ .cell v
  hok : HOk X.prog X.w H s.heap
  len : σ.length = X.N.length

section
variable {X : Cx} {pins : List (Addr × Obj)} {σ : List (Option V)} {H H' : Hp} {s : Shared} {h' : Heap}

theorem Cx.Ok.nofr (ok : X.Ok) {b : Addr} {o : Obj} (e : X.base.get? b = some o) : b ∉ X.fs := fun hb => by
  have := (ok.funs.mem hb).1
  rw [e] at this; cases this
theorem Inv.bs (I : Inv X pins σ H s) : ∀ b o, X.base.get? b = some o → s.heap.get? b = some o ∧ H b = none := fun b o e =>
  ⟨I.base.keep b o (I.ok.bs b o e).1 (I.ok.bs b o e).2 (I.ok.nofr e) (I.ok.noex b o e), I.base.free b o (I.ok.bs b o e).1 (I.ok.bs b o e).2 (I.ok.noex b o e)⟩
theorem Inv.bk (I : Inv X pins σ H s) : ∀ b o, X.base.get? b = some o → s.heap.get? b = some o := fun b o e => (I.bs b o e).1
theorem Inv.mod (I : Inv X pins σ H s) : Mod X.K X.mg X.base := I.ok.mod
theorem Inv.kIn (I : Inv X pins σ H s) : X.K.In s.heap := I.ok.mod.kin.keeps I.bk
theorem Inv.lt (I : Inv X pins σ H s) : X.env.locals < s.heap.objs.size := let ⟨_, hn, _⟩ := I.loc; hn.lt
theorem Inv.sz (I : Inv X pins σ H s) : X.s₀.heap.objs.size ≤ s.heap.objs.size := Nat.le_trans I.ok.above (Nat.le_of_lt I.lt)
theorem Inv.nofs (I : Inv X pins σ H s) {a : Addr} (h : s.heap.objs.size ≤ a) : a ∉ X.fs := fun hb => by
  obtain ⟨_, o, ho, _⟩ := I.ok.funs.mem hb
  exact absurd (Nat.lt_of_lt_of_le (Heap.lt_size ho) (Nat.le_trans I.sz h)) (Nat.lt_irrefl _)
theorem Inv.cne (I : Inv X pins σ H s) : ∀ x c, X.env.cells.lookup x = some c → c ≠ X.env.locals := fun x c e z => by
  obtain ⟨v, o, ho, hd⟩ := I.cell x c e
  obtain ⟨m, ⟨o', es, ep, ho', hd', _⟩, _⟩ := I.loc
  rw [z, ho'] at ho; cases ho; rw [hd'] at hd; cases hd
theorem Inv.funs (I : Inv X pins σ H s) : s.heap.FunFrames X.base X.outer := by
  have all : ∀ (l : List Env), (∀ b ∈ frs l, b ∈ X.fs) → X.s₀.heap.FunFrames X.base l → s.heap.FunFrames X.base l := by
    intro l
    induction l with
    | nil => intro _ _; trivial
    | cons env r ih =>
      intro hs hl
      obtain ⟨hk, ⟨L, o, hf, hn, ho, hd⟩, hr⟩ := hl
      have hL : L ∈ X.fs := hs L (by unfold frs; rw [List.filterMap_cons, hf]; exact List.mem_cons_self)
      obtain ⟨sl, e⟩ := I.base.slot L o ho (I.ok.frf L hL) hL fun z => I.ok.exfs L z hL
      exact ⟨hk, ⟨L, _, hf, hn, e, hd⟩, ih (fun b hb => hs b (by unfold frs; rw [List.filterMap_cons, hf]; exact List.mem_cons_of_mem _ hb)) hr⟩
  exact all X.outer (fun _ hb => hb) I.ok.funs

theorem Inv.stack (I : Inv X pins σ H s) : s.heap.FunFrames X.base X.stack := by
  rcases I.ok.stk with e | ⟨e, hf⟩
  · rw [e]; exact I.funs
  · rw [e]
    obtain ⟨m, hn, _⟩ := I.loc
    refine .cons (by rw [I.ok.kind]; decide) hf hn ?_ I.funs
    exact Heap.get?_none_of_le (Nat.le_trans I.ok.bsz I.ok.above)
theorem Inv.stkSub (I : Inv X pins σ H s) : ∀ b ∈ frs X.stack, b ∈ X.env.locals :: X.fs := fun b hb => by
  rcases I.ok.stk with e | ⟨e, hf⟩
  · rw [e] at hb; exact List.mem_cons_of_mem _ hb
  · rw [e] at hb
    unfold frs at hb
    rw [List.filterMap_cons, hf] at hb
    exact hb
theorem Inv.stkFree (I : Inv X pins σ H s) : ∀ b ∈ frs X.stack, H b = none := fun b hb => by
  rcases List.mem_cons.mp (I.stkSub b hb) with e | hb
  · rw [e]; exact I.free
  · obtain ⟨_, o, ho, _⟩ := I.ok.funs.mem hb
    exact I.base.free b o ho (I.ok.frf b hb) fun z => I.ok.exfs b z hb

theorem Inv.step {g' : Array GenState} {t' : Nat} {d' : Drawn} {ch : List Addr} (I : Inv X pins σ H s)
    (hch : ∀ b ∈ ch, (b ∈ X.ex ∨ X.s₀.heap.objs.size ≤ b) ∧ b ≠ X.env.locals ∧ (∀ x c, X.env.cells.lookup x = some c → c ≠ b) ∧ ∀ p ∈ X.pn ++ pins, p.1 ≠ b)
    (keep : ∀ b o, b ≠ X.env.locals → b ∉ X.fs → b ∉ ch → s.heap.get? b = some o → H b = none → h'.get? b = some o)
    (slot : ∀ b o, b ≠ X.env.locals → b ∈ X.fs → b ∉ ch → s.heap.get? b = some o → H b = none → ∃ sl, h'.get? b = some { o with slots := sl }) (free : ∀ b o, b ∉ ch → s.heap.get? b = some o → H b = none → H' b = none)
    (there : ∀ b o, b ∉ ch → s.heap.get? b = some o → ∃ o', h'.get? b = some o')
    (tups : ∀ b xs, H b = some (.tup xs) → H' b = some (.tup xs)) (frzs : ∀ b o u, H b = some (.frz o u) → H' b = some (.frz o u)) (tbls : ∀ b ps, H b = some (.tbl ps) → ∃ more, H' b = some (.tbl (ps ++ more)))
    (ns : ∀ m, s.heap.Ns X.env.locals m → h'.Ns X.env.locals m) (hok : HOk X.prog X.w H' h') (hg : AllBare g') :
    Inv X pins σ H' { s with heap := h', gens := g', drawn := d', toks := t' } := by
  have neL : ∀ b o, X.s₀.heap.get? b = some o → b ≠ X.env.locals := fun b o e => Nat.ne_of_lt (Nat.lt_of_lt_of_le (Heap.lt_size e) I.ok.above)
  have neC : ∀ b o, X.s₀.heap.get? b = some o → b ∉ X.ex → b ∉ ch := fun b o e hx hb => by
    rcases (hch b hb).1 with z | z
    · exact hx z
    · exact absurd (Nat.lt_of_lt_of_le (Heap.lt_size e) z) (Nat.lt_irrefl _)
  have cellK : ∀ x c, X.env.cells.lookup x = some c → ∀ v, s.heap.IsCell c v → h'.IsCell c v := fun x c e v ⟨o, ho, hd⟩ => by
    have nch : c ∉ ch := fun z => (hch c z).2.2.1 x c e rfl
    by_cases hc : c ∈ X.fs
    · obtain ⟨sl, q⟩ := slot c o (I.cne x c e) hc nch ho (I.freeC x c e)
      exact ⟨_, q, hd⟩
    · exact ⟨o, keep c o (I.cne x c e) hc nch ho (I.freeC x c e), hd⟩
  refine ⟨I.ok, I.os, hg, ⟨fun b o e n hb hx => ?_, fun b o e n hb hx => ?_, fun b o e n hx => ?_, fun b o e hx => ?_, fun b xs e => tups b xs (I.base.tups b xs e), fun b o xs e => frzs b o xs (I.base.frzs b o xs e), fun b ps e => ?_⟩, ?_, fun x c e => ?_, ?_, fun x c e => ?_, fun p hp => ?_, hok, I.len⟩
  · exact keep b o (neL b o e) hb (neC b o e hx) (I.base.keep b o e n hb hx) (I.base.free b o e n hx)
  · obtain ⟨sl, e1⟩ := I.base.slot b o e n hb hx
    obtain ⟨sl', e2⟩ := slot b _ (neL b o e) hb (neC b o e hx) e1 (I.base.free b o e n hx)
    exact ⟨sl', e2⟩
  · obtain ⟨o', e1⟩ := I.base.there b o e hx
    exact free b o' (neC b o e hx) e1 (I.base.free b o e n hx)
  · obtain ⟨o', e1⟩ := I.base.there b o e hx
    exact there b o' (neC b o e hx) e1
  · obtain ⟨m1, e1⟩ := I.base.tbls b ps e
    obtain ⟨m2, e2⟩ := tbls b _ e1
    exact ⟨m1 ++ m2, by rw [e2, Array.append_assoc]⟩
  · obtain ⟨m, hn, hl⟩ := I.loc
    refine ⟨m, ns m hn, fun i x v e1 e2 e3 => ?_⟩
    obtain ⟨u, r, l⟩ := hl i x v e1 e2 e3
    refine ⟨u, r, ?_⟩
    rcases l with l | ⟨k, c, e, z⟩
    · exact .inl l
    · exact .inr ⟨k, c, e, cellK x c e _ z⟩
  · obtain ⟨v, z⟩ := I.cell x c e
    exact ⟨v, cellK x c e v z⟩
  · obtain ⟨m, ⟨o, _, _, ho, _⟩, _⟩ := I.loc
    exact free _ o (fun z => (hch _ z).2.1 rfl) ho I.free
  · obtain ⟨v, o, ho, hd⟩ := I.cell x c e
    exact free c o (fun z => (hch c z).2.2.1 x c e rfl) ho (I.freeC x c e)
  · obtain ⟨e, n, ne, nf, d⟩ := I.pin p hp
    have nch : p.1 ∉ ch := fun z => (hch p.1 z).2.2.2 p hp rfl
    exact ⟨keep p.1 p.2 ne nf nch e n, free p.1 p.2 nch e n, ne, nf, d⟩
theorem Inv.un {t' : Nat} (I : Inv X pins σ H s) (u : Un X.fs [] H H' s.heap h') (hok : HOk X.prog X.w H' h') : Inv X pins σ H' { s with heap := h', toks := t' } := by
  obtain ⟨m, ⟨o, es, ep, ho, r⟩, _⟩ := id I.loc
  obtain ⟨sl, hL⟩ := u.any ho I.free (by simp)
  exact I.step (g' := s.gens) (d' := s.drawn) (ch := []) (fun _ z => nomatch z) (fun b o _ hb _ e n => u.keep b o e n hb (by simp)) (fun b o _ hb _ e n => u.slot b o e n hb (by simp)) (fun b o _ e n => u.free b o e n (by simp)) (fun b o _ e => u.there b o e (by simp)) u.tups u.frzs u.tbls (fun m' hm => by
    obtain ⟨o', es', ep', ho', r'⟩ := hm
    rw [ho] at ho'; cases ho'
    exact ⟨_, es', ep', hL, r'⟩) hok I.bare
theorem Inv.call {g' : Array GenState} {t' : Nat} {d' : Drawn} {ch : List Addr} (I : Inv X pins σ H s) (u : Un (frs X.stack) ch H H' s.heap h') (hok : HOk X.prog X.w H' h') (hg : AllBare g')
    (hch : ∀ b ∈ ch, (b ∈ X.ex ∨ X.s₀.heap.objs.size ≤ b) ∧ b ≠ X.env.locals ∧ (∀ x c, X.env.cells.lookup x = some c → c ≠ b) ∧ ∀ p ∈ X.pn ++ pins, p.1 ≠ b) :
    Inv X pins σ H' { s with heap := h', gens := g', drawn := d', toks := t' } := by
  obtain ⟨m, ⟨o, es, ep, ho, r⟩, _⟩ := id I.loc
  obtain ⟨sl, hL⟩ := u.any ho I.free fun z => (hch _ z).2.1 rfl
  exact I.step (ch := ch) hch (fun b o hL hb hc e n => u.keep b o e n (fun z => (List.mem_cons.mp (I.stkSub b z)).elim hL hb) hc) (fun b o _ _ hc e n => u.any e n hc) (fun b o hc e n => u.free b o e n hc) (fun b o hc e => u.there b o e hc) u.tups u.frzs u.tbls (fun m' hm => by
    obtain ⟨o', es', ep', ho', r'⟩ := hm
    rw [ho] at ho'; cases ho'
    exact ⟨_, es', ep', hL, r'⟩) hok hg
theorem Inv.turned {t' : Nat} {it : Addr} (I : Inv X pins σ H s) (k : ∀ b o, b ≠ it → s.heap.get? b = some o → h'.get? b = some o) (hn : H it = none) (hL : it ≠ X.env.locals)
    (h1 : it ∈ X.ex ∨ X.s₀.heap.objs.size ≤ it) (h2 : ∀ x c, X.env.cells.lookup x = some c → c ≠ it) (h3 : ∀ p ∈ X.pn ++ pins, p.1 ≠ it) : Inv X pins σ H { s with heap := h', toks := t' } := by
  have nit : ∀ b u, H b = some u → b ≠ it := fun b u e z => by rw [z, hn] at e; cases e
  refine I.step (g' := s.gens) (d' := s.drawn) (ch := [it]) (fun b hb => ?_) (fun b o _ _ hc e _ => k b o (fun z => hc (by simp [z])) e) (fun b o _ _ hc e _ => ⟨o.slots, k b o (fun z => hc (by simp [z])) e⟩) (fun _ _ _ _ n => n)
    (fun b o hc e => ⟨o, k b o (fun z => hc (by simp [z])) e⟩) (fun _ _ e => e) (fun _ _ _ e => e) (fun b ps e => ⟨#[], by rw [e]; simp⟩) (fun m hm => ?_) (fun b u e => ?_) I.bare
  · have e : b = it := by simpa using hb
    subst e
    exact ⟨h1, hL, h2, h3⟩
  · obtain ⟨o, es, ep, ho, r⟩ := hm
    exact ⟨o, es, ep, k _ o (Ne.symm hL) ho, r⟩
  · refine (I.hok b u e).stay (fun c v hc q => k c v ?_ q) (fun _ q => q) fun _ _ q => q
    rcases hc with z | z
    · rw [z]; exact nit b u e
    · exact nit c _ z
theorem Inv.tok (I : Inv X pins σ H s) (t : Nat) : Inv X pins σ H { s with toks := t } := I.un (h' := s.heap) (t' := t) Un.refl I.hok
theorem Inv.kept {t' : Nat} (I : Inv X pins σ H s) (k : ∀ b u, s.heap.get? b = some u → h'.get? b = some u) : Inv X pins σ H { s with heap := h', toks := t' } := I.un (Un.kept k) (I.hok.kept k)
theorem Inv.laid {a : Addr} {o : HO} {t' : Nat} (I : Inv X pins σ H s) (k : ∀ b u, s.heap.get? b = some u → h'.get? b = some u) (hp : s.heap.objs.size ≤ a) (new : ObjOk X.prog X.w (upd H a o) h' a o) :
    Inv X pins σ (upd H a o) { s with heap := h', toks := t' } := I.un (Un.laid k hp (I.hok.fresh hp)) (I.hok.laid k hp new)
theorem Inv.write {x e : Addr} {o : HO} {t' : Nat} (I : Inv X pins σ H s) (mu : Mut (H x)) (he : e = x ∨ H e = some (.own x)) (k : ∀ b u, b ≠ e → s.heap.get? b = some u → h'.get? b = some u) (heo : ∃ u, h'.get? e = some u)
    (new : ObjOk X.prog X.w (upd H x o) h' x o) : Inv X pins σ (upd H x o) { s with heap := h', toks := t' } := I.un (Un.write mu he k heo) (I.hok.write mu he k heo new)
theorem Inv.pins_of {pins' : List (Addr × Obj)} (I : Inv X pins σ H s) (h : ∀ p ∈ pins', s.heap.get? p.1 = some p.2 ∧ H p.1 = none ∧ p.1 ≠ X.env.locals ∧ p.1 ∉ X.fs ∧ ∀ v, p.2.data ≠ .cell v) : Inv X pins' σ H s :=
  ⟨I.ok, I.os, I.bare, I.base, I.loc, I.cell, I.free, I.freeC, fun p hp => (List.mem_append.mp hp).elim (fun z => I.pin p (List.mem_append_left _ z)) (h p), I.hok, I.len⟩

theorem nodup_ix {N : List Str} (hN : N.Nodup) {i j : Nat} {x : Str} (a : N[i]? = some x) (b : N[j]? = some x) : i = j := by
  obtain ⟨h1, e1⟩ := List.getElem?_eq_some_iff.mp a
  obtain ⟨h2, e2⟩ := List.getElem?_eq_some_iff.mp b
  exact (List.getElem_inj hN).mp (e1.trans e2.symm)

theorem store_ok2 {M : Model} {A : Around} {E : Value → Shared → Prop} {i : Nat} {x : Str} {v : V} {u : Value} {Q : Unit → Shared → Prop} (I : Inv X pins σ H s) (hN : X.N.Nodup) (hi : X.N[i]? = some x) (hx : Loc X.env.scope x) (r : RelV v u)
    (h : ∀ s', Inv X pins (σ.set i (some v)) H s' → (∃ a, Heap.SameBut a s.heap s'.heap ∧ (a = X.env.locals ∨ X.env.cells.lookup x = some a)) → Q () s') (hf : X.fn x = true ∨ X.env.scope.names.lookup x = some .local := by first | exact .inl rfl | exact .inr rfl | assumption) : wpAny M A (storeName X.env x u) Q E s := by
  obtain ⟨m, hn, hl⟩ := id I.loc
  have hcls : (X.env.scope.kind == .class || (X.env.scope.kind == .module && X.env.locals != X.env.globals)) = false := by rw [I.ok.kind]; rfl
  have hiσ : i < σ.length := by rw [I.len]; exact (List.getElem?_eq_some_iff.mp hi).1
  have cne := I.cne
  have tracked : ∀ {a : Addr} {h' : Heap}, (∃ o, s.heap.get? a = some o ∧ H a = none) → Heap.SameBut a s.heap h' → HOk X.prog X.w H h' := fun {a h'} ha hs b ob e => by
    obtain ⟨_, _, hfree⟩ := ha
    refine (I.hok b ob e).stay (fun c w' hc q => (hs.2 c ?_).trans q) (fun _ q => q) fun _ _ q => q
    rintro rfl
    rcases hc with rfl | hc
    · rw [hfree] at e; cases e
    · rw [hfree] at hc; cases hc
  rcases hx with hk | hk
  · refine wpAny_storeName_local hk hn (fun h' hn' hs => ?_) hcls
    obtain ⟨oL, _, _, hoL, _⟩ := id hn
    refine h _ ⟨I.ok, I.os, I.bare, ⟨fun b o e n hb hx => ?_, fun b o e n hb hx => ?_, I.base.free, fun b o e hx => ?_, I.base.tups, I.base.frzs, I.base.tbls⟩, ⟨_, hn', fun j y v' e1 e2 e3 => ?_⟩, fun y c e => ?_, I.free, I.freeC, fun p hp => ?_, tracked ⟨oL, hoL, I.free⟩ hs, by simpa using I.len⟩ ⟨_, hs, .inl rfl⟩
    · exact (hs.2 b (Nat.ne_of_lt (Nat.lt_of_lt_of_le (Heap.lt_size e) I.ok.above))).trans (I.base.keep b o e n hb hx)
    · obtain ⟨sl, e1⟩ := I.base.slot b o e n hb hx
      exact ⟨sl, (hs.2 b (Nat.ne_of_lt (Nat.lt_of_lt_of_le (Heap.lt_size e) I.ok.above))).trans e1⟩
    · obtain ⟨o', e1⟩ := I.base.there b o e hx
      exact ⟨o', (hs.2 b (Nat.ne_of_lt (Nat.lt_of_lt_of_le (Heap.lt_size e) I.ok.above))).trans e1⟩
    · by_cases hj : j = i
      · subst hj
        rw [hi] at e1; cases e1
        rw [List.getElem?_set_self hiσ] at e2
        cases e2
        exact ⟨u, r, .inl ⟨hk, by simp⟩⟩
      · rw [List.getElem?_set_ne (Ne.symm hj)] at e2
        obtain ⟨u', r', q⟩ := hl j y v' e1 e2 e3
        refine ⟨u', r', ?_⟩
        rcases q with ⟨k, e⟩ | ⟨k, c, e, z⟩
        · refine .inl ⟨k, ?_⟩
          have : y ≠ x := fun e => hj (nodup_ix hN e1 (e ▸ hi))
          simp [this, e]
        · exact .inr ⟨k, c, e, z.sameBut hs (cne y c e)⟩
    · obtain ⟨w', z⟩ := I.cell y c e
      exact ⟨w', z.sameBut hs (cne y c e)⟩
    · obtain ⟨e, n, ne, nf, d⟩ := I.pin p hp
      exact ⟨(hs.2 p.1 ne).trans e, n, ne, nf, d⟩
  · have hfn : X.fn x = true := by
      rcases hf with z | z
      · exact z
      · rw [z] at hk; cases hk
    obtain ⟨c, hc⟩ := I.ok.has x (.inl hk)
    obtain ⟨w', z⟩ := I.cell x c hc
    refine wpAny_storeName_cell I.ok.kind hk hc z (fun h' hc' hs => ?_)
    obtain ⟨oc, hoc, hocd⟩ := id z
    refine h { s with heap := h' } ⟨I.ok, I.os, I.bare, ⟨fun b o e n hb hx => ?_, fun b o e n hb hx => ?_, I.base.free, fun b o e hx => ?_, I.base.tups, I.base.frzs, I.base.tbls⟩, ⟨m, hn.sameBut hs (Ne.symm (cne x c hc)), fun j y v' e1 e2 e3 => ?_⟩, fun y c' e => ?_, I.free, I.freeC, fun p hp => ?_, tracked ⟨oc, hoc, I.freeC x c hc⟩ hs, by simpa using I.len⟩ ⟨c, hs, .inr hc⟩
    · exact (hs.2 b (Nat.ne_of_lt (Nat.lt_of_lt_of_le (Heap.lt_size e) (I.ok.cab x c hfn hc)))).trans (I.base.keep b o e n hb hx)
    · obtain ⟨sl, e1⟩ := I.base.slot b o e n hb hx
      exact ⟨sl, (hs.2 b (Nat.ne_of_lt (Nat.lt_of_lt_of_le (Heap.lt_size e) (I.ok.cab x c hfn hc)))).trans e1⟩
    · obtain ⟨o', e1⟩ := I.base.there b o e hx
      exact ⟨o', (hs.2 b (Nat.ne_of_lt (Nat.lt_of_lt_of_le (Heap.lt_size e) (I.ok.cab x c hfn hc)))).trans e1⟩
    · by_cases hj : j = i
      · subst hj
        rw [hi] at e1; cases e1
        rw [List.getElem?_set_self hiσ] at e2
        cases e2
        exact ⟨u, r, .inr ⟨.inl hk, c, hc, hc'⟩⟩
      · rw [List.getElem?_set_ne (Ne.symm hj)] at e2
        obtain ⟨u', r', q⟩ := hl j y v' e1 e2 e3
        refine ⟨u', r', ?_⟩
        rcases q with q | ⟨k, c', e, z'⟩
        · exact .inl q
        · refine .inr ⟨k, c', e, z'.sameBut hs ?_⟩
          rintro rfl
          exact hj (nodup_ix hN e1 (I.ok.inj _ _ _ e hc ▸ hi))
    · by_cases hcc : c' = c
      · subst hcc; exact ⟨_, hc'⟩
      · obtain ⟨w2, z2⟩ := I.cell y c' e
        exact ⟨w2, z2.sameBut hs hcc⟩
    · obtain ⟨e, n, ne, nf, d⟩ := I.pin p hp
      refine ⟨(hs.2 p.1 ?_).trans e, n, ne, nf, d⟩
      intro q
      rw [q, hoc] at e
      have q' : oc = p.2 := Option.some.inj e
      exact d w' (by rw [← q']; exact hocd)
theorem store_ok {M : Model} {A : Around} {E : Value → Shared → Prop} {i : Nat} {x : Str} {v : V} {u : Value} {Q : Unit → Shared → Prop} (I : Inv X pins σ H s) (hN : X.N.Nodup) (hi : X.N[i]? = some x) (hx : Loc X.env.scope x) (r : RelV v u)
    (h : ∀ s', Inv X pins (σ.set i (some v)) H s' → Q () s') (hf : X.fn x = true ∨ X.env.scope.names.lookup x = some .local := by first | exact .inl rfl | exact .inr rfl | assumption) : wpAny M A (storeName X.env x u) Q E s :=
  store_ok2 I hN hi hx r (fun s' I' _ => h s' I') hf
theorem Inv.call' {s' : Shared} {ch : List Addr} (I : Inv X pins σ H s) (ho : s'.os = s.os) (u : Un (frs X.stack) ch H H' s.heap s'.heap) (hok : HOk X.prog X.w H' s'.heap) (hg : AllBare s'.gens)
    (hch : ∀ b ∈ ch, (b ∈ X.ex ∨ X.s₀.heap.objs.size ≤ b) ∧ b ≠ X.env.locals ∧ (∀ x c, X.env.cells.lookup x = some c → c ≠ b) ∧ ∀ p ∈ X.pn ++ pins, p.1 ≠ b) : Inv X pins σ H' s' := by
  obtain ⟨h', g', d', t', o'⟩ := s'
  have e : o' = s.os := ho
  subst e
  exact I.call (g' := g') (t' := t') (d' := d') u hok hg hch
end

/-! ### the judgements -/
abbrev XK := Value → Option Addr → Hp → Prop
abbrev St := List (Option V)
abbrev VK := V → Hp → Prop
abbrev TE := St → Hp → VK → Prop
abbrev TT := St → Hp → (Bool → Hp → Prop) → Prop
abbrev TA := St → Hp → (List V → Hp → Prop) → Prop
structure Ends where
  nx : St → Hp → Prop
  rt : VK
  bk : St → Hp → Prop := fun _ _ => False
  ct : St → Hp → Prop := fun _ _ => False
abbrev TS := Ends → St → Hp → Prop

def EP (X : Cx) (pins : List (Addr × Obj)) (σ : St) (Q : VK) (u : Value) (s' : Shared) : Prop := ∃ v H', Inv X pins σ H' s' ∧ RelV v u ∧ Q v H'
def TP (X : Cx) (pins : List (Addr × Obj)) (σ : St) (Q : Bool → Hp → Prop) (b : Bool) (s' : Shared) : Prop := ∃ H', Inv X pins σ H' s' ∧ Q b H'
def AP (X : Cx) (pins : List (Addr × Obj)) (σ : St) (Q : List V → Hp → Prop) (us : List Value) (s' : Shared) : Prop := ∃ vs H', Inv X pins σ H' s' ∧ Vals vs us ∧ Q vs H'
def SP (X : Cx) (pins : List (Addr × Obj)) (D : Ends) (f : Flow) (s' : Shared) : Prop :=
  match f with
  | .next => ∃ σ' H', Inv X pins σ' H' s' ∧ D.nx σ' H'
  | .brk => ∃ σ' H', Inv X pins σ' H' s' ∧ D.bk σ' H'
  | .cont => ∃ σ' H', Inv X pins σ' H' s' ∧ D.ct σ' H'
  | .ret u => ∃ v σ' H', Inv X pins σ' H' s' ∧ RelV v u ∧ D.rt v H'

def PE (X : Cx) (e : Expr) (t : TE) : Prop :=
  ∀ (pins : List (Addr × Obj)) (s : Shared) (σ : St) (H : Hp) (Q : VK), Inv X pins σ H s → t σ H Q → wpAny (model X.prog X.w) X.A (eval e X.env) (EP X pins σ Q) X.xe s
def PT (X : Cx) (e : Expr) (t : TT) : Prop :=
  ∀ (pins : List (Addr × Obj)) (s : Shared) (σ : St) (H : Hp) (Q : Bool → Hp → Prop), Inv X pins σ H s → t σ H Q → wpAny (model X.prog X.w) X.A (isTrue e X.env (eval e X.env)) (TP X pins σ Q) X.xe s
def PW (X : Cx) (e : Expr) (t : TT) : Prop :=
  ∀ (whole : Sem Value) (pins : List (Addr × Obj)) (s : Shared) (σ : St) (H : Hp) (Q : Bool → Hp → Prop), Inv X pins σ H s → t σ H Q → wpAny (model X.prog X.w) X.A (isTrue e X.env whole) (TP X pins σ Q) X.xe s
theorem PW.pt {X : Cx} {e : Expr} {t : TT} (h : PW X e t) : PT X e t := h _
def PA (X : Cx) (es : List Expr) (t : TA) : Prop :=
  ∀ (pos : Pos) (pins : List (Addr × Obj)) (s : Shared) (σ : St) (H : Hp) (Q : List V → Hp → Prop), Inv X pins σ H s → t σ H Q → wpAny (model X.prog X.w) X.A (spliced (backTo pos (starEach es X.env))) (AP X pins σ Q) X.xe s
def PS (X : Cx) (st : Stmt) (t : TS) : Prop :=
  ∀ (pins : List (Addr × Obj)) (s : Shared) (σ : St) (H : Hp) (D : Ends), Inv X pins σ H s → t D σ H → wpAny (model X.prog X.w) X.A (exec st X.env) (SP X pins D) X.xe s
def PSs (X : Cx) (st : List Stmt) (t : TS) : Prop :=
  ∀ (pins : List (Addr × Obj)) (s : Shared) (σ : St) (H : Hp) (D : Ends), Inv X pins σ H s → t D σ H → wpAny (model X.prog X.w) X.A (execs st X.env) (SP X pins D) X.xe s
theorem thn {α : Type} {t : Sem α} {Q Q' : α → Shared → Prop} {M : Model} {A : Around} {E : Value → Shared → Prop} {s : Shared} (h : wpAny M A t Q E s) (hQ : ∀ a s, Q a s → Q' a s) : wpAny M A t Q' E s := wpAny_mono h hQ fun _ _ x => x
end L2

namespace L2
open PySem PySem.Spec PyProof.Rows
section
variable {X : Cx}

/-! ### names and constants -/
def tVar (i : Nat) : TE := fun σ H Q => ∃ v, σ[i]? = some (some v) ∧ Q v H
def tC (v : V) : TE := fun _ H Q => Q v H
theorem pe_var {i : Nat} {x : Str} {pos : Pos} (hN : X.N[i]? = some x) (hv : Vis X.env.scope x) (hd : (x == ("__debug__" : Str)) = false := by decide) (hcd : (x == ("__classdict__" : Str)) = false := by decide) : PE X (.Name x pos) (tVar i) := by
  intro pins s σ H Q I h
  obtain ⟨v, e, h⟩ := h
  obtain ⟨m, hn, hl⟩ := I.loc
  obtain ⟨u, r, l⟩ := hl i x v hN e hv
  have fin : EP X pins σ Q u s := ⟨v, H, I, r, h⟩
  rcases l with ⟨hk, hm⟩ | ⟨hk, c, hc, hcell⟩
  · exact wpAny_Name (wpAny_loadName_local I.ok.kind hk hn hm fin) hd
  · rcases hk with hk | hk
    · exact wpAny_Name (wpAny_loadName_cell I.ok.kind hk hc hcell fin) hd
    · exact wpAny_Name (wpAny_loadName_free I.ok.kind hk hc hcell fin hcd) hd
theorem pe_int {i j pos} : PE X (.Constant (.int i) j pos) (tC (.int i)) := fun _ _ _ H _ I h => wpAny_Constant_int ⟨.int i, H, I.tok _, ⟨_, rfl⟩, h⟩
theorem pe_bl {b j pos} : PE X (.Constant (.bool b) j pos) (tC (.bl b)) := fun _ _ _ H _ I h => Constant_bool ⟨.bl b, H, I, rfl, h⟩
theorem pe_non {j pos} : PE X (.Constant .none j pos) (tC .non) := fun _ _ _ H _ I h => Constant_none ⟨.non, H, I, rfl, h⟩
theorem pe_str {x j pos} : PE X (.Constant (.str x) j pos) (tC (.str x)) := fun _ _ _ H _ I h => Calls.Constant_str ⟨.str x, H, I.tok _, ⟨_, rfl⟩, h⟩

def Gl (X : Cx) (x : Str) : Prop := X.env.kindOf x = some .globalImplicit
theorem ld_glob {E : Value → Shared → Prop} {pins : List (Addr × Obj)} {s : Shared} {σ : St} {H : Hp} {x : Str} {u : Value} {pos : Pos} {Q : Value → Shared → Prop} (I : Inv X pins σ H s) (hg : Gl X x) (hm : X.mg x = some u) (h : Q u s)
    (hd : (x == ("__debug__" : Str)) = false := by decide) : wpAny (model X.prog X.w) X.A (eval (.Name x pos) X.env) Q E s :=
  Calls.Name_function_global I.ok.kind hg (Calls.loadGlobal_global (by rw [I.ok.glob]; exact I.mod.glob.keeps I.bk) hm h) hd
theorem ld_blt {E : Value → Shared → Prop} {pins : List (Addr × Obj)} {s : Shared} {σ : St} {H : Hp} {x : Str} {u : Value} {pos : Pos} {Q : Value → Shared → Prop} (I : Inv X pins σ H s) (hg : Gl X x) (hm : X.mg x = none) (hv : bootBuiltins x = some u) (h : Q u s)
    (hn : x ≠ "__name__" := by decide) (hd : (x == ("__debug__" : Str)) = false := by decide) : wpAny (model X.prog X.w) X.A (eval (.Name x pos) X.env) Q E s := by
  obtain ⟨mb, h1, h2⟩ := I.mod.blt
  exact Calls.Name_function_global I.ok.kind hg (Calls.loadGlobal_builtin (by rw [I.ok.glob]; exact I.mod.glob.keeps I.bk) hm (by rw [I.ok.blt]; exact h1.keeps I.bk) ((h2 x hn).trans hv) h) hd
theorem pe_glob {x : Str} {v : V} {u : Value} {pos : Pos} (hg : Gl X x) (hm : X.mg x = some u) (r : RelV v u) (hd : (x == ("__debug__" : Str)) = false := by decide) : PE X (.Name x pos) (tC v) :=
  fun _ _ _ H _ I h => ld_glob I hg hm ⟨v, H, I, r, h⟩ hd
theorem pe_bltn {x : Str} {v : V} {u : Value} {pos : Pos} (hg : Gl X x) (hm : X.mg x = none) (hv : bootBuiltins x = some u) (r : RelV v u) (hn : x ≠ "__name__" := by decide) (hd : (x == ("__debug__" : Str)) = false := by decide) : PE X (.Name x pos) (tC v) :=
  fun _ _ _ H _ I h => ld_blt I hg hm hv ⟨v, H, I, r, h⟩ hn hd

/-! ### arithmetic -/
variable {a b : Expr} {ta tb : TE} {pos : Pos}
/-! ### comparisons -/
def tB (t : TE) : TT := fun σ H Q => t σ H fun x H1 => ∃ c, x = .bl c ∧ Q c H1
theorem pt_val {e : Expr} {t : TE} (h : PE X e t) (he : ∀ whole, isTrue e X.env whole = (do let v ← whole; standAt e.pos; holding [v] (truthy v)) := by intro _; rfl) : PT X e (tB t) := by
  intro pins s σ H Q I hw
  refine isTrue_plain (thn (h pins s σ H _ I hw) fun v s1 ⟨x, H1, I1, r1, q1⟩ => ?_) (he _)
  obtain ⟨d, rfl, q⟩ := q1
  cases r1
  exact wpAny_truthy_bool ⟨H1, I1, q⟩

/-! ### and, or, not -/
variable {tA tB' : TT} {rest : List Expr}
def tAnd (t u : TT) : TT := fun σ H Q => t σ H fun c H1 => if c = true then u σ H1 Q else Q false H1
def tOr (t u : TT) : TT := fun σ H Q => t σ H fun c H1 => if c = true then Q true H1 else u σ H1 Q
def tNot (t : TT) : TT := fun σ H Q => t σ H fun c H1 => Q (!c) H1
theorem pw_and1 (ha : PT X a tA) : PW X (.BoolOp .And [a] pos) tA := by
  intro wh pins s σ H Q I h
  refine isTrue_and (thn (ha pins s σ H Q I h) fun c s1 e => ?_)
  cases c with
  | true => exact isTrue_and_nil e
  | false => exact e
theorem pw_or1 (ha : PT X a tA) : PW X (.BoolOp .Or [a] pos) tA := by
  intro wh pins s σ H Q I h
  refine isTrue_or (thn (ha pins s σ H Q I h) fun c s1 e => ?_)
  cases c with
  | false => exact isTrue_or_nil e
  | true => exact e
theorem pw_and (ha : PT X a tA) (hb : PW X (.BoolOp .And (b :: rest) pos) tB') : PW X (.BoolOp .And (a :: b :: rest) pos) (tAnd tA tB') := by
  intro wh pins s σ H Q I h
  refine isTrue_and (thn (ha pins s σ H _ I h) fun c s1 ⟨H1, I1, q1⟩ => ?_)
  cases c with
  | true => exact hb wh pins s1 σ H1 Q I1 q1
  | false => exact ⟨H1, I1, q1⟩
theorem pw_or (ha : PT X a tA) (hb : PW X (.BoolOp .Or (b :: rest) pos) tB') : PW X (.BoolOp .Or (a :: b :: rest) pos) (tOr tA tB') := by
  intro wh pins s σ H Q I h
  refine isTrue_or (thn (ha pins s σ H _ I h) fun c s1 ⟨H1, I1, q1⟩ => ?_)
  cases c with
  | true => exact ⟨H1, I1, q1⟩
  | false => exact hb wh pins s1 σ H1 Q I1 q1
theorem pt_not (ha : PT X a tA) : PT X (.UnaryOp .Not a pos) (tNot tA) := by
  intro pins s σ H Q I h
  exact isTrue_not (ha pins s σ H (fun c H1 => Q (!c) H1) I h)
def tAndV (ta tb : TE) : TE := fun σ H Q => ta σ H fun x H1 => ∃ c, x = .bl c ∧ if c = true then tb σ H1 Q else Q (.bl false) H1
def tNotV (ta : TE) : TE := fun σ H Q => ta σ H fun x H1 => ∃ c, x = .bl c ∧ Q (.bl (!c)) H1
theorem pe_one {op} {t : TE} (h : PE X a t) : PE X (.BoolOp op [a] pos) t := fun pins s σ H Q I hw => BoolOp_one (h pins s σ H Q I hw)
theorem pe_and (ha : PE X a ta) (hb : PE X (.BoolOp .And (b :: rest) pos) tb) : PE X (.BoolOp .And (a :: b :: rest) pos) (tAndV ta tb) := by
  intro pins s σ H Q I h
  refine BoolOp_and (thn (ha pins s σ H _ I h) fun v s1 ⟨x, H1, I1, r1, q1⟩ => ?_)
  obtain ⟨c, rfl, q1⟩ := q1
  cases r1
  refine wpAny_truthy_bool ?_
  cases c with
  | true => exact hb pins s1 σ H1 Q I1 q1
  | false => exact ⟨.bl false, H1, I1, rfl, q1⟩
theorem pe_not (ha : PE X a ta) : PE X (.UnaryOp .Not a pos) (tNotV ta) := by
  intro pins s σ H Q I h
  refine UnaryOp_ (thn (ha pins s σ H _ I h) fun v s1 ⟨x, H1, I1, r1, q1⟩ => ?_)
  obtain ⟨c, rfl, q1⟩ := q1
  cases r1
  exact not_of (wpAny_truthy_bool ⟨.bl (!c), H1, I1, rfl, q1⟩)
end
end L2

namespace L2
open PySem PySem.Spec PyProof.Rows

/-! ### a list, a tuple that is read: tracked, frozen, or an object of the module -/
def SqL (K : PySem.W.Frag) (H : Hp) (a : Addr) (xs : List V) : Prop :=
  Rd H a (.lst xs) ∨
    ∃ (o : Obj) (its : Array Value) (n : Nat), K.lookup a = some o ∧ o.cls = .type "list" ∧ o.dict = none ∧ o.data = .seq its n ∧ its.size ≤ sizeLine ∧ Vals xs its.toList
def SqT (K : PySem.W.Frag) (H : Hp) (a : Addr) (xs : List V) : Prop :=
  Rd H a (.tup xs) ∨
    ∃ (o : Obj) (its : Array Value) (n : Nat), K.lookup a = some o ∧ o.cls = .type "tuple" ∧ o.data = .seq its n ∧ its.size ≤ sizeLine ∧ Vals xs its.toList
def absV : Value → Option V
  | .none => some .non
  | .bool b => some (.bl b)
  | .int i _ => some (.int i)
  | .str x _ => some (.str x)
  | .bytes b _ => some (.byt b)
  | .float b _ => some (.flt b)
  | .ref a => some (.ref a)
  | .type n => some (.ty n)
  | _ => none
theorem RelV.abs {x : V} {u : Value} (r : RelV x u) : absV u = some x := by
  cases x with
  | non => cases r; rfl
  | bl _ => cases r; rfl
  | int _ => obtain ⟨t, rfl⟩ := r; rfl
  | str _ => obtain ⟨t, rfl⟩ := r; rfl
  | byt _ => obtain ⟨t, rfl⟩ := r; rfl
  | flt _ => obtain ⟨t, rfl⟩ := r; rfl
  | ref _ => cases r; rfl
  | ty _ => cases r; rfl
theorem RelV.inj {x y : V} {u : Value} (r : RelV x u) (q : RelV y u) : x = y := Option.some.inj (r.abs.symm.trans q.abs)
theorem Vals.inj : ∀ {xs ys : List V} {us : List Value}, Vals xs us → Vals ys us → xs = ys
  | _, _, _, .nil, .nil => rfl
  | _, _, _, .cons r t, .cons r' t' => by rw [r.inj r', Vals.inj t t']
section
variable {X : Cx} {pins : List (Addr × Obj)} {σ : St} {H : Hp} {s : Shared} {a : Addr} {xs ys : List V}
theorem SqL.of {K : PySem.W.Frag} (h : H a = some (.lst xs)) : SqL K H a xs := .inl (.inl h)
theorem SqT.of {K : PySem.W.Frag} (h : H a = some (.tup xs)) : SqT K H a xs := .inl (.inl h)
theorem Inv.list (I : Inv X pins σ H s) (h : SqL X.K H a xs) : ∃ its : List Value, Vals xs its ∧ PlainL s.heap a its.toArray ∧ xs.length ≤ sizeLine := by
  rcases h with h | ⟨o, its, n, hk, hc, hd, hs, hz, r⟩
  · obtain ⟨z, its, n, r, e⟩ := h.ok I.hok
    exact ⟨its, r, ⟨_, n, e, rfl, rfl, rfl⟩, z⟩
  · refine ⟨its.toList, r, ⟨o, n, I.kIn a o hk, hc, hd, by simpa using hs⟩, ?_⟩
    have e := r.length
    simp only [Array.length_toList] at e
    omega
theorem Inv.tuple (I : Inv X pins σ H s) (h : SqT X.K H a xs) : ∃ its : List Value, Vals xs its ∧ IsTup s.heap a its.toArray ∧ xs.length ≤ sizeLine := by
  rcases h with h | ⟨o, its, n, hk, hc, hs, hz, r⟩
  · obtain ⟨z, its, r, p⟩ := h.ok I.hok
    exact ⟨its, r, p, z⟩
  · refine ⟨its.toList, r, ⟨o, I.kIn a o hk, hc, n, by simpa using hs⟩, ?_⟩
    have e := r.length
    simp only [Array.length_toList] at e
    omega
theorem Inv.list_inj (I : Inv X pins σ H s) (h : SqL X.K H a xs) (h' : SqL X.K H a ys) : xs = ys := by
  obtain ⟨its, r, ⟨o, n, e, _, _, d⟩, _⟩ := I.list h
  obtain ⟨its', r', ⟨o', n', e', _, _, d'⟩, _⟩ := I.list h'
  rw [e] at e'; cases e'
  rw [d] at d'
  injection d' with d1 _
  have : its = its' := by simpa using congrArg Array.toList d1
  subst this
  exact r.inj r'
end

/-! ### another wish about exceptions -/
abbrev Cx.wish (X : Cx) (E : Value → Shared → Prop) : Cx := { X with xe := E }
abbrev Cx.nox (X : Cx) : Cx := X.wish fun _ _ => False
theorem Cx.Ok.wish {X : Cx} (ok : X.Ok) (E : Value → Shared → Prop) : (X.wish E).Ok :=
  ⟨ok.mod, ok.kind, ok.glob, ok.blt, ok.above, ok.inj, ok.has, ok.cab, ok.hd, ok.frames, ok.stk, ok.exf, ok.bs, ok.bsz, ok.noex, ok.exfs, ok.funs, ok.frf⟩
theorem Cx.Ok.unwish {X : Cx} {E : Value → Shared → Prop} (ok : (X.wish E).Ok) : X.Ok :=
  ⟨ok.mod, ok.kind, ok.glob, ok.blt, ok.above, ok.inj, ok.has, ok.cab, ok.hd, ok.frames, ok.stk, ok.exf, ok.bs, ok.bsz, ok.noex, ok.exfs, ok.funs, ok.frf⟩
section
variable {X : Cx} {pins : List (Addr × Obj)} {σ : St} {H : Hp} {s : Shared} {E : Value → Shared → Prop}
theorem Inv.wish (I : Inv X pins σ H s) (E : Value → Shared → Prop) : Inv (X.wish E) pins σ H s := ⟨I.ok.wish E, I.os, I.bare, I.base, I.loc, I.cell, I.free, I.freeC, I.pin, I.hok, I.len⟩
theorem Inv.unwish (I : Inv (X.wish E) pins σ H s) : Inv X pins σ H s := ⟨I.ok.unwish, I.os, I.bare, I.base, I.loc, I.cell, I.free, I.freeC, I.pin, I.hok, I.len⟩
theorem SP.unwish {D : Ends} {f : Flow} {s' : Shared} (h : SP (X.wish E) pins D f s') : SP X pins D f s' := by
  cases f with
  | next => obtain ⟨σ', H', I, q⟩ := h; exact ⟨σ', H', I.unwish, q⟩
  | brk => obtain ⟨σ', H', I, q⟩ := h; exact ⟨σ', H', I.unwish, q⟩
  | cont => obtain ⟨σ', H', I, q⟩ := h; exact ⟨σ', H', I.unwish, q⟩
  | ret u => obtain ⟨v, σ', H', I, r, q⟩ := h; exact ⟨v, σ', H', I.unwish, r, q⟩
theorem PSs.nox {st : List Stmt} {t : TS} (h : PSs X.nox st t) : PSs X st t := fun pins s σ H D I hw =>
  wpAny_mono (h pins s σ H D (I.wish _) hw) (fun _ _ q => q.unwish) fun _ _ z => False.elim z
end

/-! ### blocks and small statements -/
section
variable {X : Cx} {st : Stmt} {rest : List Stmt} {t u : TS} {e : Expr} {te : TE} {pos : Pos}
def tNext : TS := fun D σ H => D.nx σ H
def tSeq (t u : TS) : TS := fun D σ H => t { D with nx := u D } σ H
theorem pss_nil : PSs X [] tNext := fun _ _ σ H _ I h => wpAny_execs_nil ⟨σ, H, I, h⟩
theorem pss_cons (h1 : PS X st t) (h2 : PSs X rest u) : PSs X (st :: rest) (tSeq t u) := by
  intro pins s σ H D I h
  refine wpAny_execs_cons (thn (h1 pins s σ H { D with nx := u D } I h) fun f s1 q => ?_)
  cases f with
  | next =>
    obtain ⟨σ', H', I', q⟩ := q
    exact h2 pins s1 σ' H' D I' q
  | ret v => exact q
  | brk => exact q
  | cont => exact q
theorem pss_one (h1 : PS X st t) : PSs X [st] t := by
  intro pins s σ H D I h
  refine wpAny_execs_cons (thn (h1 pins s σ H D I h) fun f s1 q => ?_)
  cases f with
  | next => exact wpAny_execs_nil q
  | ret v => exact q
  | brk => exact q
  | cont => exact q
theorem Inv.quiet {pins : List (Addr × Obj)} {σ : St} {H : Hp} {s : Shared} (I : Inv X pins σ H s) : interactive X.env = false := by simp [interactive, I.ok.kind]
def tDrop (te : TE) : TS := fun D σ H => te σ H fun _ H1 => D.nx σ H1
theorem ps_expr (he : PE X e te) (hs : swapsWith e none pos.line X.env = pure false := by rfl) : PS X (.Expr e pos) (tDrop te) := by
  intro pins s σ H D I h
  exact wpAny_Expr_any (thn (he pins s σ H _ I h) fun v s1 ⟨x, H1, I1, r1, q1⟩ => ⟨σ, H1, I1, q1⟩) I.quiet hs
def tRet (te : TE) : TS := fun D σ H => te σ H D.rt
theorem ps_ret (he : PE X e te) : PS X (.Return (some e) pos) (tRet te) := by
  intro pins s σ H D I h
  exact wpAny_Return_some (thn (he pins s σ H _ I h) fun v s1 ⟨x, H1, I1, r1, q1⟩ => ⟨x, σ, H1, I1, r1, q1⟩)
def tIfS (c : TT) (t u : TS) : TS := fun D σ H => c σ H fun b H1 => if b = true then t D σ H1 else u D σ H1
theorem ps_if {c : Expr} {a b : List Stmt} {tc : TT} (hc : PT X c tc) (ha : PSs X a t) (hb : PSs X b u) : PS X (.If c a b pos) (tIfS tc t u) := by
  intro pins s σ H D I h
  refine wpAny_If (thn (hc pins s σ H _ I h) fun d s1 ⟨H1, I1, q1⟩ => ?_)
  cases d with
  | true => exact ha pins s1 σ H1 D I1 q1
  | false => exact hb pins s1 σ H1 D I1 q1
end

/-! ### targets -/
abbrev TG := V → St → Hp → (St → Hp → Prop) → Prop
def PG (X : Cx) (target : Expr) (t : TG) : Prop :=
  ∀ (pins : List (Addr × Obj)) (s : Shared) (σ : St) (H : Hp) (v : V) (u : Value) (Q : St → Hp → Prop), Inv X pins σ H s → RelV v u → t v σ H Q →
    wpAny (model X.prog X.w) X.A (assign target X.env u) (fun _ s' => ∃ σ' H', Inv X pins σ' H' s' ∧ Q σ' H') X.xe s
section
variable {X : Cx} {pos : Pos}
def gName (i : Nat) : TG := fun v σ H Q => Q (σ.set i (some v)) H
theorem pg_name {i : Nat} {x : Str} (hN : X.N.Nodup) (hi : X.N[i]? = some x) (hx : Loc X.env.scope x) (hf : X.fn x = true ∨ X.env.scope.names.lookup x = some .local := by first | exact .inl rfl | exact .inr rfl | assumption) : PG X (.Name x pos) (gName i) := by
  intro pins s σ H v u Q I r h
  exact wpAny_assign_Name (store_ok I hN hi hx r (fun s' I' => ⟨_, H, I', h⟩) hf)
def tAsg (te : TE) (g : TG) : TS := fun D σ H => te σ H fun x H1 => g x σ H1 D.nx
theorem ps_set {i : Nat} {x : Str} {e : Expr} {te : TE} {pos' : Pos} (hN : X.N.Nodup) (hi : X.N[i]? = some x) (hx : Loc X.env.scope x) (he : PE X e te) (hs : swapsWith e (some (.Name x pos')) pos.line X.env = pure false := by rfl) (hf : X.fn x = true ∨ X.env.scope.names.lookup x = some .local := by first | exact .inl rfl | exact .inr rfl | assumption) :
    PS X (.Assign [.Name x pos'] e pos) (tAsg te (gName i)) := by
  intro pins s σ H D I h
  refine wpAny_Assign_Name (thn (he pins s σ H _ I h) fun v s1 ⟨y, H1, I1, r1, q1⟩ => ?_) hs
  exact store_ok I1 hN hi hx r1 (fun s2 I2 => ⟨_, H1, I2, q1⟩) hf
end

/-! ### while -/
section
variable {X : Cx} {pos : Pos}
def tWhile (c : TT) (tb : TS) : TS := fun D σ H => ∃ W : Nat → St → Hp → Prop, (∃ m, W m σ H) ∧ ∀ m σ H, W m σ H →
  c σ H fun b H1 => if b = true then ∃ N : St → Hp → Prop, (∀ σ' H', N σ' H' → ∃ m', m' < m ∧ W m' σ' H') ∧ tb { D with nx := N, ct := N, bk := D.nx } σ H1 else D.nx σ H1
theorem ps_while {c : Expr} {body : List Stmt} {tc : TT} {tb : TS} (hp : PassesOwn (model X.prog X.w) X.A X.env X.xe) (hc : PT X c tc) (hb : PSs X body tb) : PS X (.While c body [] pos) (tWhile tc tb) := by
  intro pins s σ H D I h
  obtain ⟨W, ⟨m0, w0⟩, turn⟩ := h
  refine wpAny_While (codeAny_whileLoop (fun n s' => ∃ σ' H', Inv X pins σ' H' s' ∧ W n σ' H') ?_ m0 ⟨σ, H, I, w0⟩)
  rintro n s1 ⟨σ1, H1, I1, w1⟩
  refine wpAny_passesOwn hp (thn (hc pins s1 σ1 H1 _ I1 (turn n σ1 H1 w1)) fun b s2 ⟨H2, I2, q2⟩ => ?_)
  cases b with
  | true =>
    obtain ⟨N, hN, q2⟩ := q2
    rw [if_pos rfl]
    refine wpAny_passesOwn hp (thn (hb pins s2 σ1 H2 _ I2 q2) fun f s3 q3 => ?_)
    cases f with
    | next =>
      obtain ⟨σ3, H3, I3, n3⟩ := q3
      obtain ⟨m', hm, w3⟩ := hN σ3 H3 n3
      exact ⟨m', hm, σ3, H3, I3, w3⟩
    | cont =>
      obtain ⟨σ3, H3, I3, n3⟩ := q3
      obtain ⟨m', hm, w3⟩ := hN σ3 H3 n3
      exact ⟨m', hm, σ3, H3, I3, w3⟩
    | brk => exact q3
    | ret v => exact q3
  | false =>
    rw [if_neg Bool.false_ne_true]
    exact wpAny_execs_nil ⟨σ1, H2, I2, q2⟩
end

/-! ### what a loop or a comprehension walks -/
structure It where
  go : Nat → Hp → Prop
  yld : Nat → Hp → V → Hp → Prop
  stop : Nat → Hp → Prop
def FpOk (X : Cx) (pins : List (Addr × Obj)) (H : Hp) (b : Addr) : Prop :=
  H b = none ∧ b ≠ X.env.locals ∧ b ∉ X.fs ∧ (b ∈ X.ex ∨ X.s₀.heap.objs.size ≤ b) ∧ (∀ x c, X.env.cells.lookup x = some c → c ≠ b) ∧ ∀ p ∈ X.pn ++ pins, p.1 ≠ b
theorem Inv.fpOk {X : Cx} {pins : List (Addr × Obj)} {σ : St} {H H' : Hp} {s : Shared} {b : Addr} (I : Inv X pins σ H s) (hb : s.heap.objs.size ≤ b) (hn : H' b = none) : FpOk X pins H' b := by
  refine ⟨hn, Nat.ne_of_gt (Nat.lt_of_lt_of_le I.lt hb), I.nofs hb, .inr (Nat.le_trans I.sz hb), fun x c e z => ?_, fun p hp z => ?_⟩
  · obtain ⟨v, q⟩ := I.cell x c e
    exact absurd (Nat.lt_of_lt_of_le q.lt (by rw [z]; exact hb)) (Nat.lt_irrefl _)
  · exact absurd (Nat.lt_of_lt_of_le (Heap.lt_size (I.pin p hp).1) (by rw [z]; exact hb)) (Nat.lt_irrefl _)
structure Turn (P : Program) (w : World) (K : PySem.W.Frag) (tg : Expr) (J : It) (fp : List Addr) (it : Addr) (tn : Nat → Heap → Prop) : Prop where
  mem : it ∈ fp
  obj : ∀ i h, tn i h → ∀ b ∈ fp, ∃ o, h.get? b = some o ∧ ∀ v, o.data ≠ .cell v
  keep : ∀ i h h', tn i h → (∀ b ∈ fp, ∀ o, h.get? b = some o → h'.get? b = some o) → tn i h'
  item : ∀ (X : Cx), X.prog = P → X.w = w → X.K = K → X.calm = true → ∀ (i : Nat) (pins : List (Addr × Obj)) (s : Shared) (σ : St) (H : Hp) (E : Value → Shared → Prop), Inv X pins σ H s → (∀ b ∈ fp, FpOk X pins H b) → tn i s.heap → J.go i H →
    wpAny (model P w) X.A (pyNext (.ref it)) (fun r s1 => ∃ u, r = some u ∧
      wpAny (model P w) X.A (letOwnedTupleGo tg (.ref it) u) (fun _ s2 => ∃ x H', Inv X pins σ H' s2 ∧ RelV x u ∧ J.yld i H x H' ∧ tn (i + 1) s2.heap ∧ ∀ b ∈ fp, H' b = none) E s1) E s
  done : ∀ (X : Cx), X.prog = P → X.w = w → X.K = K → X.calm = true → ∀ (i : Nat) (pins : List (Addr × Obj)) (s : Shared) (σ : St) (H : Hp) (E : Value → Shared → Prop), Inv X pins σ H s → (∀ b ∈ fp, FpOk X pins H b) → tn i s.heap → J.stop i H →
    wpAny (model P w) X.A (pyNext (.ref it)) (fun r s1 => r = none ∧ Inv X pins σ H s1) E s
  self : ∀ (A : Around) (i : Nat) (s : Shared) (Q : Value → Shared → Prop) (E : Value → Shared → Prop), tn i s.heap → Q (.ref it) s → wpAny (model P w) A (pyIter (.ref it)) Q E s
abbrev TI := St → Hp → (It → Hp → Prop) → Prop
def PIE (X : Cx) (pins : List (Addr × Obj)) (σ : St) (tg : Expr) (R : It → Hp → Prop) (itv : Value) (s2 : Shared) : Prop :=
  ∃ (it : Addr) (fp : List Addr) (tn : Nat → Heap → Prop) (J : It) (H' : Hp), itv = .ref it ∧ Inv X pins σ H' s2 ∧ Turn X.prog X.w X.K tg J fp it tn ∧ tn 0 s2.heap ∧ (∀ b ∈ fp, FpOk X pins H' b) ∧ R J H'
def PI (X : Cx) (tg iter : Expr) (wi : TI) : Prop :=
  ∀ (pins : List (Addr × Obj)) (s : Shared) (σ : St) (H : Hp) (R : It → Hp → Prop), Inv X pins σ H s → wi σ H R →
    wpAny (model X.prog X.w) X.A (eval iter X.env) (fun v s1 => wpAny (model X.prog X.w) X.A (pyIter v) (PIE X pins σ tg R) X.xe s1) X.xe s

theorem go_of {M : Model} {A : Around} {E : Value → Shared → Prop} {s : Shared} {tg : Expr} {it : Addr} {u : Value} {o : Obj} {n : String} {vs : Array Value} {Q : Unit → Shared → Prop} (ho : s.heap.get? it = some o) (hc : o.cls = .type n) (hd : o.data = .fields vs)
    (hn : ["enumerate", "zip", "dict_itemiterator", "dict_reverseitemiterator", "odict_iterator", "itertools.zip_longest", "itertools.pairwise"].contains n = false) (hQ : Q () s) : wpAny M A (letOwnedTupleGo tg (.ref it) u) Q E s := by
  unfold letOwnedTupleGo
  cases tg <;> first
    | exact wpAny_pure hQ
    | (cases u <;> first
        | exact wpAny_pure hQ
        | (refine wpAny_bind (wpAny_load ho ?_)
           rw [hc, hd]
           show wpAny M A (if (["enumerate", "zip", "dict_itemiterator", "dict_reverseitemiterator", "odict_iterator", "itertools.zip_longest", "itertools.pairwise"].contains n && vs[0]? == some (rawInt _)) = true then _ else _) Q E s
           rw [if_neg (by intro h; rw [hn, Bool.false_and] at h; cases h)]
           exact wpAny_pure hQ))

def Itl (K : PySem.W.Frag) (a : Addr) : It :=
  ⟨fun i H => ∃ xs x, SqL K H a xs ∧ xs[i]? = some x, fun i H x H' => H' = H ∧ ∀ xs, SqL K H a xs → xs[i]? = some x, fun i H => ∃ xs, SqL K H a xs ∧ xs.length ≤ i⟩
def Itr (lo : Int) (n : Nat) : It := ⟨fun i _ => i < n, fun i H x H' => H' = H ∧ x = .int (lo + i), fun i _ => n ≤ i⟩
theorem turn_list {P : Program} {w : World} {K : PySem.W.Frag} {tg : Expr} (a it : Addr) : Turn P w K tg (Itl K a) [it] it (fun i h => h.IsListIter it a i) where
  mem := by simp
  obj := fun i h st b hb => by
    have e : b = it := by simpa using hb
    subst e
    obtain ⟨o, e, c, d⟩ := st
    exact ⟨o, e, fun v z => by rw [d] at z; cases z⟩
  keep := fun i h h' st k => st.at fun o e => k it (by simp) o e
  item := by
    intro X hP hw hK hc i pins s σ H E I hf st hg
    subst hP hw hK
    obtain ⟨xs, x, hq, hx⟩ := hg
    obtain ⟨its, rv, p, hz⟩ := I.list hq
    obtain ⟨u, hu, ru⟩ := rv.get hx
    obtain ⟨f0, f1, f2, f3, f4, f5⟩ := hf it (by simp)
    refine wpAny_pyNext_list_item st p.isList (x := u) (by simpa using hu) fun h' st' sb => ?_
    have I1 : Inv X pins σ H { s with heap := h' } := I.turned (t' := s.toks) (fun b o hb e => (sb.2 b hb).trans e) f0 f1 f3 f4 f5
    obtain ⟨o, e, c, d⟩ := id st'
    exact ⟨u, rfl, go_of (s := { s with heap := h' }) e c d (by decide) ⟨x, H, I1, ru, ⟨rfl, fun ys hy => by rw [I.list_inj hy hq]; exact hx⟩, st', fun b hb => (hf b hb).1⟩⟩
  done := by
    intro X hP hw hK hc i pins s σ H E I hf st hg
    subst hP hw hK
    obtain ⟨xs, hq, hx⟩ := hg
    obtain ⟨its, rv, p, hz⟩ := I.list hq
    obtain ⟨f0, f1, f2, f3, f4, f5⟩ := hf it (by simp)
    have hl := rv.length
    exact wpAny_pyNext_list_end (I.ok.hd hc) st p.isList (by simp; omega) fun h' eb => ⟨rfl, I.turned (t' := s.toks) (fun b o hb e => eb b o hb e) f0 f1 f3 f4 f5⟩
  self := fun _ _ _ _ _ st h => wpAny_pyIter_listiter st h
theorem turn_range {P : Program} {w : World} {K : PySem.W.Frag} {tg : Expr} (it : Addr) (lo : Int) (n : Nat) : Turn P w K tg (Itr lo n) [it] it (fun i h => IsRangeIter h it (lo + (i : Nat) * 1) ((n : Int) - (i : Nat)) 1) where
  mem := by simp
  obj := fun i h st b hb => by
    have e : b = it := by simpa using hb
    subst e
    exact ⟨_, st, fun v z => by
      have z' : Data.fields _ = Data.cell v := z
      cases z'⟩
  keep := fun i h h' st k => k it (by simp) _ st
  item := by
    intro X hP hw hK hc i pins s σ H E I hf st hg
    subst hP hw hK
    obtain ⟨f0, f1, f2, f3, f4, f5⟩ := hf it (by simp)
    have W := Walks.range (prog := X.prog) (w := X.w) (I.ok.hd hc) it lo 1 n
    refine W.item i s _ _ hg st fun v h' tk hv st' kk => ?_
    obtain ⟨t, rfl⟩ := hv
    have I1 : Inv X pins σ H { s with heap := h', toks := tk } := I.turned (fun b o hb e => kk b o (by simpa using hb) e) f0 f1 f3 f4 f5
    refine ⟨_, rfl, go_of (s := { s with heap := h', toks := tk }) (n := "range_iterator") st' rfl rfl (by decide) ⟨.int (lo + i), H, I1, ⟨t, ?_⟩, ⟨rfl, rfl⟩, st', fun b hb => (hf b hb).1⟩⟩
    rw [Int.mul_one]
  done := by
    intro X hP hw hK hc i pins s σ H E I hf st hg
    subst hP hw hK
    obtain ⟨f0, f1, f2, f3, f4, f5⟩ := hf it (by simp)
    exact wpAny_pyNext_range_end (I.ok.hd hc) st (by have : n ≤ i := hg; omega) fun h' eb => ⟨rfl, I.turned (t' := s.toks) (fun b o hb e => eb b o hb e) f0 f1 f3 f4 f5⟩
  self := fun _ _ _ _ _ st h => wpAny_pyIter_rangeiter st h
end L2

namespace L2
open PySem PySem.Spec PyProof.Rows
section
variable {X : Cx} {tg : Expr}
def iList (K : PySem.W.Frag) (tl : TE) : TI := fun σ H R => tl σ H fun x H1 => ∃ a, x = .ref a ∧ (∃ xs, SqL K H1 a xs) ∧ R (Itl K a) H1
theorem pi_list {l : Expr} {tl : TE} (hl : PE X l tl) : PI X tg l (iList X.K tl) := by
  intro pins s σ H R I h
  refine thn (hl pins s σ H _ I h) fun v s1 ⟨x, H1, I1, r1, q1⟩ => ?_
  obtain ⟨a, e, ⟨xs, hq⟩, q⟩ := q1
  subst e
  cases r1
  obtain ⟨its, rv, p, hz⟩ := I1.list hq
  refine wpAny_pyIter_list p.isList ?_
  refine ⟨s1.heap.objs.size, [s1.heap.objs.size], _, _, H1, rfl, I1.kept (t' := s1.toks) fun b o e => Heap.get?_push_of_some _ e, turn_list a _, ⟨_, Heap.get?_push_size _ rfl, rfl, rfl⟩, fun b hb => ?_, q⟩
  have e : b = s1.heap.objs.size := by simpa using hb
  subst e
  exact I1.fpOk (Nat.le_refl _) (I1.hok.fresh (Nat.le_refl _))
theorem range_it {pins : List (Addr × Obj)} {σ : St} {H : Hp} {s : Shared} {R : It → Hp → Prop} {E : Value → Shared → Prop} {lo hi : Int} {t u v : Tok} {tk : Nat} (I : Inv X pins σ H s) (h1 : -(2 ^ 62) ≤ lo) (h2 : lo < 2 ^ 62) (h3 : -(2 ^ 62) ≤ hi) (h4 : hi < 2 ^ 62)
    (q : R (Itr lo (hi - lo).toNat) H) : wpAny (model X.prog X.w) X.A (pyIter (.ref s.heap.objs.size)) (PIE X pins σ tg R) E { s with heap := s.heap.push { cls := .type "range", data := .fields #[.int lo t, .int hi u, .int 1 v] }, toks := tk } := by
  refine wpAny_pyIter_range (IsRange.new ..) (small_one h1 h2 h3 h4) ?_
  have I1 : Inv X pins σ H { s with heap := s.heap.push { cls := .type "range", data := .fields #[.int lo t, .int hi u, .int 1 v] }, toks := tk } := I.kept fun b o e => Heap.get?_push_of_some _ e
  refine ⟨(s.heap.push { cls := .type "range", data := .fields #[.int lo t, .int hi u, .int 1 v] }).objs.size, [(s.heap.push { cls := .type "range", data := .fields #[.int lo t, .int hi u, .int 1 v] }).objs.size], _, _, H, rfl,
    I1.kept (t' := tk) fun b o e => Heap.get?_push_of_some _ e, turn_range _ lo (hi - lo).toNat, ?_, fun b hb => ?_, q⟩
  · have e1 : lo + ((0 : Nat) : Int) * 1 = lo := by simp
    have e2 : (((hi - lo).toNat : Nat) : Int) - ((0 : Nat) : Int) = Builtin.Range.rangeSize lo hi 1 := by rw [rangeSize_one]; split <;> omega
    show IsRangeIter _ _ (lo + ((0 : Nat) : Int) * 1) ((((hi - lo).toNat : Nat) : Int) - ((0 : Nat) : Int)) 1
    rw [e1, e2]
    exact Heap.get?_push_size _ rfl
  · have e : b = (s.heap.push { cls := .type "range", data := .fields #[.int lo t, .int hi u, .int 1 v] }).objs.size := by simpa using hb
    subst e
    exact I1.fpOk (Nat.le_refl _) (I1.hok.fresh (Nat.le_refl _))
def iRng1 (ta : TA) : TI := fun σ H R => ta σ H fun vs H1 => ∃ j : Int, vs = [.int j] ∧ -(2 ^ 62) ≤ j ∧ j < 2 ^ 62 ∧ R (Itr 0 j.toNat) H1
theorem pi_range1 {a : Expr} {ta : TA} {p pos : Pos} (hg : Gl X "range") (hm : X.mg "range" = none) (ha : PA X [a] ta) (hs : starEach [a] X.env = [(false, eval a X.env)] := by rfl) : PI X tg (.Call (.Name "range" p) [a] [] pos) (iRng1 ta) := by
  intro pins s σ H R I h
  refine Call_ (ld_blt I hg hm boot_range (PyProof.Rows.callWith_type1 (thn (ha pos pins s σ H _ I h) fun us s1 ⟨vs, H1, I1, r1, q1⟩ => ?_) hs rfl))
  obtain ⟨j, e, q1, q2, q⟩ := q1
  subst e
  cases r1 with
  | cons r rr =>
    cases rr
    obtain ⟨t, rfl⟩ := r
    exact call_range_1 (range_it I1 (by omega) (by omega) q1 q2 (by simpa using q))
/-! ### for -/
def tFor (wi : TI) (g : TG) (tb : TS) : TS := fun D σ H => wi σ H fun J H1 => ∃ W : Nat → Nat → St → Hp → Prop, (∃ m, W 0 m σ H1) ∧ ∀ i m σ H, W i m σ H →
  (J.stop i H ∧ D.nx σ H) ∨ (J.go i H ∧ ∃ N : St → Hp → Prop, (∀ σ' H', N σ' H' → ∃ m', m' < m ∧ W (i + 1) m' σ' H') ∧ ∀ x H', J.yld i H x H' → g x σ H' fun σ2 H2 => tb { D with nx := N, ct := N, bk := D.nx } σ2 H2)
def pinsAt (fp : List Addr) (h : Heap) : List (Addr × Obj) := fp.filterMap fun b => (h.get? b).map fun o => (b, o)
theorem mem_pinsAt {fp : List Addr} {h : Heap} {b : Addr} {o : Obj} (hb : b ∈ fp) (e : h.get? b = some o) : (b, o) ∈ pinsAt fp h := List.mem_filterMap.mpr ⟨b, hb, by rw [e]; rfl⟩
theorem of_pinsAt {fp : List Addr} {h : Heap} {p : Addr × Obj} (hp : p ∈ pinsAt fp h) : p.1 ∈ fp ∧ h.get? p.1 = some p.2 := by
  obtain ⟨b, hb, e⟩ := List.mem_filterMap.mp hp
  cases q : h.get? b with
  | none => rw [q] at e; cases e
  | some o =>
    rw [q] at e
    have e' : (b, o) = p := Option.some.inj e
    subst e'
    exact ⟨hb, q⟩
theorem Inv.pinned {pins : List (Addr × Obj)} {σ : St} {H : Hp} {s : Shared} {fp : List Addr} (I : Inv X pins σ H s) (hf : ∀ b ∈ fp, FpOk X pins H b) (ho : ∀ b ∈ fp, ∃ o, s.heap.get? b = some o ∧ ∀ v, o.data ≠ .cell v) : Inv X (pins ++ pinsAt fp s.heap) σ H s :=
  I.pins_of fun p hp => (List.mem_append.mp hp).elim (fun z => I.pin p (List.mem_append_right _ z)) fun z => by
    obtain ⟨hb, e⟩ := of_pinsAt z
    obtain ⟨f0, f1, f2, _⟩ := hf p.1 hb
    obtain ⟨o, e', d⟩ := ho p.1 hb
    rw [e] at e'; cases e'
    exact ⟨e, f0, f1, f2, d⟩
theorem Inv.unpinned {pins pl : List (Addr × Obj)} {σ : St} {H : Hp} {s : Shared} (I : Inv X (pins ++ pl) σ H s) : Inv X pins σ H s := I.pins_of fun p hp => I.pin p (List.mem_append_right _ (List.mem_append_left _ hp))
theorem ps_for {iter : Expr} {body : List Stmt} {wi : TI} {g : TG} {tb : TS} {pos : Pos} (hp : PassesOwn (model X.prog X.w) X.A X.env X.xe) (hc : X.calm = true) (hi : PI X tg iter wi) (hg : PG X tg g) (hb : PSs X body tb)
    (hs : ∀ x, foldedSetIterable iter X.env x = pure x := by intro _; rfl) : PS X (.For tg iter body [] pos) (tFor wi g tb) := by
  intro pins s σ H D I h
  refine wpAny_For (thn (hi pins s σ H _ I h) fun v s1 h1 => thn h1 fun itv s2 h2 => ?_) hs
  obtain ⟨it, fp, tn, J, H2, e, I2, T, st2, f2, W, ⟨m0, w0⟩, turn⟩ := h2
  subst e
  -- what stays true of the iterator's objects through the loop
  have stat : ∀ {H' : Hp}, (∀ b ∈ fp, H' b = none) → ∀ b ∈ fp, FpOk X pins H' b := fun hn b hb => ⟨hn b hb, (f2 b hb).2⟩
  refine codeAny_forLoop_any (fun n s' => ∃ i σ' H', Inv X pins σ' H' s' ∧ tn i s'.heap ∧ (∀ b ∈ fp, H' b = none) ∧ W i n σ' H') ?_ m0 ⟨0, σ, H2, I2, st2, fun b hb => (f2 b hb).1, w0⟩
  rintro n s3 ⟨i, σ3, H3, I3, st3, fr3, w3⟩
  rcases turn i n σ3 H3 w3 with ⟨stop, qn⟩ | ⟨go, N, hN, step⟩
  · refine wpAny_passesOwn hp (thn (T.done X rfl rfl rfl hc i pins s3 σ3 H3 X.xe I3 (stat fr3) st3 stop) fun r s4 ⟨hr, I4⟩ => ?_)
    subst hr
    exact wpAny_execs_nil ⟨σ3, H3, I4, qn⟩
  · refine wpAny_passesOwn hp (thn (T.item X rfl rfl rfl hc i pins s3 σ3 H3 X.xe I3 (stat fr3) st3 go) fun r s4 ⟨u, hr, h4⟩ => ?_)
    subst hr
    refine wpAny_passesOwn hp (thn h4 fun _ s5 ⟨x, H5, I5, r5, y5, st5, fr5⟩ => ?_)
    have I5' := I5.pinned (stat fr5) (T.obj _ _ st5)
    refine wpAny_passesOwn hp (thn (hg _ s5 σ3 H5 x u _ I5' r5 (step x H5 y5)) fun _ s6 ⟨σ6, H6, I6, q6⟩ => ?_)
    refine wpAny_passesOwn hp (thn (hb _ s6 σ6 H6 _ I6 q6) fun f s7 q7 => ?_)
    have again : ∀ {σ7 : St} {H7 : Hp}, Inv X (pins ++ pinsAt fp s5.heap) σ7 H7 s7 → N σ7 H7 → ∃ m, m < n ∧ ∃ i σ' H', Inv X pins σ' H' s7 ∧ tn i s7.heap ∧ (∀ b ∈ fp, H' b = none) ∧ W i m σ' H' := fun {σ7 H7} I7 n7 => by
      obtain ⟨m', hm, w7⟩ := hN σ7 H7 n7
      refine ⟨m', hm, i + 1, σ7, H7, I7.unpinned, T.keep _ _ _ st5 fun b hb o e => (I7.pin (b, o) (List.mem_append_right _ (List.mem_append_right _ (mem_pinsAt hb e)))).1, fun b hb => ?_, w7⟩
      obtain ⟨o, e, d⟩ := T.obj _ _ st5 b hb
      exact (I7.pin (b, o) (List.mem_append_right _ (List.mem_append_right _ (mem_pinsAt hb e)))).2.1
    cases f with
    | next => obtain ⟨σ7, H7, I7, n7⟩ := q7; exact again I7 n7
    | cont => obtain ⟨σ7, H7, I7, n7⟩ := q7; exact again I7 n7
    | brk => obtain ⟨σ7, H7, I7, q7⟩ := q7; exact ⟨σ7, H7, I7.unpinned, q7⟩
    | ret v => obtain ⟨x7, σ7, H7, I7, r7, q7⟩ := q7; exact ⟨x7, σ7, H7, I7.unpinned, r7, q7⟩
end

/-! ### the forms one uses -/
theorem for_range {lo : Int} {n : Nat} {g : TG} {tb : TS} {D : Ends} {σ : St} {H : Hp} (Pv : Nat → St → Hp → Prop) (h0 : Pv 0 σ H)
    (hs : ∀ i σ H, i < n → Pv i σ H → g (.int (lo + i)) σ H fun σ2 H2 => tb { D with nx := Pv (i + 1), ct := Pv (i + 1), bk := D.nx } σ2 H2) (hd : ∀ σ H, Pv n σ H → D.nx σ H) :
    ∃ W : Nat → Nat → St → Hp → Prop, (∃ m, W 0 m σ H) ∧ ∀ i m σ H, W i m σ H →
      ((Itr lo n).stop i H ∧ D.nx σ H) ∨ ((Itr lo n).go i H ∧ ∃ N : St → Hp → Prop, (∀ σ' H', N σ' H' → ∃ m', m' < m ∧ W (i + 1) m' σ' H') ∧ ∀ x H', (Itr lo n).yld i H x H' → g x σ H' fun σ2 H2 => tb { D with nx := N, ct := N, bk := D.nx } σ2 H2) := by
  refine ⟨fun i m σ H => m = n - i ∧ i ≤ n ∧ Pv i σ H, ⟨n, by simp, Nat.zero_le _, h0⟩, ?_⟩
  rintro i m σ H ⟨rfl, hi, p⟩
  by_cases hlt : i < n
  · refine .inr ⟨hlt, Pv (i + 1), fun σ' H' p' => ⟨n - (i + 1), by omega, rfl, hlt, p'⟩, fun x H' y => ?_⟩
    obtain ⟨e, y⟩ := y
    subst e y
    exact hs i σ _ hlt p
  · have e : i = n := by omega
    subst e
    exact .inl ⟨Nat.le_refl _, hd σ H p⟩
end L2

namespace L2
open PySem PySem.Spec PyProof.Rows

abbrev R2 := V → V → Hp → VK → Prop
def OpR (X : Cx) (f : Value → Value → Sem Value) (r : R2) : Prop :=
  ∀ (pins : List (Addr × Obj)) (s : Shared) (σ : St) (H : Hp) (x y : V) (v u : Value) (Q : VK), Inv X pins σ H s → RelV x v → RelV y u → r x y H Q →
    wpAny (model X.prog X.w) X.A (f v u) (EP X pins σ Q) X.xe s
def UnR (X : Cx) (f : Value → Sem Value) (r : V → Hp → VK → Prop) : Prop :=
  ∀ (pins : List (Addr × Obj)) (s : Shared) (σ : St) (H : Hp) (x : V) (v : Value) (Q : VK), Inv X pins σ H s → RelV x v → r x H Q →
    wpAny (model X.prog X.w) X.A (f v) (EP X pins σ Q) X.xe s
def CallR (X : Cx) (f : Value) (r : List V → Hp → VK → Prop) : Prop :=
  ∀ (pins : List (Addr × Obj)) (s : Shared) (σ : St) (H : Hp) (xs : List V) (us : List Value) (Q : VK), Inv X pins σ H s → Vals xs us → r xs H Q →
    wpAny (model X.prog X.w) X.A (call f us) (EP X pins σ Q) X.xe s
def tOp (r : R2) (ta tb : TE) : TE := fun σ H Q => ta σ H fun x H1 => tb σ H1 fun y H2 => r x y H2 Q
def tUn (r : V → Hp → VK → Prop) (ta : TE) : TE := fun σ H Q => ta σ H fun x H1 => r x H1 Q
def rI (C : Int → Int → Prop) (g : Int → Int → V) : R2 := fun x y H Q => ∃ i j, x = .int i ∧ y = .int j ∧ C i j ∧ Q (g i j) H
def rI0 (g : Int → Int → V) : R2 := fun x y H Q => ∃ i j, x = .int i ∧ y = .int j ∧ Q (g i j) H
def rU (g : Int → V) : V → Hp → VK → Prop := fun x H Q => ∃ i, x = .int i ∧ Q (g i) H

section
variable {X : Cx} {a b c : Expr} {ta tb tc : TE} {pos : Pos}

theorem binT (ha : PE X a ta) (hb : PE X b tb) {pins : List (Addr × Obj)} {s : Shared} {σ : St} {H : Hp} {R : V → V → Hp → Prop} (I : Inv X pins σ H s)
    (h : ta σ H fun x H1 => tb σ H1 fun y H2 => R x y H2) {Q : Value → Shared → Prop} {f : Value → Value → Sem Value}
    (hf : ∀ v u s2 x y H2, Inv X pins σ H2 s2 → RelV x v → RelV y u → R x y H2 → wpAny (model X.prog X.w) X.A (f v u) Q X.xe s2) :
    wpAny (model X.prog X.w) X.A (eval a X.env) (fun v s₁ => wpAny (model X.prog X.w) X.A (eval b X.env) (fun u s₂ => wpAny (model X.prog X.w) X.A (f v u) Q X.xe s₂) X.xe s₁) X.xe s := by
  refine thn (ha pins s σ H _ I h) fun v s1 ⟨x, H1, I1, r1, q1⟩ => ?_
  refine thn (hb pins s1 σ H1 _ I1 q1) fun u s2 ⟨y, H2, I2, r2, q2⟩ => ?_
  exact hf v u s2 x y H2 I2 r1 r2 q2

theorem pe_op {op : Operator} {r : R2} (ho : OpR X (binaryOp op) r) (ha : PE X a ta) (hb : PE X b tb) : PE X (.BinOp a op b pos) (tOp r ta tb) := by
  intro pins s σ H Q I h
  exact wpAny_BinOp (binT ha hb I h fun v u s2 x y H2 I2 rx ry q => ho pins s2 σ H2 x y v u Q I2 rx ry q)
theorem pe_un {op : UnaryOp} {r : V → Hp → VK → Prop} (ho : UnR X (unaryOp op) r) (ha : PE X a ta) : PE X (.UnaryOp op a pos) (tUn r ta) := by
  intro pins s σ H Q I h
  exact UnaryOp_ (thn (ha pins s σ H _ I h) fun v s1 ⟨x, H1, I1, r1, q1⟩ => ho pins s1 σ H1 x v Q I1 r1 q1)
/-! ### ints -/
theorem opI {f : Value → Value → Sem Value} {C : Int → Int → Prop} {g : Int → Int → Int}
    (rule : ∀ (i j : Int) (t u : Tok) (s : Shared) (Q : Value → Shared → Prop) (E : Value → Shared → Prop), C i j → Q (.int (g i j) s.toks) { s with toks := s.toks + 1 } → wpAny (model X.prog X.w) X.A (f (.int i t) (.int j u)) Q E s) :
    OpR X f (rI C fun i j => .int (g i j)) := by
  intro pins s σ H x y v u Q I rx ry h
  obtain ⟨i, j, rfl, rfl, hc, q⟩ := h
  obtain ⟨t, rfl⟩ := rx
  obtain ⟨t', rfl⟩ := ry
  exact rule i j t t' s _ _ hc ⟨.int (g i j), H, I.tok _, ⟨_, rfl⟩, q⟩
theorem opI0 {f : Value → Value → Sem Value} {g : Int → Int → Int}
    (rule : ∀ (i j : Int) (t u : Tok) (s : Shared) (Q : Value → Shared → Prop) (E : Value → Shared → Prop), Q (.int (g i j) s.toks) { s with toks := s.toks + 1 } → wpAny (model X.prog X.w) X.A (f (.int i t) (.int j u)) Q E s) :
    OpR X f (rI0 fun i j => .int (g i j)) := by
  intro pins s σ H x y v u Q I rx ry h
  obtain ⟨i, j, rfl, rfl, q⟩ := h
  obtain ⟨t, rfl⟩ := rx
  obtain ⟨t', rfl⟩ := ry
  exact rule i j t t' s _ _ ⟨.int (g i j), H, I.tok _, ⟨_, rfl⟩, q⟩
theorem opB0 {f : Value → Value → Sem Value} {g : Int → Int → Bool}
    (rule : ∀ (i j : Int) (t u : Tok) (s : Shared) (Q : Value → Shared → Prop) (E : Value → Shared → Prop), Q (.bool (g i j)) s → wpAny (model X.prog X.w) X.A (f (.int i t) (.int j u)) Q E s) :
    OpR X f (rI0 fun i j => .bl (g i j)) := by
  intro pins s σ H x y v u Q I rx ry h
  obtain ⟨i, j, rfl, rfl, q⟩ := h
  obtain ⟨t, rfl⟩ := rx
  obtain ⟨t', rfl⟩ := ry
  exact rule i j t t' s _ _ ⟨.bl (g i j), H, I, rfl, q⟩

def CDiv (i j : Int) : Prop := 0 < j ∧ j < 1073741824
theorem op_add : OpR X (binaryOp .Add) (rI0 fun i j => .int (i + j)) := opI0 fun _ _ _ _ _ _ _ q => add_int q
theorem op_sub : OpR X (binaryOp .Sub) (rI0 fun i j => .int (i - j)) := opI0 fun _ _ _ _ _ _ _ q => sub_int q
theorem op_fdiv : OpR X (binaryOp .FloorDiv) (rI CDiv fun i j => .int (i / j)) := opI fun i j _ _ _ _ _ hc q => by
  have h1 : (0 : Int) < j := hc.1
  have h2 : j < 1073741824 := hc.2
  exact floordiv_int (by omega) (by rw [Int.fdiv_eq_ediv_of_nonneg i (by omega)]; exact q) (.inl (PyProof.noPylong_small (by omega)))
theorem op_mod : OpR X (binaryOp .Mod) (rI (fun _ j => 0 < j) fun i j => .int (i % j)) := opI fun i j _ _ _ _ _ hc q => by
  have h1 : (0 : Int) < j := hc
  exact mod_int' (by omega) (by rw [Int.fmod_eq_emod_of_nonneg i (by omega)]; exact q)
theorem unI {f : Value → Sem Value} {g : Int → Int}
    (rule : ∀ (i : Int) (t : Tok) (s : Shared) (Q : Value → Shared → Prop) (E : Value → Shared → Prop), Q (.int (g i) s.toks) { s with toks := s.toks + 1 } → wpAny (model X.prog X.w) X.A (f (.int i t)) Q E s) :
    UnR X f (rU fun i => .int (g i)) := by
  intro pins s σ H x v Q I rx h
  obtain ⟨i, rfl, q⟩ := h
  obtain ⟨t, rfl⟩ := rx
  exact rule i t s _ _ ⟨.int (g i), H, I.tok _, ⟨_, rfl⟩, q⟩
theorem un_neg : UnR X (unaryOp .USub) (rU fun i => .int (-i)) := unI fun _ _ _ _ _ q => neg_int q
/-! ### bools among ints: n += (a < b) -/
end

/-! ### comparisons -/
def scal : V → V → Bool
  | .non, .non => true | .non, .int _ => true | .int _, .non => true | .non, .bl _ => true | .bl _, .non => true | .non, .str _ => true | .str _, .non => true
  | .int _, .int _ => true | .bl _, .bl _ => true | .str _, .str _ => true | .byt _, .byt _ => true
  | .int _, .str _ => true | .str _, .int _ => true | .bl _, .str _ => true | .str _, .bl _ => true
  | _, _ => false
def rEq : R2 := fun x y H Q => scal x y = true ∧ Q (.bl (decide (x = y))) H
def rNe : R2 := fun x y H Q => scal x y = true ∧ Q (.bl (!decide (x = y))) H

theorem dec_int {i j : Int} : decide (V.int i = V.int j) = (i == j) := by
  rw [Bool.eq_iff_iff]
  simp
theorem dec_bl {i j : Bool} : decide (V.bl i = V.bl j) = (i == j) := by
  rw [Bool.eq_iff_iff]
  simp
theorem dec_str {i j : Str} : decide (V.str i = V.str j) = (i == j) := by
  rw [Bool.eq_iff_iff]
  simp
theorem dec_byt {i j : Array UInt8} : decide (V.byt i = V.byt j) = (i.toList == j.toList) := by
  rw [Bool.eq_iff_iff]
  cases i
  cases j
  simp

section
variable {X : Cx} {a b c : Expr} {ta tb tc : TE} {pos : Pos}
theorem fin_bl {pins : List (Addr × Obj)} {σ : St} {H : Hp} {s : Shared} {Q : VK} {k k' : Bool} (I : Inv X pins σ H s) (q : Q (.bl k) H) (e : k = k') : EP X pins σ Q (.bool k') s := by
  subst e
  exact ⟨.bl k, H, I, rfl, q⟩
theorem op_eq : OpR X (compareOp .Eq) rEq := by
  intro pins s σ H x y v u Q I rx ry h
  obtain ⟨hs, q⟩ := h
  cases x with
  | non =>
    cases rx
    cases y with
    | non => cases ry; exact PySem.EqNone.eq_none_none (fin_bl I q (by simp))
    | bl j => cases ry; exact PySem.EqNone.eq_none_bool (fin_bl I q (by simp))
    | int j => obtain ⟨t', rfl⟩ := ry; exact PySem.EqNone.eq_none_int (fin_bl I q (by simp))
    | str j => obtain ⟨t', rfl⟩ := ry; exact PySem.EqNone.eq_none_str (fin_bl I q (by simp))
    | _ => exact absurd (show false = true from hs) Bool.false_ne_true
  | bl i =>
    cases rx
    cases y with
    | non => cases ry; exact PySem.EqNone.eq_bool_none (fin_bl I q (by simp))
    | bl j => cases ry; exact eq_bool (fin_bl I q dec_bl)
    | str j => obtain ⟨t', rfl⟩ := ry; exact PySem.EqMixed.eq_bool_str (fin_bl I q (by simp))
    | _ => exact absurd (show false = true from hs) Bool.false_ne_true
  | int i =>
    obtain ⟨t, rfl⟩ := rx
    cases y with
    | non => cases ry; exact PySem.EqNone.eq_int_none (fin_bl I q (by simp))
    | int j => obtain ⟨t', rfl⟩ := ry; exact eq_int (fin_bl I q dec_int)
    | str j => obtain ⟨t', rfl⟩ := ry; exact PySem.EqMixed.eq_int_str (fin_bl I q (by simp))
    | _ => exact absurd (show false = true from hs) Bool.false_ne_true
  | str i =>
    obtain ⟨t, rfl⟩ := rx
    cases y with
    | non => cases ry; exact PySem.EqNone.eq_str_none (fin_bl I q (by simp))
    | bl j => cases ry; exact PySem.EqMixed.eq_str_bool (fin_bl I q (by simp))
    | int j => obtain ⟨t', rfl⟩ := ry; exact PySem.EqMixed.eq_str_int (fin_bl I q (by simp))
    | str j => obtain ⟨t', rfl⟩ := ry; exact eq_str (fin_bl I q dec_str)
    | _ => exact absurd (show false = true from hs) Bool.false_ne_true
  | byt i =>
    obtain ⟨t, rfl⟩ := rx
    cases y with
    | byt j => obtain ⟨t', rfl⟩ := ry; exact PySem.W.eq_bytes (fin_bl I q dec_byt)
    | _ => exact absurd (show false = true from hs) Bool.false_ne_true
  | _ => cases y <;> exact absurd (show false = true from hs) Bool.false_ne_true
theorem op_ne : OpR X (compareOp .NotEq) rNe := by
  intro pins s σ H x y v u Q I rx ry h
  obtain ⟨hs, q⟩ := h
  cases x with
  | non =>
    cases rx
    cases y with
    | non => cases ry; exact PySem.EqNone.ne_none_none (fin_bl I q (by simp))
    | bl j => cases ry; exact PySem.EqNone.ne_none_bool (fin_bl I q (by simp))
    | int j => obtain ⟨t', rfl⟩ := ry; exact PySem.EqNone.ne_none_int (fin_bl I q (by simp))
    | str j => obtain ⟨t', rfl⟩ := ry; exact PySem.EqNone.ne_none_str (fin_bl I q (by simp))
    | _ => exact absurd (show false = true from hs) Bool.false_ne_true
  | bl i =>
    cases rx
    cases y with
    | non => cases ry; exact PySem.EqNone.ne_bool_none (fin_bl I q (by simp))
    | bl j => cases ry; exact ne_bool (fin_bl I q (congrArg not dec_bl))
    | str j => obtain ⟨t', rfl⟩ := ry; exact PySem.EqMixed.ne_bool_str (fin_bl I q (by simp))
    | _ => exact absurd (show false = true from hs) Bool.false_ne_true
  | int i =>
    obtain ⟨t, rfl⟩ := rx
    cases y with
    | non => cases ry; exact PySem.EqNone.ne_int_none (fin_bl I q (by simp))
    | int j => obtain ⟨t', rfl⟩ := ry; exact ne_int (fin_bl I q (congrArg not dec_int))
    | str j => obtain ⟨t', rfl⟩ := ry; exact PySem.EqMixed.ne_int_str (fin_bl I q (by simp))
    | _ => exact absurd (show false = true from hs) Bool.false_ne_true
  | str i =>
    obtain ⟨t, rfl⟩ := rx
    cases y with
    | non => cases ry; exact PySem.EqNone.ne_str_none (fin_bl I q (by simp))
    | bl j => cases ry; exact PySem.EqMixed.ne_str_bool (fin_bl I q (by simp))
    | int j => obtain ⟨t', rfl⟩ := ry; exact PySem.EqMixed.ne_str_int (fin_bl I q (by simp))
    | str j => obtain ⟨t', rfl⟩ := ry; exact ne_str (fin_bl I q (congrArg not dec_str))
    | _ => exact absurd (show false = true from hs) Bool.false_ne_true
  | byt i =>
    obtain ⟨t, rfl⟩ := rx
    cases y with
    | byt j => obtain ⟨t', rfl⟩ := ry; exact PySem.W.ne_bytes (fin_bl I q (congrArg not dec_byt))
    | _ => exact absurd (show false = true from hs) Bool.false_ne_true
  | _ => cases y <;> exact absurd (show false = true from hs) Bool.false_ne_true

theorem op_lt : OpR X (compareOp .Lt) (rI0 fun i j => .bl (decide (i < j))) := opB0 fun _ _ _ _ _ _ _ q => lt_int q
theorem op_gt : OpR X (compareOp .Gt) (rI0 fun i j => .bl (decide (j < i))) := opB0 fun _ _ _ _ _ _ _ q => gt_int q
theorem op_in_str : OpR X (compareOp .In) (fun x y H Q => ∃ i j, x = .str i ∧ y = .str j ∧ Q (.bl (!(Builtin.Str.occurrences j i 0 j.length 1).isEmpty)) H) := by
  intro pins s σ H x y v u Q I rx ry h
  obtain ⟨i, j, rfl, rfl, q⟩ := h
  obtain ⟨t, rfl⟩ := rx
  obtain ⟨t', rfl⟩ := ry
  exact in_str (fin_bl I q rfl)

theorem op_notN : OpR X (compareOp .IsNot) (fun x y H Q => y = .non ∧ Q (.bl (!decide (x = .non))) H) := by
  intro pins s σ H x y v u Q I rx ry h
  obtain ⟨rfl, q⟩ := h
  cases ry
  refine isnot_none_gen (fin_bl I q ?_)
  cases x <;> first
    | (cases rx; rfl)
    | (obtain ⟨t, rfl⟩ := rx; rfl)

theorem nomark (b : Expr) {op : CmpOp} (h : op ≠ .In := by decide) (h2 : op ≠ .NotIn := by decide) : behindInMarks op b = false := by
  have e1 : (op == CmpOp.In) = false := by cases op <;> first | rfl | exact absurd rfl h
  have e2 : (op == CmpOp.NotIn) = false := by cases op <;> first | rfl | exact absurd rfl h2
  cases b <;> simp [behindInMarks, e1, e2]
theorem pe_cmpR {op : CmpOp} {r : R2} (ho : OpR X (compareOp op) r) (ha : PE X a ta) (hb : PE X b tb) (hm : behindInMarks op b = false) : PE X (.Compare a [op] [b] pos) (tOp r ta tb) := by
  intro pins s σ H Q I h
  exact wpAny_Compare1 (binT ha hb I h fun v u s2 x y H2 I2 rx ry q => ho pins s2 σ H2 x y v u Q I2 rx ry q) hm
def tTest (t : TE) : TT := fun σ H Q => t σ H fun x H' => ∃ k, x = .bl k ∧ Q k H'
theorem pt_cmpR {op : CmpOp} {r : R2} (ho : OpR X (compareOp op) r) (ha : PE X a ta) (hb : PE X b tb) (hm : behindInMarks op b = false) : PT X (.Compare a [op] [b] pos) (tTest (tOp r ta tb)) := by
  intro pins s σ H Q I h
  refine wpAny_isTrue_Compare1 (thn (ha pins s σ H _ I h) fun v s1 ⟨x, H1, I1, r1, q1⟩ => thn (hb pins s1 σ H1 _ I1 q1) fun u s2 ⟨y, H2, I2, r2, q2⟩ =>
    thn (ho pins s2 σ H2 x y v u _ I2 r1 r2 q2) fun c s3 ⟨z, H3, I3, r3, k, e, q3⟩ => ?_) hm
  subst e
  cases r3
  exact wpAny_truthy_bool ⟨H3, I3, q3⟩
/-! ### truth -/
theorem line63 : (sizeLine : Nat) < 2 ^ 63 := by rw [sizeLine_eq]; decide
/-! ### strs and bytes -/
theorem op_add_str : OpR X (binaryOp .Add) (fun x y H Q => ∃ i j, x = .str i ∧ y = .str j ∧ i.length + j.length ≤ sizeLine ∧ Q (.str (i ++ j)) H) := by
  intro pins s σ H x y v u Q I rx ry h
  obtain ⟨i, j, rfl, rfl, hz, q⟩ := h
  obtain ⟨t, rfl⟩ := rx
  obtain ⟨t', rfl⟩ := ry
  exact add_str (fun t' tk => ⟨.str (i ++ j), H, I.tok _, ⟨_, rfl⟩, q⟩) hz
/-! ### scalar builtins, by CallR -/
theorem vals1 {x : V} {us : List Value} (r : Vals [x] us) : ∃ u, us = [u] ∧ RelV x u := by
  cases r with
  | cons r1 r2 => cases r2; exact ⟨_, rfl, r1⟩
end
end L2

namespace L2
open PySem PySem.Spec PyProof.Rows

/-! ### an instance, its attributes a map -/
structure ObjM (h : Heap) (x dx C : Addr) (mA : Str → Option Value) : Prop where
  obj : h.get? x = some (PySem.W.instObj C dx)
  ns : h.Ns1 dx mA
  ne : dx ≠ x

theorem lookIn_ns {h : Heap} {dx : Addr} {mA : Str → Option Value} (n : h.Ns1 dx mA) : ∃ od, h.get? dx = some od ∧ ∀ name, PySem.W.lookIn name od = some (mA name) := by
  obtain ⟨o, es, ep, ho, hd, hk, _, hm⟩ := n
  refine ⟨o, ho, fun name => ?_⟩
  have e := hm name
  unfold nsFind findBy at e
  rw [← Array.find?_toList] at e
  unfold PySem.W.lookIn
  rw [hd]
  dsimp only
  split
  · rename_i y q
    rw [q] at e
    exact congrArg some e
  · rename_i q
    rw [q] at e
    have a : es.toList.any (·.refKey) = false := by
      rw [List.any_eq_false]
      intro y hy
      obtain ⟨z, t, hkey⟩ := hk y (Array.mem_toList_iff.mp hy)
      simp [DictEntry.refKey, hkey]
    have a' : ¬ es.toList.any (·.refKey) = true := by rw [a]; exact Bool.false_ne_true
    rw [if_neg a']
    exact congrArg some e

theorem ObjM.look {h : Heap} {x dx C : Addr} {mA : Str → Option Value} (I : ObjM h x dx C mA) : ∃ od, PySem.W.InstAt h x (PySem.W.instObj C dx) C (some od) ∧ ∀ name, PySem.W.lookIn name od = some (mA name) :=
  let ⟨od, ho, hl⟩ := lookIn_ns I.ns
  ⟨od, ⟨I.obj, rfl, rfl, ho⟩, hl⟩

section
variable {prog : Program} {w : World} {A : Around} {E : Value → Shared → Prop} {s : Shared} {K : PySem.W.Frag} {x dx C f : Addr} {mA : Str → Option Value} {name : Str} {v : Value}

theorem get_map {expr : Bool} {Q : Value → Shared → Prop} (X : K.In s.heap) (I : ObjM s.heap x dx C mA) (hg : PySem.W.plainGet K C name = true) (hh : PySem.W.hasDictIn K C = true)
    (ha : PySem.W.findIn K (.ref C) name = some none) (hv : mA name = some v) (hv' : PySem.W.handedIn v = true) (h : Q v { s with toks := s.toks + 1 }) :
    wpAny (model prog w) A (getAttr (.ref x) name expr) Q E s := by
  obtain ⟨od, J, hl⟩ := I.look
  exact PySem.W.get_value X J (PySem.W.plainGet_of hg).1 (PySem.W.findObj_own hh ha rfl (by rw [hl, hv])) hv' h

theorem get_meth {pl : Sem Bool} {Q : Value × List Value → Shared → Prop} (X : K.In s.heap) (I : ObjM s.heap x dx C mA) (hg : PySem.W.plainGet K C name = true)
    (hf : PySem.W.findIn K (.ref C) name = some (some (.ref f))) (ht : PySem.W.isFn K (.ref f) = true) (hv : mA name = none) (h : Q (.ref f, [.ref x]) s) :
    wpAny (model prog w) A (getMethod (.ref x) name pl) Q E s := by
  obtain ⟨od, J, hl⟩ := I.look
  exact PySem.W.method_fn X J (PySem.W.plainGet_of hg).1 (PySem.W.plainGet_of hg).2 hf (beq_iff_eq.mp ht) (by show (PySem.W.lookIn name od).map (·.isSome) = some false; rw [hl, hv]; rfl) h

theorem set_map {ns : List Str} {Q : Unit → Shared → Prop} (X : K.In s.heap) (I : ObjM s.heap x dx C mA)
    (hs : PySem.W.findIn K (.ref C) "__setattr__" = some (some (.builtin "object.__setattr__"))) (hp : PySem.W.plainOver K C = true) (ht : PySem.W.takerIn K C name = some none) (hh : PySem.W.hasDictIn K C = true)
    (hw : PySem.Within mA ns) (hsz : ns.length ≤ sizeLine)
    (h : ∀ h', ObjM h' x dx C (fun y => if y = name then some v else mA y) → Heap.SameBut dx s.heap h' → Q () { s with heap := h', toks := s.toks + 2 }) :
    wpAny (model prog w) A (setAttr (.ref x) name v) Q E s := by
  obtain ⟨od, J, hl⟩ := I.look
  refine PySem.W.set_plain X J hs (PySem.W.osa_open (s := { s with toks := s.toks + 1 }) (r := none) X J hp ht fun b => ?_)
  obtain ⟨cd, hc, hd'⟩ := PySem.W.any_some hh
  have hx : s.heap.get? x = some ⟨.ref C, some dx, .plain, #[]⟩ := I.obj
  refine wpAny_bind (wpAny_pure (wpAny_bind (wpAny_bind (wpAny_loadPart hx (wpAny_bind (PySem.W.Looks.here (s := { s with toks := s.toks + 1 }) (PySem.W.looks_clsIn X hc) ?_))))))
  rw [hd']
  refine wpAny_pure (a := some dx) (wpAny_bind (wpAny_pure (wpAny_bind ?_)))
  refine wpAny_nsSet1 (s := { s with toks := s.toks + 1 }) I.ns fun h' hn2 hs2 => ?_
  obtain ⟨oD, esD, epD, hoD, hdD, hcD⟩ := hn2.count (PySem.Within.cons name v hw)
  refine wpAny_bind (wpAny_lookBehind hoD (by rw [hdD]; exact pastItsLine_dict (Nat.le_trans hcD (by rw [List.length_cons]; omega))) ?_)
  exact wpAny_pure (h _ ⟨(hs2.2 _ (Ne.symm I.ne)).trans I.obj, hn2, I.ne⟩ hs2)

theorem make_map {R : Result → Shared → Prop} {vs : List Value} {kw : List (Str × Value)} (X : K.In s.heap) (hm : PySem.W.makesIn K C = true)
    (hi : PySem.W.findIn K (.ref C) "__init__" = some (some (.ref f))) (hf : PySem.W.typeIn K (.ref f) = some (.type "function"))
    (h : codeAny (model prog w) (A.under (.builtin "type.__call__" ⟨.ref C :: vs, kw⟩)) (.call (.ref f) ⟨.ref (s.heap.objs.size + 1) :: vs, kw⟩) (PySem.W.InitBack (s.heap.objs.size + 1) R)
      { s with heap := (s.heap.push PySem.W.emptyDict).push (PySem.W.instObj C s.heap.objs.size) }) :
    codeAny (model prog w) A (.call (.ref C) ⟨vs, kw⟩) R s := by
  obtain ⟨hh, g, d, t, os⟩ := s
  exact PySem.W.make_core (PySem.W.makes_of X hm) (PySem.W.looks_findIn X hi) (fun self => PySem.W.bind_fn X self hf) (.inl rfl) h
end

/-! ### the attributes as a list of pairs -/
def putF (f : Str) (v : V) : List (Str × V) → List (Str × V)
  | [] => [(f, v)]
  | (g, x) :: r => if g = f then (g, v) :: r else (g, x) :: putF f v r
theorem lookup_putF (f g : Str) (v : V) : ∀ fs : List (Str × V), (putF f v fs).lookup g = if g = f then some v else fs.lookup g
  | [] => by
    show List.lookup g [(f, v)] = _
    by_cases h : g = f
    · have hb : (g == f) = true := beq_iff_eq.mpr h
      simp only [List.lookup, hb, if_pos h]
    · have hb : (g == f) = false := beq_eq_false_iff_ne.mpr h
      simp only [List.lookup, hb, if_neg h]
  | (k, x) :: r => by
    have ih := lookup_putF f g v r
    rw [show putF f v ((k, x) :: r) = (if k = f then (k, v) :: r else (k, x) :: putF f v r) from rfl]
    by_cases hk : k = f
    · rw [if_pos hk]
      by_cases h : g = k
      · have hb : (g == k) = true := beq_iff_eq.mpr h
        simp only [List.lookup, hb, if_pos (h.trans hk)]
      · have hb : (g == k) = false := beq_eq_false_iff_ne.mpr h
        simp only [List.lookup, hb, if_neg (fun e : g = f => h (e.trans hk.symm))]
    · rw [if_neg hk]
      by_cases h : g = k
      · have hb : (g == k) = true := beq_iff_eq.mpr h
        simp only [List.lookup, hb, if_neg (fun e : g = f => hk (h.symm.trans e))]
      · have hb : (g == k) = false := beq_eq_false_iff_ne.mpr h
        simp only [List.lookup, hb]
        exact ih
theorem keys_putF (f : Str) (v : V) : ∀ fs : List (Str × V), f ∈ (putF f v fs).map (·.1) ∧ ∀ g, g ∈ fs.map (·.1) → g ∈ (putF f v fs).map (·.1)
  | [] => ⟨by simp [putF], fun g h => by simp at h⟩
  | (k, x) :: r => by
    obtain ⟨i1, i2⟩ := keys_putF f v r
    rw [show putF f v ((k, x) :: r) = (if k = f then (k, v) :: r else (k, x) :: putF f v r) from rfl]
    by_cases hk : k = f
    · rw [if_pos hk]
      subst hk
      exact ⟨by simp, fun g h => by simpa using h⟩
    · rw [if_neg hk]
      refine ⟨?_, fun g h => ?_⟩
      · rw [List.map_cons]
        exact List.mem_cons_of_mem _ i1
      · rw [List.map_cons] at h ⊢
        rcases List.mem_cons.mp h with e | e
        · exact List.mem_cons.mpr (.inl e)
        · exact List.mem_cons_of_mem _ (i2 g e)
theorem length_putF (f : Str) (v : V) : ∀ fs : List (Str × V), (putF f v fs).length ≤ fs.length + 1
  | [] => by simp [putF]
  | (k, x) :: r => by
    have ih := length_putF f v r
    rw [show putF f v ((k, x) :: r) = (if k = f then (k, v) :: r else (k, x) :: putF f v r) from rfl]
    by_cases hk : k = f
    · rw [if_pos hk, List.length_cons, List.length_cons]; omega
    · rw [if_neg hk, List.length_cons, List.length_cons]; omega

theorem RelO.some_of {v : V} {o : Option Value} (r : RelO (some v) o) : ∃ u, o = some u ∧ RelV v u := by
  cases o with
  | none => exact (show False from r).elim
  | some u => exact ⟨u, rfl, r⟩
theorem RelO.none_of {o : Option Value} (r : RelO none o) : o = none := by
  cases o with
  | none => rfl
  | some u => exact (show False from r).elim
theorem handed_of {v : V} {u : Value} (r : RelV v u) : PySem.W.handedIn u = true := by
  cases v with
  | non => cases (show u = Value.none from r); rfl
  | bl b => cases (show u = Value.bool b from r); rfl
  | int i => obtain ⟨t, e⟩ := (show ∃ t, u = Value.int i t from r); cases e; rfl
  | str x => obtain ⟨t, e⟩ := (show ∃ t, u = Value.str x t from r); cases e; rfl
  | byt b => obtain ⟨t, e⟩ := (show ∃ t, u = Value.bytes b t from r); cases e; rfl
  | flt b => obtain ⟨t, e⟩ := (show ∃ t, u = Value.float b t from r); cases e; rfl
  | ref a => cases (show u = Value.ref a from r); rfl
  | ty n => cases (show u = Value.type n from r); rfl

section
variable {P : Program} {w : World} {H H' : Hp} {h h' : Heap} {a C dx : Addr} {fs fs' : List (Str × V)}
theorem ins_get (hok : HOk P w H h) (e : H a = some (.ins C dx fs)) : ∃ mA, ObjM h a dx C mA ∧ (∀ f, RelO (fs.lookup f) (mA f)) ∧ PySem.Within mA (fs.map (·.1)) ∧ fs.length ≤ 1000 ∧ H dx = some (.own a) := by
  obtain ⟨d, z, ne, ob, mA, n, r, q⟩ := (show ObjOk P w H h a (.ins C dx fs) from hok a _ e)
  exact ⟨mA, ⟨ob, n, ne⟩, r, q, z, d⟩
end

/-! ### what of the text a class must have -/
structure Cls (K : PySem.W.Frag) (C : Addr) : Prop where
  pg : PySem.W.plainGet K C Str.empty = true
  hd : PySem.W.hasDictIn K C = true
  po : PySem.W.plainOver K C = true
  sa : PySem.W.findIn K (.ref C) "__setattr__" = some (some (.builtin "object.__setattr__"))
theorem Cls.get {K : PySem.W.Frag} {C : Addr} (c : Cls K C) (f : Str) : PySem.W.plainGet K C f = true := c.pg
def NoAttr (K : PySem.W.Frag) (C : Addr) (f : Str) : Prop := PySem.W.findIn K (.ref C) f = some none
theorem NoAttr.taker {K : PySem.W.Frag} {C : Addr} {f : Str} (n : NoAttr K C f) : PySem.W.takerIn K C f = some none := by
  unfold PySem.W.takerIn
  rw [show PySem.W.findIn K (.ref C) f = some none from n]
  rfl
structure Meth (K : PySem.W.Frag) (C : Addr) (m : Str) (f : Addr) : Prop where
  at_ : PySem.W.findIn K (.ref C) m = some (some (.ref f))
  fn : PySem.W.isFn K (.ref f) = true
  kp : PySem.W.keepIn K (.ref f) = true

section
variable {X : Cx} {pins : List (Addr × Obj)} {σ : St} {H : Hp} {s : Shared} {a C dx : Addr} {fs : List (Str × V)} {f : Str} {v : V} {A : Around} {E : Value → Shared → Prop}

theorem getattr_ok {b : Bool} {Q : Value → Shared → Prop} (I : Inv X pins σ H s) (e : H a = some (.ins C dx fs)) (c : Cls X.K C) (n : NoAttr X.K C f) (l : fs.lookup f = some v)
    (h : ∀ u s', Inv X pins σ H s' → RelV v u → Q u s') : wpAny (model X.prog X.w) A (getAttr (.ref a) f b) Q E s := by
  obtain ⟨mA, O, r, _, _, _⟩ := ins_get I.hok e
  obtain ⟨u, hu, ru⟩ := RelO.some_of (v := v) (o := mA f) (by rw [← l]; exact r f)
  exact get_map I.kIn O (c.get f) c.hd n hu (handed_of ru) (h u _ (I.tok _) ru)

theorem getmeth_ok {m : Str} {g : Addr} {pl : Sem Bool} {Q : Value × List Value → Shared → Prop} (I : Inv X pins σ H s) (e : H a = some (.ins C dx fs)) (c : Cls X.K C) (k : Meth X.K C m g) (l : fs.lookup m = none)
    (h : Q (.ref g, [.ref a]) s) : wpAny (model X.prog X.w) A (getMethod (.ref a) m pl) Q E s := by
  obtain ⟨mA, O, r, _, _, _⟩ := ins_get I.hok e
  have hn : mA m = none := RelO.none_of (by rw [← l]; exact r m)
  exact get_meth I.kIn O (c.get m) k.at_ k.fn hn h

theorem setattr_ok {y : V} {u : Value} {Q : Unit → Shared → Prop} (I : Inv X pins σ H s) (e : H a = some (.ins C dx fs)) (c : Cls X.K C) (n : NoAttr X.K C f) (hl : fs.length < 1000) (ry : RelV y u)
    (h : ∀ s', Inv X pins σ (upd H a (.ins C dx (putF f y fs))) s' → Q () s') : wpAny (model X.prog X.w) A (setAttr (.ref a) f u) Q E s := by
  obtain ⟨mA, O, r, wi, _, ho⟩ := ins_get I.hok e
  have hz : (fs.map (·.1)).length ≤ sizeLine := by rw [List.length_map, sizeLine_eq]; omega
  refine set_map I.kIn O c.sa c.po n.taker c.hd wi hz fun h' O' sb => h _ ?_
  have hd : ∃ o, h'.get? dx = some o := let ⟨o, _, _, e', _⟩ := O'.ns; ⟨o, e'⟩
  refine I.write (x := a) (e := dx) (by rw [e]; exact True.intro) (.inr ho) (fun b q hb z => (sb.2 b hb).trans z) hd ?_
  refine ⟨by rw [upd_ne O.ne]; exact ho, ?_, O.ne, O'.obj, _, O'.ns, fun g => ?_, fun g hg => ?_⟩
  · have := length_putF f y fs; omega
  · show RelO ((putF f y fs).lookup g) (if g = f then some u else mA g)
    rw [lookup_putF]
    by_cases q : g = f
    · rw [if_pos q, if_pos q]; exact ry
    · rw [if_neg q, if_neg q]; exact r g
  · by_cases q : g = f
    · rw [q]; exact (keys_putF f y fs).1
    · refine (keys_putF f y fs).2 g (wi g fun z => hg ?_)
      show (if g = f then some u else mA g) = none
      rw [if_neg q]; exact z

theorem Inv.made (I : Inv X pins σ H s) : Inv X pins σ (upd (upd H s.heap.objs.size (.own (s.heap.objs.size + 1))) (s.heap.objs.size + 1) (.ins C s.heap.objs.size []))
    { s with heap := (s.heap.push PySem.W.emptyDict).push (PySem.W.instObj C s.heap.objs.size) } := by
  have e1 : (s.heap.push PySem.W.emptyDict).get? s.heap.objs.size = some PySem.W.emptyDict := Heap.get?_push_size s.heap rfl
  have e2 : ((s.heap.push PySem.W.emptyDict).push (PySem.W.instObj C s.heap.objs.size)).get? (s.heap.objs.size + 1) = some (PySem.W.instObj C s.heap.objs.size) := by
    have := Heap.get?_push_size (s.heap.push PySem.W.emptyDict) (o := PySem.W.instObj C s.heap.objs.size) rfl
    rwa [Heap.size_push] at this
  have e3 : (s.heap.push PySem.W.emptyDict).Ns s.heap.objs.size (fun _ => none) := ⟨PySem.W.emptyDict, #[], _, e1, rfl, (fun e he => absurd he (by simp)), fun _ => rfl⟩
  have I1 := I.laid (a := s.heap.objs.size) (o := .own (s.heap.objs.size + 1)) (h' := s.heap.push PySem.W.emptyDict) (t' := s.toks) (fun b u q => Heap.get?_push_of_some _ q) (Nat.le_refl _) ⟨_, e1⟩
  refine I1.laid (a := s.heap.objs.size + 1) (o := .ins C s.heap.objs.size []) (t' := s.toks) (fun b u q => Heap.get?_push_of_some _ q) (Nat.le_of_eq (Heap.size_push _ _)) ?_
  have ne : s.heap.objs.size ≠ s.heap.objs.size + 1 := Nat.ne_of_lt (Nat.lt_succ_self _)
  refine ⟨by rw [upd_ne ne, upd_same], Nat.zero_le _, ne, e2, fun _ => none, (Heap.Ns1.of_empty e3).at fun o q => Heap.get?_push_of_some _ q, fun _ => True.intro, fun y hy => absurd rfl hy⟩

theorem attr_of {prog : Program} {w : World} {env : Env} {e : Expr} {f : Str} {pos : Pos} {s : Shared} {Q : Value → Shared → Prop} (hb : attributeBase e f env (eval e env) = eval e env)
    (h : wpAny (model prog w) A (eval e env) (fun o s₁ => wpAny (model prog w) A (getAttr o f true) Q E s₁) E s) : wpAny (model prog w) A (eval (.Attribute e f pos) env) Q E s :=
  Attribute_any_ h (by rw [arm_eval_Attribute, hb])
end

/-! ### readings and rules -/
def tFld (K : PySem.W.Frag) (ta : TE) (f : Str) : TE := fun σ H Q => ta σ H fun x H1 => ∃ a C dx fs v, x = .ref a ∧ H1 a = some (.ins C dx fs) ∧ Cls K C ∧ NoAttr K C f ∧ fs.lookup f = some v ∧ Q v H1
def sFld (K : PySem.W.Frag) (ta tv : TE) (f : Str) : TS := fun D σ H => tv σ H fun y H1 => ta σ H1 fun x H2 => ∃ a C dx fs, x = .ref a ∧ H2 a = some (.ins C dx fs) ∧ Cls K C ∧ NoAttr K C f ∧ fs.length < 1000 ∧
  D.nx σ (upd H2 a (.ins C dx (putF f y fs)))
section
variable {X : Cx} {o e value : Expr} {f : Str} {pos pos' tpos : Pos} {ta tv : TE}
theorem pe_fld (he : PE X e ta) (hb : attributeBase e f X.env (eval e X.env) = eval e X.env) : PE X (.Attribute e f pos) (tFld X.K ta f) := by
  intro pins s σ H Q I h
  refine attr_of hb (thn (he pins s σ H _ I h) fun u s1 ⟨x, H1, I1, rx, a, C, dx, fs, v, ex, ea, c, n, l, q⟩ => ?_)
  subst ex
  obtain rfl : u = Value.ref a := rx
  exact getattr_ok I1 ea c n l fun u' s2 I2 ru => ⟨v, H1, I2, ru, q⟩
theorem ps_fld (ha : PE X o ta) (hv : PE X value tv) (hs : swapsWith value (some (.Attribute o f pos')) pos.line X.env = pure false) : PS X (.Assign [.Attribute o f pos'] value pos) (sFld X.K ta tv f) := by
  intro pins s σ H D I h
  refine plainObj_wpAny_Assign_Attribute (thn (hv pins s σ H _ I h) fun u s1 ⟨y, H1, I1, ry, q⟩ => thn (ha pins s1 σ H1 _ I1 q) fun ov s2 ⟨x, H2, I2, rx, a, C, dx, fs, ex, ea, c, n, l, q2⟩ => ?_) hs
  subst ex
  obtain rfl : ov = Value.ref a := rx
  exact setattr_ok I2 ea c n l ry fun s3 I3 => ⟨σ, _, I3, q2⟩
end

/-! ### isinstance -/
section
variable {X : Cx} {pins : List (Addr × Obj)} {σ : St} {H : Hp} {s : Shared} {A : Around} {E : Value → Shared → Prop} {Q : Value → Shared → Prop} {c : Value} {b : Bool}
inductive TyOf (K : PySem.W.Frag) (H : Hp) : V → Value → Prop where
  | non : TyOf K H .non (.type "NoneType")
  | bl (x : Bool) : TyOf K H (.bl x) (.type "bool")
  | int (i : Int) : TyOf K H (.int i) (.type "int")
  | str (x : Str) : TyOf K H (.str x) (.type "str")
  | flt (x : UInt64) : TyOf K H (.flt x) (.type "float")
  | lst {a : Addr} {xs : List V} (e : H a = some (.lst xs)) : TyOf K H (.ref a) (.type "list")
  | frz {a : Addr} {o : Obj} {xs : List V} (e : H a = some (.frz o (.lst xs))) : TyOf K H (.ref a) (.type "list")
  | tup {a : Addr} {xs : List V} (e : H a = some (.tup xs)) : TyOf K H (.ref a) (.type "tuple")
  | dK {a : Addr} {kvs : List (Key × V)} (e : H a = some (.dK kvs)) : TyOf K H (.ref a) (.type "dict")
  | dT {a : Addr} {kvs : List (List Key × V)} (e : H a = some (.dT kvs)) : TyOf K H (.ref a) (.type "dict")
  | ins {a C dx : Addr} {fs : List (Str × V)} (e : H a = some (.ins C dx fs)) (cl : Cls K C) (ha : PySem.W.findIn K (.ref C) "__class__" = some (some (.builtin "object.__class__")))
      (hn : PySem.W.specialIn K (.builtin "object.__class__") "__get__" = some (some (.builtin "getset_descriptor.__get__"))) (htk : PySem.W.takesIn K (.builtin "object.__class__") = some true)
      (hm : PySem.W.mroIn K C (.type "object") = some true) : TyOf K H (.ref a) (.ref C)
theorem isinst_ok {x : V} {u t : Value} (I : Inv X pins σ H s) (rx : RelV x u) (ty : TyOf X.K H x t) (e : PySem.W.kitOne X.K t c = some b) (h : ∀ tk, Q (.bool b) { s with toks := tk }) :
    wpAny (model X.prog X.w) A (call (.builtin "isinstance") [u, c]) Q E s := by
  cases ty with
  | non => cases (show u = Value.none from rx); exact PySem.W.kia_one PySem.W.kitx_none I.kIn True.intro e (fun z => nomatch z) h
  | bl y => cases (show u = Value.bool y from rx); exact PySem.W.kia_one PySem.W.kitx_bool I.kIn True.intro e (fun z => nomatch z) h
  | int i => obtain ⟨t, q⟩ := (show ∃ t, u = Value.int i t from rx); cases q; exact PySem.W.kia_one PySem.W.kitx_int I.kIn True.intro e (fun z => nomatch z) h
  | str y => obtain ⟨t, q⟩ := (show ∃ t, u = Value.str y t from rx); cases q; exact PySem.W.kia_one PySem.W.kitx_str I.kIn True.intro e (fun z => nomatch z) h
  | flt y => obtain ⟨t, q⟩ := (show ∃ t, u = Value.float y t from rx); cases q; exact PySem.W.kia_one PySem.W.kitx_float I.kIn True.intro e (fun z => nomatch z) h
  | @lst a xs ea =>
    cases (show u = Value.ref a from rx)
    obtain ⟨_, _, n, _, h1⟩ := (show ObjOk X.prog X.w H s.heap a (.lst xs) from I.hok a _ ea)
    exact PySem.W.kia_one PySem.W.kitx_list I.kIn ⟨_, h1, rfl⟩ e (fun z => nomatch z) h
  | @frz a ob xs ea =>
    cases (show u = Value.ref a from rx)
    obtain ⟨_, _, _, n, _, h1⟩ := (show ObjOk X.prog X.w H s.heap a (.frz ob (.lst xs)) from I.hok a _ ea)
    exact PySem.W.kia_one PySem.W.kitx_list I.kIn ⟨_, h1, rfl⟩ e (fun z => nomatch z) h
  | @tup a xs ea =>
    cases (show u = Value.ref a from rx)
    obtain ⟨_, _, _, p⟩ := (show ObjOk X.prog X.w H s.heap a (.tup xs) from I.hok a _ ea)
    obtain ⟨o, h1, h2, _⟩ := p
    exact PySem.W.kia_one PySem.W.kitx_tuple I.kIn ⟨o, h1, h2⟩ e (fun z => nomatch z) h
  | @dK a kvs ea =>
    cases (show u = Value.ref a from rx)
    obtain ⟨_, _, vs, _, p⟩ := (show ObjOk X.prog X.w H s.heap a (.dK kvs) from I.hok a _ ea)
    obtain ⟨o, es, ep, h1, h2, _⟩ := p
    exact PySem.W.kia_one PySem.W.kitx_dict I.kIn ⟨o, h1, h2.1⟩ e (fun z => nomatch z) h
  | @dT a kvs ea =>
    cases (show u = Value.ref a from rx)
    obtain ⟨_, _, xs, _, o, es, ep, h1, h2, _⟩ := (show ObjOk X.prog X.w H s.heap a (.dT kvs) from I.hok a _ ea)
    exact PySem.W.kia_one PySem.W.kitx_dict I.kIn ⟨o, h1, h2.1⟩ e (fun z => nomatch z) h
  | @ins a C dx fs ea cl ha hn htk hm =>
    cases (show u = Value.ref a from rx)
    obtain ⟨mA, O, _⟩ := ins_get I.hok ea
    obtain ⟨od, J, _⟩ := O.look
    exact PySem.W.kia_one (PySem.W.kitx_own (cl.get _) cl.hd ha hn htk hm) I.kIn J e (fun z => nomatch z) h
end
end L2

namespace L2
open PySem PySem.Spec PyProof.Rows

/-! ### room -/
structure Room (k : Nat) (A : Around) : Prop where
  hd : A.handled = none
  dp : A.depth + 3 * k + 5 < recursionLimit
  un : A.units + 16 * k + 200 < cLine
theorem Room.mono {j k : Nat} {A : Around} (r : Room k A) (h : j ≤ k) : Room j A := ⟨r.hd, by have := r.dp; omega, by have := r.un; omega⟩
theorem Room.deeper {k : Nat} {A : Around} (r : Room (k + 1) A) (env : Env) : Room k (A.deeper env) :=
  ⟨r.hd, by have := r.dp; show A.depth + 1 + 3 * k + 5 < _; omega, by have := r.un; show A.units + 3 + 16 * k + 200 < _; omega⟩
theorem make_depth {A : Around} {C : Addr} {us : List Value} {kw : List (Str × Value)} : (A.under (.builtin "type.__call__" ⟨.ref C :: us, kw⟩)).depth = A.depth + 1 := by
  first | rfl | simp [Around.under, Code.weight, Code.isCreation, Code.isGuard, Code.isCaller, Code.frames, Code.isFrame, guardIds]
theorem make_units {A : Around} {C : Addr} {us : List Value} {kw : List (Str × Value)} : (A.under (.builtin "type.__call__" ⟨.ref C :: us, kw⟩)).units = A.units + 1 := by
  first | rfl | simp [Around.under, Code.cUnits, Code.frames, Code.isFrame]
theorem Room.make {k : Nat} {A : Around} (r : Room (k + 1) A) (C : Addr) (us : List Value) (kw : List (Str × Value)) : Room k (A.under (.builtin "type.__call__" ⟨.ref C :: us, kw⟩)) :=
  ⟨r.hd, by have := r.dp; rw [make_depth]; omega, by have := r.un; rw [make_units]; omega⟩
theorem Room.depth {k : Nat} {A : Around} (r : Room k A) : A.depth < recursionLimit := by have := r.dp; omega
theorem Room.units {k : Nat} {A : Around} (r : Room k A) : A.units + 64 < cLine := by have := r.un; omega
/-! ### argument lists and displays -/
def tNil : TA := fun _ H Q => Q [] H
def tCons (ta : TE) (tr : TA) : TA := fun σ H Q => ta σ H fun x H1 => tr σ H1 fun xs H2 => Q (x :: xs) H2
section
variable {X : Cx} {e : Expr} {es : List Expr} {te : TE} {t : TA} {pos : Pos}
theorem pa_nil : PA X [] tNil := fun _ _ _ _ H Q I h => Calls.spliced_nil ⟨[], H, I, .nil, h⟩
theorem pa_cons (ha : PE X e te) (hr : PA X es t) (hs : starEach (e :: es) X.env = (false, eval e X.env) :: starEach es X.env := by rfl) : PA X (e :: es) (tCons te t) := by
  intro pos pins s σ H Q I h
  rw [hs]
  show wpAny _ _ (spliced ((false, eval e X.env) :: backTo pos (starEach es X.env))) _ _ s
  refine Calls.spliced_cons (thn (ha pins s σ H _ I h) fun u s1 ⟨x, H1, I1, r1, q1⟩ => ?_)
  exact thn (hr pos pins s1 σ H1 _ I1 q1) fun us s2 ⟨xs, H2, I2, r2, q2⟩ => ⟨x :: xs, H2, I2, .cons r1 r2, q2⟩

def tTup (t : TA) : TE := fun σ H Q => t σ H fun xs H1 => xs.length ≤ sizeLine ∧ ∀ p, H1 p = none → Q (.ref p) (upd H1 p (.tup xs))
def tLst (t : TA) : TE := fun σ H Q => t σ H fun xs H1 => xs.length ≤ sizeLine ∧ ∀ p, H1 p = none → Q (.ref p) (upd H1 p (.lst xs))
theorem pe_tup {x1} (h : PA X es t) : PE X (.Tuple es x1 pos) (tTup t) := by
  intro pins s σ H Q I hq
  refine wpAny_Tuple_spliced (thn (h pos pins s σ H _ I hq) fun us s1 ⟨xs, H1, I1, r, z, q⟩ => ⟨by rw [← r.length]; exact z, ?_⟩)
  have hf : H1 s1.heap.objs.size = none := I1.hok.fresh (Nat.le_refl _)
  refine ⟨.ref s1.heap.objs.size, upd H1 s1.heap.objs.size (.tup xs), I1.laid (t' := s1.toks) (fun b u e => Heap.get?_push_of_some _ e) (Nat.le_refl _) ?_, rfl, q _ hf⟩
  exact ⟨z, us, r, ⟨_, Heap.get?_push_size _ rfl, rfl, _, rfl⟩⟩
theorem pe_lst (h : PA X es t) : PE X (.List es pos) (tLst t) := by
  intro pins s σ H Q I hq
  refine wpAny_List_spliced (thn (h pos pins s σ H _ I hq) fun us s1 ⟨xs, H1, I1, r, z, q⟩ => ⟨by rw [← r.length]; exact z, ?_⟩)
  have hf : H1 s1.heap.objs.size = none := I1.hok.fresh (Nat.le_refl _)
  refine ⟨.ref s1.heap.objs.size, upd H1 s1.heap.objs.size (.lst xs), I1.laid (t' := s1.toks) (fun b u e => Heap.get?_push_of_some _ e) (Nat.le_refl _) ?_, rfl, q _ hf⟩
  exact ⟨z, us, 0, r, Heap.get?_push_size _ rfl⟩
end

/-! ### what a def promises -/
abbrev Sp := List V → Hp → VK → XK → Prop
abbrev CXT := List Env → Hp → Shared → XK → Value → Shared → Prop

structure Env0 (P : Program) (w : World) (K : PySem.W.Frag) (mg : Str → Option Value) (base : Heap) (A : Around) (outer : List Env) (s : Shared) (H : Hp) : Prop where
  frames : A.frames = some outer
  mod : Mod K mg base
  bs : ∀ b o, base.get? b = some o → s.heap.get? b = some o ∧ H b = none
  bsz : base.objs.size ≤ s.heap.objs.size
  funs : s.heap.FunFrames base outer
  frf : ∀ b ∈ frs outer, H b = none
  hok : HOk P w H s.heap
  bare : AllBare s.gens
def CE (outer : List Env) (P : Program) (w : World) (H : Hp) (s : Shared) (Q : VK) (u : Value) (s' : Shared) : Prop :=
  ∃ v H', s'.os = s.os ∧ AllBare s'.gens ∧ Un (frs outer) [] H H' s.heap s'.heap ∧ HOk P w H' s'.heap ∧ RelV v u ∧ Q v H'
def CR (CX : CXT) (outer : List Env) (P : Program) (w : World) (H : Hp) (s : Shared) (Q : VK) (E : XK) (r : Result) (s' : Shared) : Prop :=
  match r with
  | .ok (.ret u) => CE outer P w H s Q u s'
  | .ok _ => False
  | .error e => CX outer H s E e s'
structure FnOk (P : Program) (w : World) (K : PySem.W.Frag) (mg : Str → Option Value) (base : Heap) (CX : CXT) (k : Nat) (f : Addr) (fd : FuncData) (ps : List Str) (sp : Sp) : Prop where
  len : ∀ vs H Q E, sp vs H Q E → vs.length = ps.length
  run : ∀ (A : Around) (outer : List Env) (s : Shared) (H : Hp) (args : Args) (us : List Value) (vs : List V) (Q : VK) (E : XK), Room k A → Env0 P w K mg base A outer s H → BindsTo s fd args (ps.zip us) → Vals vs us → sp vs H Q E →
    codeAny (model P w) A (.call (.ref f) args) (CR CX outer P w H s Q E) s
theorem Env0.make {P : Program} {w : World} {K : PySem.W.Frag} {mg : Str → Option Value} {base : Heap} {A : Around} {outer : List Env} {s : Shared} {H : Hp} (e : Env0 P w K mg base A outer s H) (C : Addr) (us : List Value) (kw : List (Str × Value)) :
    Env0 P w K mg base (A.under (.builtin "type.__call__" ⟨.ref C :: us, kw⟩)) outer s H := ⟨by first | exact e.frames | (simpa [Around.under, Code.envs, Code.isFrame, pushEnvs] using e.frames), e.mod, e.bs, e.bsz, e.funs, e.frf, e.hok, e.bare⟩
section
variable {X : Cx} {pins : List (Addr × Obj)} {σ : St} {H : Hp} {s s' : Shared}
theorem Inv.env0 (I : Inv X pins σ H s) : Env0 X.prog X.w X.K X.mg X.base X.A X.stack s H :=
  ⟨I.ok.frames, I.ok.mod, I.bs, Nat.le_trans I.ok.bsz I.sz, I.stack, I.stkFree, I.hok, I.bare⟩
theorem Inv.after {Q : VK} {u : Value} (I : Inv X pins σ H s) (h : CE X.stack X.prog X.w H s Q u s') : EP X pins σ Q u s' := by
  obtain ⟨v, H', os, bare, un, hok, r, q⟩ := h
  obtain ⟨hh, g, d, t, os'⟩ := s'
  obtain rfl : os' = s.os := os
  exact ⟨v, H', I.call (h' := hh) (g' := g) (d' := d) (t' := t) (ch := []) un hok bare (fun b z => absurd z (by simp)), r, q⟩
end

/-! ### calls -/
def tCall (sp : Sp) (dvs : List V) (E : XK) (t : TA) : TE := fun σ H Q => t σ H fun vs H1 => sp (vs ++ dvs) H1 Q E
def tMeth (C : Addr) (m : Str) (sp : Sp) (dvs : List V) (E : XK) (ta : TE) (t : TA) : TE := fun σ H Q => ta σ H fun x H1 => ∃ a dx fs, x = .ref a ∧ H1 a = some (.ins C dx fs) ∧ fs.lookup m = none ∧
  t σ H1 fun vs H2 => sp (x :: (vs ++ dvs)) H2 Q E
def tMake (C : Addr) (sp : Sp) (dvs : List V) (E : XK) (t : TA) : TE := fun σ H Q => t σ H fun vs H1 => ∀ x dx, H1 x = none → H1 dx = none → dx ≠ x →
  sp (.ref x :: (vs ++ dvs)) (upd (upd H1 dx (.own x)) x (.ins C dx [])) (fun v H2 => v = .non ∧ Q (.ref x) H2) E

def Binds (K : PySem.W.Frag) (fd : FuncData) (ps : List Str) (ds : List Value) : Prop :=
  ∀ (s : Shared) (us : List Value), K.In s.heap → (us ++ ds).length = ps.length → BindsTo s fd ⟨us, []⟩ (ps.zip (us ++ ds))
theorem Binds.all {K : PySem.W.Frag} {fd : FuncData} {ps : List Str} (h : ∀ us : List Value, us.length = ps.length → bindArgs fd ⟨us, []⟩ = pure (ps.zip us)) : Binds K fd ps [] := fun s us _ hl => by
  rw [List.append_nil] at hl ⊢
  exact .of_eq (h us hl)

def Passes (CX : CXT) (X : Cx) (E : XK) : Prop := ∀ (pins : List (Addr × Obj)) (σ : St) (H : Hp) (s : Shared) (e : Value) (s' : Shared), Inv X pins σ H s → CX X.stack H s E e s' → X.xe e s'

section
variable {X : Cx} {CX : CXT} {k : Nat} {f C : Addr} {fd : FuncData} {ps : List Str} {sp : Sp} {dvs : List V} {ds : List Value} {E : XK} {x m : Str} {p pos apos : Pos} {e o : Expr} {es : List Expr} {ta : TE} {t : TA}

theorem run_fn {pins : List (Addr × Obj)} {σ : St} {H : Hp} {s : Shared} {Q : VK} {us : List Value} {vs : List V} (F : FnOk X.prog X.w X.K X.mg X.base CX k f fd ps sp) (hr : Room k X.A) (hb : Binds X.K fd ps ds) (hd : Vals dvs ds) (hx : Passes CX X E)
    (I : Inv X pins σ H s) (r : Vals vs us) (h : sp (vs ++ dvs) H Q E) : wpAny (model X.prog X.w) X.A (call (.ref f) us) (EP X pins σ Q) X.xe s := by
  have r2 : Vals (vs ++ dvs) (us ++ ds) := r.append hd
  have hl : (us ++ ds).length = ps.length := by rw [← r2.length]; exact F.len _ _ _ _ h
  refine wpAny_call (codeAny_mono (F.run X.A X.stack s H ⟨us, []⟩ (us ++ ds) (vs ++ dvs) Q E hr I.env0 (hb s us I.kIn hl) r2 h) fun r s' hq => ?_)
  cases r with
  | error e => exact hx pins σ H s e s' I hq
  | ok fl =>
    cases fl with
    | ret u => exact I.after hq
    | next => exact False.elim hq
    | brk => exact False.elim hq
    | cont => exact False.elim hq

theorem pe_call (F : FnOk X.prog X.w X.K X.mg X.base CX k f fd ps sp) (hr : Room k X.A) (hg : Gl X x) (hm : X.mg x = some (.ref f)) (hk : PySem.W.keepIn X.K (.ref f) = true) (hb : Binds X.K fd ps ds) (hd : Vals dvs ds) (hx : Passes CX X E)
    (ha : PA X (e :: es) t) (hdb : (x == ("__debug__" : Str)) = false := by decide) (he : starEach (e :: es) X.env = (false, eval e X.env) :: starEach es X.env := by rfl) (hpl : (backTo pos (starEach es X.env)).any (·.1) = false := by rfl) :
    PE X (.Call (.Name x p) (e :: es) [] pos) (tCall sp dvs E t) := by
  intro pins s σ H Q I h
  refine wpAny_Call_Name_kw (ld_glob I hg hm ?_ hdb)
  refine PySem.W.callWith_K (h₀ := X.base) I.ok.mod.kin hk (thn (ha pos pins s σ H _ I h) fun us s1 ⟨vs, H1, I1, r, q⟩ => ⟨I1.kIn, ?_⟩) he hpl
  exact run_fn F hr hb hd hx I1 r q
theorem pe_meth {pl : Sem Bool} (he : PE X o ta) (c : Cls X.K C) (hm : Meth X.K C m f) (F : FnOk X.prog X.w X.K X.mg X.base CX k f fd ps sp) (hr : Room k X.A) (hb : Binds X.K fd ps ds) (hd : Vals dvs ds) (hx : Passes CX X E) (ha : PA X (e :: es) t)
    (hst : starEach (e :: es) X.env = (false, eval e X.env) :: starEach es X.env := by rfl) (hpl : (backTo pos (starEach es X.env)).any (·.1) = false := by rfl)
    (ht : eval (.Call (.Attribute o m apos) (e :: es) [] pos) X.env = (do
      let ov ← eval o X.env
      standAt apos.atName
      let (f, first) ← holding [ov] (getMethod ov m pl)
      callWith pos f first (backTo pos (starEach (e :: es) X.env)) (backToKw pos (keywordEach [] X.env))) := by rfl) :
    PE X (.Call (.Attribute o m apos) (e :: es) [] pos) (tMeth C m sp dvs E ta t) := by
  intro pins s σ H Q I h
  refine PySem.W.methodCall_KW (pl := pl) (thn (he pins s σ H _ I h) fun u s1 ⟨x, H1, I1, rx, a, dx, fs, ex, ea, l, q⟩ => ?_) ht
  subst ex
  obtain rfl : u = Value.ref a := rx
  refine getmeth_ok I1 ea c hm l ?_
  refine PySem.W.callWith_K (first := [.ref a]) (h₀ := X.base) I.ok.mod.kin hm.kp (thn (ha pos pins s1 σ H1 _ I1 q) fun us s2 ⟨vs, H2, I2, r, q2⟩ => ⟨I2.kIn, ?_⟩) hst hpl
  exact run_fn (us := .ref a :: us) (vs := .ref a :: vs) F hr hb hd hx I2 (.cons rfl r) q2
structure Mk (K : PySem.W.Frag) (C f : Addr) : Prop where
  makes : PySem.W.makesIn K C = true
  init : PySem.W.findIn K (.ref C) "__init__" = some (some (.ref f))
  fn : PySem.W.isFn K (.ref f) = true
  kp : PySem.W.keepIn K (.ref C) = true

theorem run_make {pins : List (Addr × Obj)} {σ : St} {H : Hp} {s : Shared} {Q : VK} {us : List Value} {vs : List V} (M : Mk X.K C f) (F : FnOk X.prog X.w X.K X.mg X.base CX k f fd ps sp) (hr : Room (k + 1) X.A) (hb : Binds X.K fd ps ds) (hd : Vals dvs ds)
    (hx : Passes CX X E) (I : Inv X pins σ H s) (r : Vals vs us)
    (h : ∀ x dx, H x = none → H dx = none → dx ≠ x → sp (.ref x :: (vs ++ dvs)) (upd (upd H dx (.own x)) x (.ins C dx [])) (fun v H2 => v = .non ∧ Q (.ref x) H2) E) :
    wpAny (model X.prog X.w) X.A (call (.ref C) us) (EP X pins σ Q) X.xe s := by
  have hq := h (s.heap.objs.size + 1) s.heap.objs.size (I.hok.fresh (Nat.le_succ _)) (I.hok.fresh (Nat.le_refl _)) (Nat.ne_of_lt (Nat.lt_succ_self _))
  have I2 := Inv.made (C := C) I
  have r2 : Vals (V.ref (s.heap.objs.size + 1) :: (vs ++ dvs)) (Value.ref (s.heap.objs.size + 1) :: (us ++ ds)) := .cons rfl (r.append hd)
  have hl : (Value.ref (s.heap.objs.size + 1) :: us ++ ds).length = ps.length := by
    have e := r2.length
    rw [F.len _ _ _ _ hq] at e
    exact e.symm
  refine wpAny_call (make_map (f := f) I.kIn M.makes M.init (beq_iff_eq.mp M.fn) (codeAny_mono (F.run _ X.stack _ _ ⟨Value.ref (s.heap.objs.size + 1) :: us, []⟩ (Value.ref (s.heap.objs.size + 1) :: (us ++ ds)) _ _ E (hr.make C us [])
    (I2.env0.make C us []) (hb _ (Value.ref (s.heap.objs.size + 1) :: us) I2.kIn hl) r2 hq) fun r s' hq' => ?_))
  cases r with
  | error e => exact hx pins σ _ _ e s' I2 hq'
  | ok fl =>
    cases fl with
    | ret u =>
      obtain ⟨v, H', I3, rv, ev, q3⟩ := I2.after hq'
      subst ev
      exact ⟨rv, ⟨V.ref (s.heap.objs.size + 1), H', I3, rfl, q3⟩⟩
    | next => exact False.elim hq'
    | brk => exact False.elim hq'
    | cont => exact False.elim hq'
theorem pe_make (M : Mk X.K C f) (F : FnOk X.prog X.w X.K X.mg X.base CX k f fd ps sp) (hr : Room (k + 1) X.A) (hg : Gl X x) (hm : X.mg x = some (.ref C)) (hb : Binds X.K fd ps ds) (hd : Vals dvs ds) (hx : Passes CX X E)
    (ha : PA X (e :: es) t) (hdb : (x == ("__debug__" : Str)) = false := by decide) (he : starEach (e :: es) X.env = (false, eval e X.env) :: starEach es X.env := by rfl) (hpl : (backTo pos (starEach es X.env)).any (·.1) = false := by rfl) :
    PE X (.Call (.Name x p) (e :: es) [] pos) (tMake C sp dvs E t) := by
  intro pins s σ H Q I h
  refine wpAny_Call_Name_kw (ld_glob I hg hm ?_ hdb)
  refine PySem.W.callWith_K (h₀ := X.base) I.ok.mod.kin M.kp (thn (ha pos pins s σ H _ I h) fun us s1 ⟨vs, H1, I1, r, q⟩ => ⟨I1.kIn, ?_⟩) he hpl
  exact run_make M F hr hb hd hx I1 r q
end

/-! ### keywords -/
section
variable {X : Cx} {CX : CXT} {k : Nat} {f C : Addr} {fd : FuncData} {ps ks : List Str} {sp : Sp} {E : XK} {x m : Str} {p pos apos kpos : Pos} {e o : Expr} {es : List Expr} {kws : List Keyword} {te ta : TE} {t tk : TA} {nm : Option Str}
variable {g : List Value → List Value → List Value} {gV : List V → List V → List V}
end

/-! ### a def's body keeps its promise -/
structure FnScope (N P : List Str) (sc : Scope) : Prop where
  kind : sc.kind = .function
  co : sc.isCoroutine = false
  gen : sc.isGenerator = false
  nd : N.Nodup
  pre : N.take P.length = P
  par : ∀ x ∈ P, sc.names.lookup x = some .local ∨ sc.names.lookup x = some .cell
  nofree : ∀ y ∈ sc.names, y.2 ≠ .free

theorem bindL_out {kindOf : Str → Option NameKind} {x : Str} : ∀ {binds : List (Str × Value)} {m : Str → Option Value}, (∀ v, (x, v) ∉ binds) → bindL kindOf binds m x = m x
  | [], _, _ => rfl
  | (n, v) :: r, m, h => by
    unfold bindL
    rw [bindL_out fun w hw => h w (List.mem_cons_of_mem _ hw)]
    split
    · have : x ≠ n := by rintro rfl; exact h v List.mem_cons_self
      simp [this]
    · rfl
theorem bindC_out {kindOf : Str → Option NameKind} {x : Str} : ∀ {binds : List (Str × Value)} {m : Str → Option Value}, (∀ v, (x, v) ∉ binds) → bindC kindOf binds m x = m x
  | [], _, _ => rfl
  | (n, v) :: r, m, h => by
    unfold bindC
    rw [bindC_out fun w hw => h w (List.mem_cons_of_mem _ hw)]
    split
    · rfl
    · have : x ≠ n := by rintro rfl; exact h v List.mem_cons_self
      simp [this]
theorem bindL_get {kindOf : Str → Option NameKind} {x : Str} {v : Value} : ∀ {P : List Str} {vs : List Value} {i : Nat} {m : Str → Option Value}, P.Nodup → P[i]? = some x → vs[i]? = some v → kindOf x = some .local →
    bindL kindOf (P.zip vs) m x = some v
  | [], _, _, _, _, h, _, _ => by simp at h
  | _ :: _, [], _, _, _, _, h, _ => by simp at h
  | p :: P, w :: vs, 0, m, nd, h1, h2, hk => by
    simp at h1 h2; subst h1; subst h2
    show bindL kindOf ((p, w) :: P.zip vs) m p = _
    unfold bindL
    rw [bindL_out fun v hv => (List.nodup_cons.mp nd).1 (List.of_mem_zip hv).1, if_pos hk]
    simp
  | p :: P, w :: vs, i + 1, m, nd, h1, h2, hk => by
    show bindL kindOf ((p, w) :: P.zip vs) m x = _
    unfold bindL
    exact bindL_get (i := i) (List.nodup_cons.mp nd).2 (by simpa using h1) (by simpa using h2) hk
theorem bindC_get {kindOf : Str → Option NameKind} {x : Str} {v : Value} : ∀ {P : List Str} {vs : List Value} {i : Nat} {m : Str → Option Value}, P.Nodup → P[i]? = some x → vs[i]? = some v → kindOf x ≠ some .local →
    bindC kindOf (P.zip vs) m x = some v
  | [], _, _, _, _, h, _, _ => by simp at h
  | _ :: _, [], _, _, _, _, h, _ => by simp at h
  | p :: P, w :: vs, 0, m, nd, h1, h2, hk => by
    simp at h1 h2; subst h1; subst h2
    show bindC kindOf ((p, w) :: P.zip vs) m p = _
    unfold bindC
    rw [bindC_out fun v hv => (List.nodup_cons.mp nd).1 (List.of_mem_zip hv).1, if_neg hk]
    simp
  | p :: P, w :: vs, i + 1, m, nd, h1, h2, hk => by
    show bindC kindOf ((p, w) :: P.zip vs) m x = _
    unfold bindC
    exact bindC_get (i := i) (List.nodup_cons.mp nd).2 (by simpa using h1) (by simpa using h2) hk

def start (N : List Str) (vs : List V) : St := vs.map some ++ List.replicate (N.length - vs.length) none

def cxOf (CX : CXT) (P : Program) (w : World) (K : PySem.W.Frag) (mg : Str → Option Value) (base : Heap) (N : List Str) (qual : Str) (scope : Scope) (f : Addr) (cd : Value) (A : Around) (outer : List Env) (s : Shared) (H : Hp) (E : XK) : Cx where
  prog := P
  w := w
  K := K
  mg := mg
  base := base
  A := A.deeper (envOfC qual scope s.heap.objs.size f cd)
  N := N
  s₀ := s
  H₀ := H
  env := envOfC qual scope s.heap.objs.size f cd
  outer := outer
  stack := envOfC qual scope s.heap.objs.size f cd :: outer
  ex := []
  calm := true
  fn := fun _ => true
  pn := []
  xe := fun e s' => wpAny (model P w) (A.deeper (envOfC qual scope s.heap.objs.size f cd)) (leaving (envOfC qual scope s.heap.objs.size f cd) e) (fun _ s'' => CX outer H s E e s'') (fun e' s'' => CX outer H s E e' s'') s'

theorem cell_has {sc : Scope} {n : Nat} {x : Str} (h : sc.names.lookup x = some .cell) : ∃ c, (cellsFrom n sc.names []).lookup x = some c := by
  have q := PySem.W.cellsFrom_some sc.names n [] (.inl h)
  exact Option.isSome_iff_exists.mp q

theorem inv_start {CX : CXT} {P : Program} {w : World} {K : PySem.W.Frag} {mg : Str → Option Value} {base : Heap} {N ps : List Str} {qual : Str} {scope : Scope} {f : Addr} {cd : Value} {A : Around} {outer : List Env} {s s1 : Shared} {H : Hp} {E : XK} {us : List Value} {vs : List V}
    (S : FnScope N ps scope) (hd : A.handled = none) (e0 : Env0 P w K mg base A outer s H) (hl : vs.length = ps.length) (r : Vals vs us)
    (x : InCallC s s.heap.objs.size (bindL (envOfC qual scope s.heap.objs.size f cd).kindOf (ps.zip us) fun _ => none) (cellsFrom (s.heap.objs.size + 1) scope.names []) (bindC (envOfC qual scope s.heap.objs.size f cd).kindOf (ps.zip us) fun _ => none) s1) :
    Inv (cxOf CX P w K mg base N qual scope f cd A outer s H E) [] (start N vs) H s1 := by
  have hpl : ps.length ≤ N.length := by have := congrArg List.length S.pre; rw [List.length_take] at this; omega
  obtain ⟨h1, tk, rfl, hk⟩ := x.done
  have noA : ∀ b : Addr, b ∉ (cxOf CX P w K mg base N qual scope f cd A outer s H E).ex := fun b z => absurd (show b ∈ ([] : List Addr) from z) (by simp)
  refine ⟨⟨e0.mod, S.kind, rfl, rfl, Nat.le_refl _, fun y z c h1 h2 => ?_, fun y hy => ?_, fun y c _ h => ?_, fun _ => hd, Around.frames_deeper e0.frames, .inr ⟨rfl, rfl⟩, fun b z => absurd z (noA b), e0.bs, e0.bsz, fun b _ _ => noA b, fun b z => absurd z (noA b), e0.funs, e0.frf⟩,
    rfl, e0.bare, Un.kept hk, ⟨_, x.toInCall.ns, fun i y v h1 h2 h3 => ?_⟩, fun y c h => ⟨_, x.cell y c h⟩, e0.hok.fresh (Nat.le_refl _), fun y c h => ?_, fun p hp => absurd (show p ∈ ([] : List (Addr × Obj)) from hp) (by simp), e0.hok.kept hk, ?_⟩
  · exact name_of_addr x.apart (PySem.mem_of_lookup h1) (PySem.mem_of_lookup h2)
  · have hy : scope.names.lookup y = some .cell ∨ scope.names.lookup y = some .free := hy
    rcases hy with hy | hy
    · exact cell_has hy
    · exact absurd rfl (S.nofree _ (PySem.mem_of_lookup hy))
  · exact Nat.le_of_lt (x.above y c (PySem.mem_of_lookup h))
  · have hi : i < vs.length := by
      unfold start at h2
      by_cases hi : i < vs.length
      · exact hi
      · rw [List.getElem?_append_right (by simpa using hi)] at h2
        rw [List.getElem?_replicate] at h2
        split at h2 <;> cases h2
    have ha : vs[i]? = some v := by
      unfold start at h2
      rw [List.getElem?_append_left (by simpa using hi), List.getElem?_map] at h2
      cases e : vs[i]? with
      | none => rw [e] at h2; cases h2
      | some a => rw [e] at h2; cases h2; rfl
    obtain ⟨u, hu, rv⟩ := r.get ha
    have hp : ps[i]? = some y := by
      rw [← S.pre, List.getElem?_take_of_lt (by omega)]; exact h1
    have ndP : ps.Nodup := by rw [← S.pre]; exact S.nd.sublist (List.take_sublist _ _)
    refine ⟨u, rv, ?_⟩
    rcases S.par y (List.mem_of_getElem? hp) with k | k
    · exact .inl ⟨k, bindL_get ndP hp hu k⟩
    · obtain ⟨c, e⟩ := cell_has (n := s.heap.objs.size + 1) k
      refine .inr ⟨.inl k, c, e, ?_⟩
      have q := x.cell y c e
      rw [bindC_get ndP hp hu (by show scope.names.lookup y ≠ _; rw [k]; decide)] at q
      exact q
  · exact e0.hok.fresh (Nat.le_of_lt (x.above y c (PySem.mem_of_lookup h)))
  · unfold start
    show _ = N.length
    rw [List.length_append, List.length_map, List.length_replicate]
    omega

theorem fn_of {CX : CXT} {P : Program} {w : World} {K : PySem.W.Frag} {mg : Str → Option Value} {base : Heap} {k : Nat} {f : Addr} {name qual : Str} {params : Arguments} {body : List Stmt} {scope : Scope} {dV kV doc pm cdv ct oc : Value} {an od : Option Addr}
    {osl : Array (Option Value)} {N ps : List Str} {sp : Sp} (lk : K.lookup f = some ⟨oc, od, .func (PySem.W.fnOf name qual params body scope dV kV doc pm an cdv ct), osl⟩) (hcd : PySem.W.codeIn K cdv qual = true) (S : FnScope N ps scope)
    (len : ∀ vs H Q E, sp vs H Q E → vs.length = ps.length)
    (hbody : ∀ (A : Around) (outer : List Env) (s : Shared) (H : Hp) (vs : List V) (Q : VK) (E : XK), Room k (A.deeper (envOfC qual scope s.heap.objs.size f cdv)) → sp vs H Q E →
      ∃ t, PSs (cxOf CX P w K mg base N qual scope f cdv A outer s H E) body t ∧ t { nx := fun _ H' => Q .non H', rt := Q } (start N vs) H) :
    FnOk P w K mg base CX (k + 1) f (PySem.W.fnOf name qual params body scope dV kV doc pm an cdv ct) ps sp := by
  refine ⟨len, fun A outer s H args us vs Q E hr e0 hb r hsp => ?_⟩
  have hl := len _ _ _ _ hsp
  have KX : K.In s.heap := e0.mod.kin.keeps fun b o e => (e0.bs b o e).1
  have lim : s.heap.NoLimit := e0.mod.nolimit.keeps fun b o e => (e0.bs b o e).1
  have hkind : ∀ y ∈ ps.zip us, scope.names.lookup y.1 = some .local ∨ (scope.names.lookup y.1 = some .cell ∧ ((cellsFrom (s.heap.objs.size + 1) scope.names []).lookup y.1).isSome = true) := fun ⟨n, v⟩ hy => by
    rcases S.par n (List.of_mem_zip hy).1 with q | q
    · exact .inl q
    · exact .inr ⟨q, PySem.W.cellsFrom_some _ _ _ (.inl q)⟩
  refine codeAny_call_function hr.depth (KX _ _ lk) rfl S.co S.gen rfl (PySem.W.codeRec_of KX hcd) (hb _ _ _ _ ?_)
  refine wpAny_newFunctionEnv_cells S.kind hkind fun env he s1 x => ?_
  subst he
  refine ⟨lim.keeps x.toInCall.keep, codeAny_func ?_⟩
  obtain ⟨t, ht, hq⟩ := hbody A outer s H vs Q E (hr.deeper _) hsp
  have I : Inv (cxOf CX P w K mg base N qual scope f cdv A outer s H E) [] (start N vs) H s1 := inv_start S hr.hd e0 hl r x
  refine wpAny_mono (ht [] s1 (start N vs) H _ I hq) (fun fl s' hs => ?_) fun e s' hs => hs
  have fin : ∀ {σ' : St} {H' : Hp} {v : V} {u : Value}, Inv (cxOf CX P w K mg base N qual scope f cdv A outer s H E) [] σ' H' s' → RelV v u → Q v H' → CE outer P w H s Q u s' :=
    fun {σ' H' v u} J rv q => ⟨v, H', J.os, J.bare, J.base, J.hok, rv, q⟩
  cases fl with
  | ret u =>
    obtain ⟨v, σ', H', J, rv, q⟩ := hs
    exact fin J rv q
  | next =>
    obtain ⟨σ', H', J, q⟩ := hs
    exact fin (v := V.non) (u := Value.none) J rfl q
  | brk =>
    obtain ⟨_, _, _, q⟩ := hs
    exact False.elim q
  | cont =>
    obtain ⟨_, _, _, q⟩ := hs
    exact False.elim q
end L2

namespace L2
open PySem PySem.Spec PyProof.Rows
section
variable {X : Cx} {x : Str} {p pos : Pos} {e : Expr} {es : List Expr} {t : TA} {id T : String} {r : List V → Hp → VK → Prop}

def tCB (r : List V → Hp → VK → Prop) (t : TA) : TE := fun σ H Q => t σ H fun vs H1 => r vs H1 Q
theorem pe_callB (hc : CallR X (.builtin id) r) (hg : Gl X x) (hm : X.mg x = none) (hv : bootBuiltins x = some (.builtin id)) (ha : PA X (e :: es) t) (hn : x ≠ "__name__" := by decide) (hdb : (x == ("__debug__" : Str)) = false := by decide)
    (he : starEach (e :: es) X.env = (false, eval e X.env) :: starEach es X.env := by rfl) (hpl : (backTo pos (starEach es X.env)).any (·.1) = false := by rfl) : PE X (.Call (.Name x p) (e :: es) [] pos) (tCB r t) := by
  intro pins s σ H Q I h
  refine wpAny_Call_Name_kw (ld_blt I hg hm hv ?_ hn hdb)
  exact PyProof.Rows.callWith_builtin1 (thn (ha pos pins s σ H _ I h) fun us s1 ⟨vs, H1, I1, r1, q1⟩ => hc pins s1 σ H1 vs us Q I1 r1 q1) he hpl
theorem pe_callTy (hc : CallR X (.type T) r) (hg : Gl X x) (hm : X.mg x = none) (hv : bootBuiltins x = some (.type T)) (ha : PA X (e :: es) t) (hn : x ≠ "__name__" := by decide) (hdb : (x == ("__debug__" : Str)) = false := by decide)
    (he : starEach (e :: es) X.env = (false, eval e X.env) :: starEach es X.env := by rfl) (hpl : (backTo pos (starEach es X.env)).any (·.1) = false := by rfl) : PE X (.Call (.Name x p) (e :: es) [] pos) (tCB r t) := by
  intro pins s σ H Q I h
  refine wpAny_Call_Name_kw (ld_blt I hg hm hv ?_ hn hdb)
  exact PyProof.Rows.callWith_type1 (thn (ha pos pins s σ H _ I h) fun us s1 ⟨vs, H1, I1, r1, q1⟩ => hc pins s1 σ H1 vs us Q I1 r1 q1) he hpl
end
end L2

namespace HT
open PySem PyProof.Rows

section
open PySem.SeqAt
open PySem.AutoSeq1 (wpAny_loadPart')
open PySem.MeetsSeq PySem.MeetsSeq2 PySem.MeetsSeq3

end

section
variable {prog : Program} {w : World} {A : Around} {E : Value → Shared → Prop} {s : Shared}

/-! ### t[a:b], not the whole -/
def sIx (n d : Nat) : Option Int → Nat
  | none => d
  | some v => if v < 0 then (v + (n : Int)).toNat else min v.toNat n
theorem sIx_none (n d : Nat) : sIx n d none = d := rfl
theorem sIx_nat (n d k : Nat) : sIx n d (some (k : Int)) = min k n := by
  show (if (k : Int) < 0 then ((k : Int) + (n : Int)).toNat else min (k : Int).toNat n) = min k n
  rw [if_neg (by omega), Int.toNat_natCast]
theorem sIx_le (n d : Nat) (hd : d ≤ n) (o : Option Int) : sIx n d o ≤ n := by
  cases o with
  | none => exact hd
  | some v =>
    show (if v < 0 then (v + (n : Int)).toNat else min v.toNat n) ≤ n
    by_cases hv : v < 0
    · rw [if_pos hv]; omega
    · rw [if_neg hv]; exact Nat.min_le_right _ _
end
end HT

namespace L2
open PySem PySem.Spec PyProof.Rows

/-! ### the parts of a slice -/
abbrev TO := St → Hp → (Option Int → Hp → Prop) → Prop
def PO (X : Cx) (e : Option Expr) (t : TO) : Prop :=
  ∀ (pins : List (Addr × Obj)) (s : Shared) (σ : St) (H : Hp) (Q : Option Int → Hp → Prop), Inv X pins σ H s → t σ H Q →
    wpAny (model X.prog X.w) X.A (evalPart e X.env) (fun u s' => ∃ o H', Inv X pins σ H' s' ∧ IsPart u o ∧ Q o H') X.xe s
def tNoPart : TO := fun _ H Q => Q none H
def tPart (t : TE) : TO := fun σ H Q => t σ H fun x H1 => ∃ i, x = .int i ∧ Q (some i) H1

section
variable {X : Cx} {e : Expr} {te : TE} {lo hi : Option Expr} {tl th : TO} {pos p2 : Pos}

theorem po_none : PO X none tNoPart := by
  intro pins s σ H Q I h
  rw [evalPart_none]
  exact wpAny_pure ⟨none, H, I, .none, h⟩
theorem po_some (h : PE X e te) : PO X (some e) (tPart te) := by
  intro pins s σ H Q I hw
  rw [evalPart_some]
  refine thn (h pins s σ H _ I hw) fun u s1 ⟨x, H1, I1, r1, q1⟩ => ?_
  obtain ⟨i, rfl, q⟩ := q1
  obtain ⟨t, rfl⟩ := r1
  exact ⟨some i, H1, I1, .int i t, q⟩

def SlR (X : Cx) (r : V → Option Int → Option Int → Hp → VK → Prop) : Prop :=
  ∀ (pins : List (Addr × Obj)) (s : Shared) (σ : St) (H : Hp) (x : V) (v vl vu : Value) (lo hi : Option Int) (sl : Addr) (Q : VK), Inv X pins σ H s → RelV x v → s.heap.IsSliceOf sl vl vu .none → IsPart vl lo → IsPart vu hi → r x lo hi H Q →
    ∃ T id, typeLookup (.type T) "__getitem__" = pure (some (.builtin id)) ∧ s.TypeIs v T ∧ wpAny (model X.prog X.w) X.A (getItem v (.ref sl)) (EP X pins σ Q) X.xe s
def tSl (r : V → Option Int → Option Int → Hp → VK → Prop) (te : TE) (tl th : TO) : TE := fun σ H Q => te σ H fun x H1 => tl σ H1 fun l H2 => th σ H2 fun u H3 => r x l u H3 Q
theorem pe_slice {r : V → Option Int → Option Int → Hp → VK → Prop} (hr : SlR X r) (he : PE X e te) (hl : PO X lo tl) (hu : PO X hi th) : PE X (.Subscript e (.Slice lo hi none p2) pos) (tSl r te tl th) := by
  intro pins s σ H Q I h
  refine Subscript_ (thn (he pins s σ H _ I h) fun v s1 ⟨x, H1, I1, r1, q1⟩ => ?_)
  refine wpAny_Slice (thn (hl pins s1 σ H1 _ I1 q1) fun vl s2 ⟨l, H2, I2, pl, q2⟩ => thn (hu pins s2 σ H2 _ I2 q2) fun vu s3 ⟨u, H3, I3, pu, q3⟩ => ?_)
  rw [evalPart_none]
  refine wpAny_pure ?_
  have I4 : Inv X pins σ H3 { s3 with heap := s3.heap.push { cls := .type "slice", data := .fields #[vl, vu, .none] } } := I3.kept (t' := s3.toks) fun b ob q => Heap.get?_push_of_some _ q
  obtain ⟨T, id, hT, ht, hg⟩ := hr pins { s3 with heap := s3.heap.push { cls := .type "slice", data := .fields #[vl, vu, .none] } } σ H3 x v vl vu l u s3.heap.objs.size Q I4 r1 (Heap.IsSliceOf.new ..) pl pu q3
  show wpAny (model X.prog X.w) X.A (subscriptTail e (.Slice lo hi none p2) v (.ref s3.heap.objs.size)) (EP X pins σ Q) X.xe { s3 with heap := s3.heap.push { cls := .type "slice", data := .fields #[vl, vu, .none] } }
  exact tail_any (ops := [.ref s3.heap.objs.size, v]) ht hT hg (by with_unfolding_all rfl)

def cutV (xs : List V) (lo hi : Option Int) : List V := (xs.drop (HT.sIx xs.length 0 lo)).take (HT.sIx xs.length xs.length hi - HT.sIx xs.length 0 lo)
theorem cutV_length (xs : List V) (lo hi : Option Int) : (cutV xs lo hi).length ≤ xs.length := by
  unfold cutV
  rw [List.length_take, List.length_drop]
  omega
/-! ### t < u, t + u -/
end
end L2

namespace L2
open PySem PySem.Spec PyProof.Rows

/-! ### places -/
def ixN (n : Nat) (i : Int) : Option Nat := if 0 ≤ i then (if i < n then some i.toNat else none) else if -(n : Int) ≤ i then some (i + n).toNat else none
def atI {α : Type} (xs : List α) (i : Int) : Option α := (ixN xs.length i).bind fun j => xs[j]?
theorem ixN_seq {n : Nat} {i : Int} {j : Nat} (h : ixN n i = some j) : seqIndex? i n = some j ∧ j < n ∧ -(n : Int) ≤ i ∧ i < n := by
  unfold ixN at h
  by_cases h0 : 0 ≤ i
  · rw [if_pos h0] at h
    by_cases h1 : i < n
    · rw [if_pos h1] at h
      have e : i.toNat = j := Option.some.inj h
      exact ⟨by rw [seqIndex_of h0 h1, e], by omega, by omega, h1⟩
    · rw [if_neg h1] at h; cases h
  · rw [if_neg h0] at h
    by_cases h1 : -(n : Int) ≤ i
    · rw [if_pos h1] at h
      have e : (i + n).toNat = j := Option.some.inj h
      exact ⟨by rw [seqIndex_neg (by omega) h1, e], by omega, h1, by omega⟩
    · rw [if_neg h1] at h; cases h
theorem atI_get {α : Type} {xs : List α} {i : Int} {v : α} (h : atI xs i = some v) : ∃ j, seqIndex? i xs.length = some j ∧ xs[j]? = some v ∧ j < xs.length ∧ -(xs.length : Int) ≤ i ∧ i < xs.length := by
  unfold atI at h
  cases e : ixN xs.length i with
  | none => rw [e] at h; cases h
  | some j =>
    rw [e] at h
    obtain ⟨h1, h2, h3, h4⟩ := ixN_seq e
    exact ⟨j, h1, h, h2, h3, h4⟩
theorem atI_nat {α : Type} {xs : List α} {j : Nat} {v : α} (h : xs[j]? = some v) : atI xs (j : Int) = some v := by
  have hj : j < xs.length := (List.getElem?_eq_some_iff.mp h).1
  have e : ixN xs.length (j : Int) = some j := by
    unfold ixN
    rw [if_pos (by omega), if_pos (by omega)]; simp
  unfold atI; rw [e]; exact h
/-! ### what may be subscripted -/
def PlainIx (b : Expr) : Prop := ∀ o i, subscripted b false o i = operate [o, i] (getItem o i)
def IxR (X : Cx) (r : R2) : Prop :=
  ∀ (value slice : Expr) (pins : List (Addr × Obj)) (s : Shared) (σ : St) (H : Hp) (x y : V) (v u : Value) (Q : VK), Inv X pins σ H s → RelV x v → RelV y u → r x y H Q →
    subscripted slice false v u = operate [v, u] (getItem v u) → wpAny (model X.prog X.w) X.A (subscriptTail value slice v u) (EP X pins σ Q) X.xe s
def MtR (X : Cx) (id : String) (r : V → List V → Hp → VK → Prop) : Prop :=
  ∀ (pins : List (Addr × Obj)) (s : Shared) (σ : St) (H : Hp) (x : V) (xs : List V) (v : Value) (us : List Value) (Q : VK), Inv X pins σ H s → RelV x v → Vals xs us → r x xs H Q →
    wpAny (model X.prog X.w) X.A (call (.builtin id) (v :: us)) (EP X pins σ Q) X.xe s
section
variable {X : Cx} {a b : Expr} {ta tb : TE} {pos : Pos}
theorem pe_ix {r : R2} (hr : IxR X r) (ha : PE X a ta) (hb : PE X b tb) (hs : PlainIx b) : PE X (.Subscript a b pos) (tOp r ta tb) := by
  intro pins s σ H Q I h
  exact Subscript_ (binT ha hb I h fun v u s2 x y H2 I2 rx ry q => hr a b pins s2 σ H2 x y v u Q I2 rx ry q (hs _ _))

def rIxL (K : PySem.W.Frag) : R2 := fun x y H Q => ∃ p xs i v, x = .ref p ∧ y = .int i ∧ SqL K H p xs ∧ atI xs i = some v ∧ Q v H
def rIxT (K : PySem.W.Frag) : R2 := fun x y H Q => ∃ p xs i v, x = .ref p ∧ y = .int i ∧ SqT K H p xs ∧ atI xs i = some v ∧ Q v H
def rIxS : R2 := fun x y H Q => ∃ z i c, x = .str z ∧ y = .int i ∧ z.length ≤ sizeLine ∧ atI z.cps.toList i = some c ∧ Q (.str ⟨#[c]⟩) H
theorem ix_list : IxR X (rIxL X.K) := by
  intro value slice pins s σ H x y v u Q I rx ry h hs
  obtain ⟨p, xs, i, z, rfl, rfl, hq, he, q⟩ := h
  cases rx
  obtain ⟨t, rfl⟩ := ry
  obtain ⟨its, r, pl, hz⟩ := I.list hq
  obtain ⟨j, h1, h2, h3, h4, h5⟩ := atI_get he
  obtain ⟨w, ew, rw'⟩ := r.get h2
  have hl := r.length
  have hn := line63
  have fin : EP X pins σ Q w s := ⟨z, H, I, rw', q⟩
  by_cases h0 : 0 ≤ i
  · have hj : i.toNat = j := by
      rw [seqIndex_of h0 h5] at h1
      exact Option.some.inj h1
    exact item_listR pl.isList h0 (by omega) (by rw [hj]; simpa using ew) fin hs
  · have hj : (i + (its.toArray.size : Int)).toNat = j := by
      rw [seqIndex_neg (by omega) h4] at h1
      rw [List.size_toArray, ← hl]
      exact Option.some.inj h1
    exact subscriptTail_builtinR (x := w) pl.isList.typeIs slot_list_getitem.lookup
      (wpAny_getItem_list_neg (Q := fun r s' => r = w ∧ EP X pins σ Q r s') pl.isList (by omega) (by rw [List.size_toArray] <;> omega) (by omega) (by rw [hj]; simpa using ew) ⟨rfl, fin⟩) hs
theorem ix_tup : IxR X (rIxT X.K) := by
  intro value slice pins s σ H x y v u Q I rx ry h hs
  obtain ⟨p, xs, i, z, rfl, rfl, hq, he, q⟩ := h
  cases rx
  obtain ⟨t, rfl⟩ := ry
  obtain ⟨its, r, pl, hz⟩ := I.tuple hq
  obtain ⟨j, h1, h2, h3, h4, h5⟩ := atI_get he
  obtain ⟨w, ew, rw'⟩ := r.get h2
  have hl := r.length
  have hn := line63
  have fin : EP X pins σ Q w s := ⟨z, H, I, rw', q⟩
  exact subscriptTail_builtinR (x := w) pl.typeIs slot_tuple_getitem.lookup
    (getItem_tuple (j := j) (Q := fun r s' => r = w ∧ EP X pins σ Q r s') pl (by omega) (by omega) (by rw [List.size_toArray, ← hl]; exact h1) (by simpa using ew) ⟨rfl, fin⟩) hs
theorem ix_str : IxR X rIxS := by
  intro value slice pins s σ H x y v u Q I rx ry h hs
  obtain ⟨z, i, c, rfl, rfl, hz, he, q⟩ := h
  obtain ⟨t, rfl⟩ := rx
  obtain ⟨t', rfl⟩ := ry
  obtain ⟨j, h1, h2, h3, h4, h5⟩ := atI_get he
  have hl : z.cps.toList.length = z.length := by simp [Str.length]
  rw [hl] at h1 h4 h5
  have hn := line63
  exact tail_any (typeIs_str s z t) slot_str_getitem.lookup (getItem_str (c := c) (by
    have e1 : decide (i < -(2 ^ 63 : Int)) = false := decide_eq_false (by omega)
    have e2 : decide (i ≥ 2 ^ 63) = false := decide_eq_false (by omega)
    rw [e1, e2, Bool.or_false]) (by rw [h1]; simpa using h2) ⟨.str ⟨#[c]⟩, H, I.tok _, ⟨_, rfl⟩, q⟩) hs
/-! ### xs[i] = v, any sign -/
/-! ### slices -/
theorem slice_bounds (lo hi : Option Int) (n : Nat) : (sliceBounds lo hi none n).1 = ((HT.sIx n 0 lo : Nat) : Int) ∧ (sliceBounds lo hi none n).2.1 = ((HT.sIx n n hi : Nat) : Int) ∧ (sliceBounds lo hi none n).2.2 = 1 := by
  refine ⟨?_, ?_, rfl⟩
  · cases lo with
    | none => simp [sliceBounds, HT.sIx]
    | some i =>
      simp only [sliceBounds, HT.sIx, Option.getD_none, show (1 : Int) > 0 by decide, if_true]
      by_cases h : i < 0
      · simp only [h, if_true] <;> omega
      · simp only [h, if_false] <;> omega
  · cases hi with
    | none => simp [sliceBounds, HT.sIx]
    | some i =>
      simp only [sliceBounds, HT.sIx, Option.getD_none, show (1 : Int) > 0 by decide, if_true]
      by_cases h : i < 0
      · simp only [h, if_true] <;> omega
      · simp only [h, if_false] <;> omega
theorem slicePick_cut (its : List Value) (lo hi : Option Int) : slicePick its.toArray lo hi none = ((its.drop (HT.sIx its.length 0 lo)).take (HT.sIx its.length its.length hi - HT.sIx its.length 0 lo)).toArray := by
  obtain ⟨h1, h2, h3⟩ := slice_bounds lo hi its.toArray.size
  unfold slicePick
  rw [h1, h2, h3]
  simp only [sliceRange_one, pick_run, List.size_toArray] <;> rfl
def rSlL (K : PySem.W.Frag) : V → Option Int → Option Int → Hp → VK → Prop := fun x lo hi H Q => ∃ a xs, x = .ref a ∧ SqL K H a xs ∧ ∀ p, H p = none → Q (.ref p) (upd H p (.lst (cutV xs lo hi)))
theorem sl_list : SlR X (rSlL X.K) := by
  intro pins s σ H x v vl vu lo hi sl Q I rx hs pl pu h
  obtain ⟨a, xs, rfl, hx, q⟩ := h
  cases rx
  obtain ⟨its, r, ht, hz⟩ := I.list hx
  have hlen := r.length
  refine ⟨"list", _, slot_list_getitem.lookup, ht.isList.typeIs, ?_⟩
  refine wpAny_getItem_list_slice ht.isList hs pl pu .none (by simp) ?_ (by rw [List.size_toArray] <;> omega)
  rw [slicePick_cut, ← hlen]
  refine ⟨.ref s.heap.objs.size, _, I.laid (t' := s.toks) (o := .lst (cutV xs lo hi)) (fun b ob q => Heap.get?_push_of_some _ q) (Nat.le_refl _) ?_, rfl, q _ (I.hok.fresh (Nat.le_refl _))⟩
  exact ⟨Nat.le_trans (cutV_length xs lo hi) hz, _, 0, (r.drop (HT.sIx xs.length 0 lo)).take (HT.sIx xs.length xs.length hi - HT.sIx xs.length 0 lo), Heap.get?_push_size _ rfl⟩

/-! ### in, not in: flat items -/
def flatV : V → Bool
  | .non => true
  | .bl _ => true
  | .int _ => true
  | .str _ => true
  | _ => false
def eqV : V → V → Bool
  | .non, .non => true
  | .bl a, .bl b => a == b
  | .bl a, .int b => (if a then 1 else 0) == b
  | .int a, .bl b => a == (if b then 1 else 0)
  | .int a, .int b => a == b
  | .str a, .str b => a == b
  | _, _ => false
theorem eqAt_V {A : Around} {s : Shared} {y x : V} {u v : Value} (ry : RelV y u) (rx : RelV x v) (fy : flatV y = true) (fx : flatV x = true) : SeqAt.EqAt A s u v (eqV y x) := by
  cases y with
  | non =>
    cases ry
    cases x with
    | non => cases rx; exact SeqAt.EqAt.same _
    | bl b => cases rx; exact SeqAt.EqAt.none_bool b
    | int b => obtain ⟨t, rfl⟩ := rx; exact SeqAt.EqAt.none_int b t
    | str b => obtain ⟨t, rfl⟩ := rx; exact SeqAt.EqAt.none_str b t
    | _ => exact absurd (show false = true from fx) Bool.false_ne_true
  | bl a =>
    cases ry
    cases x with
    | non => cases rx; exact SeqAt.EqAt.bool_none a
    | bl b => cases rx; exact SeqAt.EqAt.bool_bool a b
    | int b => obtain ⟨t, rfl⟩ := rx; exact SeqAt.EqAt.bool_int a b t
    | str b => obtain ⟨t, rfl⟩ := rx; exact SeqAt.EqAt.bool_str a b t
    | _ => exact absurd (show false = true from fx) Bool.false_ne_true
  | int a =>
    obtain ⟨t', rfl⟩ := ry
    cases x with
    | non => cases rx; exact SeqAt.EqAt.int_none a t'
    | bl b => cases rx; exact SeqAt.EqAt.int_bool a t' b
    | int b => obtain ⟨t, rfl⟩ := rx; exact SeqAt.EqAt.int_int a t' b t
    | str b => obtain ⟨t, rfl⟩ := rx; exact SeqAt.EqAt.int_str a t' b t
    | _ => exact absurd (show false = true from fx) Bool.false_ne_true
  | str a =>
    obtain ⟨t', rfl⟩ := ry
    cases x with
    | non => cases rx; exact SeqAt.EqAt.str_none a t'
    | bl b => cases rx; exact SeqAt.EqAt.str_bool a t' b
    | int b => obtain ⟨t, rfl⟩ := rx; exact SeqAt.EqAt.str_int a t' b t
    | str b => obtain ⟨t, rfl⟩ := rx; exact SeqAt.EqAt.str_str a t' b t
    | _ => exact absurd (show false = true from fx) Bool.false_ne_true
  | _ => exact absurd (show false = true from fy) Bool.false_ne_true
def eqU (x : V) (u : Value) : Bool := match u with
  | .none => eqV .non x
  | .bool b => eqV (.bl b) x
  | .int i _ => eqV (.int i) x
  | .str z _ => eqV (.str z) x
  | _ => false
theorem eqU_of {x y : V} {u : Value} (r : RelV y u) (f : flatV y = true) : eqU x u = eqV y x := by
  cases y with
  | non => cases r; rfl
  | bl b => cases r; rfl
  | int i => obtain ⟨t, rfl⟩ := r; rfl
  | str z => obtain ⟨t, rfl⟩ := r; rfl
  | _ => exact absurd (show false = true from f) Bool.false_ne_true
theorem any_eqU {x : V} : ∀ {xs : List V} {us : List Value}, Vals xs us → xs.all flatV = true → us.any (eqU x) = xs.any fun y => eqV y x
  | _, _, .nil, _ => rfl
  | y :: xs, u :: us, .cons r t, f => by
    rw [List.all_cons, Bool.and_eq_true] at f
    rw [List.any_cons, List.any_cons, eqU_of r f.1, any_eqU t f.2]
theorem mem_eqAt {A : Around} {s : Shared} {x : V} {v : Value} (rx : RelV x v) (fx : flatV x = true) : ∀ {xs : List V} {us : List Value}, Vals xs us → xs.all flatV = true → ∀ u ∈ us, SeqAt.EqAt A s u v (eqU x u)
  | _, _, .nil, _ => fun u hu => by cases hu
  | y :: xs, u :: us, .cons r t, f => fun u' hu => by
    rw [List.all_cons, Bool.and_eq_true] at f
    rcases List.mem_cons.mp hu with rfl | hu
    · rw [eqU_of r f.1]; exact eqAt_V r rx f.1 fx
    · exact mem_eqAt rx fx t f.2 u' hu
def inV (x : V) (xs : List V) : Bool := xs.any fun y => eqV y x
def rIn (K : PySem.W.Frag) (neg : Bool) : R2 := fun x y H Q => ∃ p xs, y = .ref p ∧ (SqL K H p xs ∨ SqT K H p xs) ∧ flatV x = true ∧ xs.all flatV = true ∧ Q (.bl (if neg then !inV x xs else inV x xs)) H
theorem op_in_seq : OpR X (compareOp .In) (rIn X.K false) := by
  intro pins s σ H x y v u Q I rx ry h
  obtain ⟨p, xs, rfl, hq, fx, fs, q⟩ := h
  cases ry
  rcases hq with hq | hq
  · obtain ⟨its, r, pl, hz⟩ := I.list hq
    refine SeqAt.in_listAt (eqU x) pl.isList (fun w hw => mem_eqAt rx fx r fs w (by simpa using hw)) ⟨.bl _, H, I, rfl, ?_⟩
    rw [show its.toArray.any (eqU x) = its.any (eqU x) by simp, any_eqU r fs]
    exact q
  · obtain ⟨its, r, pl, hz⟩ := I.tuple hq
    refine SeqAt.in_tupleAt (eqU x) pl (fun w hw => mem_eqAt rx fx r fs w (by simpa using hw)) ⟨.bl _, H, I, rfl, ?_⟩
    rw [show its.toArray.any (eqU x) = its.any (eqU x) by simp, any_eqU r fs]
    exact q
/-! ### len, list(x), tuple(x) of any list or tuple that is read -/
theorem call_len_str : CallR X (.builtin "len") (fun xs H Q => ∃ z, xs = [.str z] ∧ z.length ≤ sizeLine ∧ Q (.int z.length) H) := by
  intro pins s σ H xs us Q I r h
  obtain ⟨z, rfl, hz, q⟩ := h
  obtain ⟨u, rfl, t, rfl⟩ := vals1 r
  have hn := line63
  exact len_str (by omega) ⟨.int z.length, H, I.tok _, ⟨_, rfl⟩, q⟩
/-! ### the call of a builtin's method: o.m(..) -/
def tyV (K : PySem.W.Frag) (T : String) (x : V) (H : Hp) : Prop := match x with
  | .str _ => T = "str"
  | .int _ => T = "int"
  | .ref p => (T = "list" ∧ ∃ xs, SqL K H p xs) ∨ (T = "tuple" ∧ ∃ o, K.lookup p = some o ∧ o.cls = .type "tuple" ∧ o.dict = none) ∨
      (T = "dict" ∧ ((∃ kvs, H p = some (.dK kvs)) ∨ ∃ kvs, H p = some (.dT kvs))) ∨ (T = "set" ∧ ∃ S n, H p = some (.set S n))
  | _ => False
theorem tyV_is {pins : List (Addr × Obj)} {σ : St} {H : Hp} {s : Shared} {T : String} {x : V} {v : Value} (I : Inv X pins σ H s) (r : RelV x v) (ty : tyV X.K T x H) :
    s.TypeIs v T ∧ ∀ a, v = .ref a → ∃ ob, s.heap.get? a = some ob ∧ ob.dict = none := by
  cases x with
  | str z =>
    obtain ⟨t, rfl⟩ := r
    cases (show T = "str" from ty)
    exact ⟨typeIs_str s z t, fun _ e => nomatch e⟩
  | int i =>
    obtain ⟨t, rfl⟩ := r
    cases (show T = "int" from ty)
    exact ⟨typeIs_int s i t, fun _ e => nomatch e⟩
  | ref p =>
    cases r
    rcases ty with ⟨rfl, xs, hq⟩ | ⟨rfl, o, hk, hc, hd⟩ | ⟨rfl, hk⟩ | ⟨rfl, S, n, hk⟩
    · obtain ⟨its, _, pl, _⟩ := I.list hq
      refine ⟨pl.isList.typeIs, fun a e => ?_⟩
      cases e
      obtain ⟨o, n, e, c, hd, _⟩ := pl
      exact ⟨o, e, hd⟩
    · refine ⟨⟨o, I.kIn p o hk, hc⟩, fun a e => ?_⟩
      cases e
      exact ⟨o, I.kIn _ o hk, hd⟩
    · have z : ∃ o, s.heap.get? p = some o ∧ o.ExactDict := by
        rcases hk with ⟨kvs, hk⟩ | ⟨kvs, hk⟩
        · obtain ⟨_, _, _, _, o, _, _, e, ex, _⟩ := I.hok p _ hk
          exact ⟨o, e, ex⟩
        · obtain ⟨_, _, _, _, o, _, _, e, ex, _⟩ := I.hok p _ hk
          exact ⟨o, e, ex⟩
      obtain ⟨o, e, ex⟩ := z
      refine ⟨⟨o, e, ex.1⟩, fun a e2 => ?_⟩
      cases e2
      exact ⟨o, e, ex.2.1⟩
    · obtain ⟨o, _, _, _, e, ex, _⟩ := I.hok p _ hk
      refine ⟨⟨o, e, ex.1⟩, fun a e2 => ?_⟩
      cases e2
      exact ⟨o, e, ex.2.1⟩
  | _ => exact False.elim ty
def tBM (K : PySem.W.Frag) (T : String) (r : V → List V → Hp → VK → Prop) (to : TE) (t : TA) : TE := fun σ H Q => to σ H fun x H1 => tyV K T x H1 ∧ t σ H1 fun xs H2 => r x xs H2 Q
variable {o e : Expr} {es : List Expr} {to : TE} {t : TA} {name : Str} {apos cpos : Pos} {T id : String} {r : V → List V → Hp → VK → Prop}
theorem pe_bm (pa : PlainAttrs T) (slot : Slot T name id) (hty : typeOf (.builtin id) = pure (.type "method_descriptor")) (hm : MtR X id r) (ho : PE X o to) (ha : PA X (e :: es) t)
    (hbase : attributeBase o name X.env (eval o X.env) = eval o X.env := by rfl)
    (hfew : ((backTo cpos (starEach (e :: es) X.env)).all (fun x => !x.1) && (backToKw cpos (keywordEach [] X.env)).all (fun x => x.1.isSome)
      && decide ((e :: es).length + ([] : List Keyword).length + (if ([] : List Keyword).isEmpty then 0 else 1) < 30)) = true := by rfl)
    (hline : (apos.endLine == cpos.line) = true := by rfl) (hs : starEach (e :: es) X.env = (false, eval e X.env) :: starEach es X.env := by rfl) (hplain : (backTo cpos (starEach es X.env)).any (·.1) = false := by rfl) :
    PE X (.Call (.Attribute o name apos) (e :: es) [] cpos) (tBM X.K T r to t) := by
  intro pins s σ H Q I h
  refine wpAny_Call_method_late hbase hfew hline rfl (thn (ho pins s σ H _ I h) fun v s1 ⟨x, H1, I1, r1, ty, q1⟩ => ?_)
  obtain ⟨h1, h2⟩ := tyV_is I1 r1 ty
  refine ⟨T, id, pa, slot, hty, h1, h2, ?_⟩
  have hA := ha cpos pins s1 σ H1 _ I1 q1
  rw [hs] at hA ⊢
  refine Calls.callWith_builtin (by show (false || (backTo cpos (starEach es X.env)).any (·.1)) = false; rw [hplain] <;> rfl) (Calls.evalArgs_plain ?_)
  exact thn hA fun us s2 ⟨vs, H2, I2, r2, q2⟩ => hm pins s2 σ H2 x vs v us Q I2 r1 r2 q2
/- xs.append(e), list.index on a module's tuple .. are MtR facts of 06m -/
end
end L2

namespace L2
open PySem PySem.Spec PyProof.Rows

def MtM (X : Cx) (id : String) (r : V → List V → Hp → VK → Prop) : Prop :=
  ∀ (pins : List (Addr × Obj)) (s : Shared) (σ : St) (H : Hp) (x : V) (xs : List V) (v : Value) (us : List Value) (Q : VK), Inv X pins σ H s → RelV x v → Vals xs us → r x xs H Q →
    wpAny (model X.prog X.w) X.A (call (.builtin id) (v :: us)) (EP X pins σ Q) X.xe s

/-! ### lists of values -/
theorem Vals.one : ∀ {x : V} {us : List Value}, Vals [x] us → ∃ u, us = [u] ∧ RelV x u
  | _, _, .cons r .nil => ⟨_, rfl, r⟩
theorem Vals.two : ∀ {x y : V} {us : List Value}, Vals [x, y] us → ∃ u v, us = [u, v] ∧ RelV x u ∧ RelV y v
  | _, _, _, .cons r (.cons q .nil) => ⟨_, _, rfl, r, q⟩
section
variable {X : Cx} {pins : List (Addr × Obj)} {σ : St} {H : Hp} {s : Shared} {l b : Addr} {xs ys zs : List V}

/-! ### the two steps: a tracked list is rewritten, a new list is laid -/
theorem Inv.lset {its its' : List Value} {n : Nat} {f : Array Value → Array Value} {t' : Nat} (I : Inv X pins σ H s) (hH : H l = some (.lst xs))
    (e : s.heap.get? l = some { cls := .type "list", data := .seq its.toArray n }) (hf : f its.toArray = its'.toArray) (hv : Vals ys its') (hz : ys.length ≤ sizeLine) :
    Inv X pins σ (upd H l (.lst ys)) { s with heap := s.heap.update l (Obj.mapSeq f), toks := t' } := by
  have q := PySem.IsL.update e f
  rw [hf] at q
  refine I.write (x := l) (e := l) (by rw [hH]; exact trivial) (.inl rfl) (fun b' u hb hu => (Heap.get?_update_other s.heap (Obj.mapSeq f) (Ne.symm hb)).trans hu) ⟨_, q⟩ ?_
  exact ⟨hz, its', _, hv, q⟩
theorem Inv.lnew {its : List Value} {t' : Nat} (I : Inv X pins σ H s) (hv : Vals ys its) (hz : ys.length ≤ sizeLine) :
    Inv X pins σ (upd H s.heap.objs.size (.lst ys)) { s with heap := s.heap.push { cls := .type "list", data := .seq its.toArray }, toks := t' } :=
  I.laid (fun _ _ q => Heap.get?_push_of_some _ q) (Nat.le_refl _) ⟨hz, its, 0, hv, Heap.get?_push_size _ rfl⟩
theorem Inv.lstM (I : Inv X pins σ H s) (hH : H l = some (.lst xs)) : xs.length ≤ sizeLine ∧ ∃ (its : List Value) (n : Nat), Vals xs its ∧ xs.length = its.length ∧ s.heap.get? l = some { cls := .type "list", data := .seq its.toArray n } := by
  obtain ⟨z, its, n, r, e⟩ := I.hok l _ hH
  exact ⟨z, its, n, r, r.length, e⟩

end

section
variable {X : Cx}

/-! ### methods -/
def rAppend : V → List V → Hp → VK → Prop := fun x vs H Q => ∃ l xs y, x = .ref l ∧ vs = [y] ∧ H l = some (.lst xs) ∧ xs.length < sizeLine ∧ Q .non (upd H l (.lst (xs ++ [y])))
theorem mt_append : MtM X "list.append" rAppend := by
  intro pins s σ H x vs v us Q I rx rv h
  obtain ⟨l, xs, y, rfl, rfl, hH, hz, q⟩ := h
  cases rx
  obtain ⟨u, rfl, ru⟩ := rv.one
  obtain ⟨z, its, n, r, hl, e⟩ := I.lstM hH
  refine call_meets F.slot_list_append ⟨_, e, rfl⟩ F.entry_list_append (F.args_list_append_2 _ _) (PySem.list_append l its.toArray n u (by rw [List.size_toArray]; omega)) ⟨e, ?_⟩
  refine ⟨.non, _, I.lset (its' := its ++ [u]) hH e (by simp) (r.append (.cons ru .nil)) ?_, rfl, q⟩
  rw [List.length_append, List.length_singleton]
  omega

/-! ### list + list, list += list, list * int -/
/-! ### del xs[i] -/
end

/-! ### xs[a:b] = ys -/
section
variable {prog : Program} {w : World} {A : Around} {E : Value → Shared → Prop} {s : Shared}
set_option maxRecDepth 100000 in
end

section
variable {X : Cx}
end
end L2

namespace Att
open PySem PySem.W PySem.Calls PyProof.Rows

/-! ### the script -/
theorem ints_of_wellAll {P : Params} {h : Heap} : ∀ (ns : List Int) (vs : List Value), WellAll P h vs (ns.map WData.int) → IntsAre vs ns := by
  intro ns
  induction ns with
  | nil =>
    intro vs w
    rw [List.map_nil] at w
    cases w
    exact .nil
  | cons n ns ih =>
    intro vs w
    rw [List.map_cons] at w
    cases w with
    | cons a b =>
      cases a
      exact .cons _ _ (ih _ b)

theorem script_of {l : OpenLaw} {n : Nat} (hn : l.most = some n) {P : Params} {h : Heap} {args : List WData} {vals : List Value}
    (hpre : l.row.toRowW.claim.pre args = true) (hwl : WellAll P h vals args) :
    ∃ a vs ns, vals = [Value.ref a] ∧ args = [WData.list (ns.map WData.int)] ∧ h.get? a = some { cls := .type "list", data := .seq vs.toArray } ∧ IntsAre vs ns ∧ ns.length ≤ n := by
  have hsh : WShape.hasAll [] args [.list .int] = true := (pre_splitW hpre).1
  have hc : l.pre.holds [] { args := args } = true := (pre_splitW hpre).2
  obtain ⟨d, r, rfl, h1, h2⟩ := hasAllW_cons hsh
  obtain rfl := hasAllW_nil h2
  obtain ⟨xs, rfl, h3⟩ := hasW_list h1
  obtain ⟨ns, rfl⟩ := items_int h3
  have hlen : ns.length ≤ n := by
    unfold OpenLaw.pre at hc
    have h4 : (WTm.not (.lt (.lit (.int (n : Int))) (.len (.arg 0)))).holds [] { args := [.list (ns.map .int)] } = true := by
      have h4 := (holds_andW hc).1
      rw [hn] at h4
      exact h4
    have h5 := condW_of h4 (w_not (w_lt w_lit (w_len_list (w_arg rfl))))
    rw [List.length_map] at h5
    refine Nat.le_of_not_lt fun q => ?_
    have q' : (n : Int) < ((ns.length : Nat) : Int) := by omega
    first
      | (rw [decide_eq_true q'] at h5; exact absurd h5 (by decide))
      | (simp at h5; omega)
  cases hwl with
  | cons w1 w2 =>
    cases w2
    cases w1 with
    | list ho hall => exact ⟨_, _, ns, rfl, rfl, ho, ints_of_wellAll ns _ hall, hlen⟩

theorem post_true (l : OpenLaw) (args : List WData) : l.row.toRowW.claim.post args (.bool true) args = true :=
  postW_of (r := l.row.toRowW) (X := (true == true))
    (show WShape.has [] (.bool true) .bool = true by first | rfl | decide | simp [WShape.has, WShape.arms, WShape.armsAll])
    (show (WTm.eq .res (.lit (.bool true))).value [] { args := args, res := some (.bool true), after := args } = some (.bool (true == true)) from w_eq_bool (w_res rfl) w_lit) rfl

/-! ### the attachment: holds_open's last premise (the goal 'hc' behind k_head) from a wpAny of the law's body -/
theorem attach_call {l : OpenLaw} {n : Nat} {q : Program} {loose : List Str} {XP : (Str → Option Value) → Heap → Prop} {YP : World → Heap → Prop} {d : DefRec}
    (hn : l.most = some n) (hdf : d.params.defaults = [])
    (call : ∀ (w : World) (s₀ s₁ : Shared) (mg mb : Str → Option Value) (fa : Addr) (o : Obj) (pm cd doc : Value) (a : Addr) (vs : List Value) (ns : List Int),
      Ground q loose [] XP w s₀ mg mb s₁.heap → YP w s₁.heap →
      s₁.heap.get? fa = some o → o.data = .func (docDef d.name d.params d.body d.scope pm cd doc) → s₁.heap.CodeRec cd d.name → mg d.name = some (.ref fa) →
      s₁.heap.get? a = some { cls := .type "list", data := .seq vs.toArray } → IntsAre vs ns → ns.length ≤ n → s₁.gens = #[] →
      codeAny (model l.prog w) callerA (.call (.ref fa) ⟨[.ref a], []⟩) (fun r s' => r = .ok (.ret (.bool true)) ∧ OldK s₁.heap s'.heap ∧ s'.os = s₁.os ∧ AllBare s'.gens) s₁) :
    WalkO q loose XP YP l.row.toRowW d [] (fun f vs => PySem.call f vs) := by
  intro w s₀ s₁ mg mb G Y fa o pm cd doc dV kV ho hd hcd hD hmg hg args vals as hpre hlay hrd hwl hlo
  obtain rfl : dV = .none := Dflts.none hD hdf
  obtain rfl : kV = .none := Dflts.noKw hD
  obtain ⟨a, vs, ns, rfl, rfl, hobj, hints, hlen⟩ := script_of hn hpre hwl
  refine enter_call (codeAny_mono (call w s₀ s₁ mg mb fa o pm cd doc a vs ns G Y ho (fd_plain hd) hcd hmg hobj hints hlen hg) fun r s' hq => ?_)
  obtain ⟨rfl, h2, h3, h4⟩ := hq
  exact ⟨.inl ⟨.bool true, .bool true, [], rfl, fun _ => rfl, .bool true, post_true l _, fun _ => ⟨List.Pairwise.nil, fun _ hm => (nomatch hm)⟩⟩, h2, h3, h4⟩

/-! ### rules over ANY heap (no ledger) from facts about the written part K: the library's own take a ledger (News) for what they write -/
section
variable {prog : Program} {w : World} {A : Around} {E : Value → Shared → Prop} {s : Shared} {K : Frag}

/-! the whole heap as the ledger: makes every rule that writes through a ledger a rule over any heap -/
end
end Att

namespace L2
open PySem PySem.Spec PyProof.Rows

theorem vals_ints : ∀ {vs : List Value} {ns : List Int}, IntsAre vs ns → Vals (ns.map V.int) vs
  | _, _, .nil => .nil
  | _, _, .cons n t h => .cons ⟨t, rfl⟩ (vals_ints h)

def Only (H : Hp) : Prop := ∀ b, H b = none ∨ ∃ o xs, H b = some (.frz o (.lst xs))

theorem law_call {P : Program} {w : World} {K : PySem.W.Frag} {mg mb : Str → Option Value} {CX : CXT} {k : Nat} {fa a : Addr} {fd : FuncData} {x : Str} {sp : Sp} {s₁ : Shared} {vs : List Value} {ns : List Int}
    (KX : K.In s₁.heap) (hns : s₁.heap.Ns mainGlobals mg) (hb : s₁.heap.Ns builtinsNs mb) (hbb : ∀ x : Str, x ≠ "__name__" → mb x = bootBuiltins x) (hlim : s₁.heap.NoLimit) (hg : s₁.gens = #[])
    (ha : s₁.heap.get? a = some { cls := .type "list", data := .seq vs.toArray }) (hi : IntsAre vs ns) (hl : ns.length ≤ sizeLine) (hr : Room k callerA)
    (F : ∀ base : Heap, K.In base → base.Ns mainGlobals mg → FnOk P w K mg base CX k fa fd [x] sp) (hbind : ∀ (s : Shared) (u : Value), BindsTo s fd ⟨[u], []⟩ [(x, u)])
    (hsp : ∀ H : Hp, Only H → SqL K H a (ns.map V.int) → sp [.ref a] H (fun v _ => v = .bl true) fun _ _ _ => False)
    (hCX : ∀ H e s', CX [] H s₁ (fun _ _ _ => False) e s' → False) :
    codeAny (model P w) callerA (.call (.ref fa) ⟨[.ref a], []⟩) (fun r s' => r = .ok (.ret (.bool true)) ∧ OldK s₁.heap s'.heap ∧ s'.os = s₁.os ∧ AllBare s'.gens) s₁ := by
  have rv := vals_ints hi
  have lenV := hi.length
  -- from an abstract heap in which nothing but the script may be tracked
  have core : ∀ H : Hp, Only H → SqL K H a (ns.map V.int) → HOk P w H s₁.heap → (∀ b, H b ≠ none → b = a) → (H a ≠ none → K.lookup a = none) →
      codeAny (model P w) callerA (.call (.ref fa) ⟨[.ref a], []⟩) (fun r s' => r = .ok (.ret (.bool true)) ∧ OldK s₁.heap s'.heap ∧ s'.os = s₁.os ∧ AllBare s'.gens) s₁ := by
    intro H hO hS hok hA hK
    have base_of : ∀ {b : Addr} {o : Obj}, s₁.heap.get? b = some o → H b = none → (hidT s₁.heap H).get? b = some o := fun e n => hidT_get e n
    have noA : ∀ {b : Addr} {o : Obj} {es : Array DictEntry} {ep : Nat}, s₁.heap.get? b = some o → o.data = .dict es ep → H b = none := fun {b o es ep} e d => by
      cases q : H b with
      | none => rfl
      | some u =>
        have e' : b = a := hA b (by rw [q]; simp)
        subst e'
        rw [ha] at e; cases e
        have d' : Data.seq vs.toArray _ = Data.dict es ep := d
        cases d'
    have nsK : ∀ {b : Addr} {m : Str → Option Value}, s₁.heap.Ns b m → (hidT s₁.heap H).Ns b m := fun {b m} ⟨o, es, ep, e, d, r⟩ => ⟨o, es, ep, base_of e (noA e d), d, r⟩
    have hKb : K.In (hidT s₁.heap H) := fun b o e => base_of (KX b o e) (by
      cases q : H b with
      | none => rfl
      | some u =>
        have e' : b = a := hA b (by rw [q]; simp)
        subst e'
        rw [hK (by rw [q]; simp)] at e; cases e)
    have hM : Mod K mg (hidT s₁.heap H) := ⟨hKb, nsK hns, ⟨mb, nsK hb, hbb⟩, let ⟨mc, h1, h2⟩ := hlim; ⟨mc, nsK h1, h2⟩⟩
    have e0 : Env0 P w K mg (hidT s₁.heap H) callerA [] s₁ H := ⟨rfl, hM, fun b o e => of_hidT e, Nat.le_of_eq (hidT_size _ _), trivial, fun b hb => absurd (show b ∈ ([] : List Addr) from hb) (by simp), hok, .of_eq hg⟩
    refine codeAny_mono ((F _ hKb (nsK hns)).run callerA [] s₁ H ⟨[.ref a], []⟩ [.ref a] [.ref a] _ _ hr e0 (hbind s₁ (.ref a)) (.cons rfl .nil) (hsp H hO hS)) fun r s' h => ?_
    cases r with
    | error e => exact (hCX H e s' h).elim
    | ok fl =>
      cases fl with
      | next => exact False.elim h
      | brk => exact False.elim h
      | cont => exact False.elim h
      | ret u =>
        obtain ⟨v, H', os, bare, un, hok', r', q⟩ := h
        have q' : v = .bl true := q
        subst q'
        obtain rfl : u = Value.bool true := r'
        refine ⟨rfl, OldK.of_keep fun b o e => ?_, os, bare⟩
        cases q : H b with
        | none => exact un.keep b o e q (by intro z; exact absurd (show b ∈ ([] : List Addr) from z) (by simp)) (by simp)
        | some u =>
          rcases hO b with z | ⟨ob, xs, z⟩
          · rw [q] at z; cases z
          · have z2 := un.frzs b ob _ z
            obtain ⟨e1, _⟩ := hok b _ z
            obtain ⟨e2, _⟩ := hok' b _ z2
            rw [e] at e1; cases e1
            exact e2
  cases hk : K.lookup a with
  | some o =>
    -- the script is one of the module's own objects
    have e := KX a o hk
    rw [ha] at e
    cases e
    refine core (fun _ => none) (fun _ => .inl rfl) (.inr ⟨_, vs.toArray, _, hk, rfl, rfl, rfl, by rw [List.size_toArray, lenV]; exact hl, by simpa using rv⟩) (fun b u z => by have z' : (none : Option HO) = some u := z; cases z') (fun b z => absurd rfl z) fun z => absurd rfl z
  | none =>
    refine core (fun b => if b = a then some (.frz { cls := .type "list", data := .seq vs.toArray } (.lst (ns.map V.int))) else none) (fun b => ?_) (.inl (.inr ⟨{ cls := .type "list", data := .seq vs.toArray }, if_pos rfl⟩)) (fun b u z => ?_) (fun b z => ?_) fun _ => hk
    · by_cases hb : b = a
      · exact .inr ⟨_, _, if_pos hb⟩
      · exact .inl (if_neg hb)
    · by_cases hb : b = a
      · have z' := (if_pos hb).symm.trans z
        cases z'
        subst hb
        exact ⟨ha, by rw [List.length_map]; exact hl, vs, _, rv, ha⟩
      · have z' := (if_neg hb).symm.trans z
        cases z'
    · by_cases hb : b = a
      · exact hb
      · exact absurd (if_neg hb) z
end L2

namespace L2
open PySem PySem.Spec PyProof.Rows

theorem walk_of {l : PySem.W.OpenLaw} {n k : Nat} {q : Program} {loose : List Str} {XP : (Str → Option Value) → Heap → Prop} {YP : World → Heap → Prop} {d : DefRec} {K : Params → PySem.W.Frag} {CX : World → CXT} {sp : World → Sp} {x : Str}
    (hn : l.most = some n) (hn2 : n ≤ sizeLine) (hdf : d.params.defaults = []) (hr : Room k callerA)
    (hY : ∀ (w : World) (h : Heap), YP w h → (K w.params).In h)
    (F : ∀ (w : World) (mg : Str → Option Value) (fa : Addr) (h : Heap), (K w.params).In h → h.Ns mainGlobals mg → mg d.name = some (.ref fa) →
      ∃ fd : FuncData, (∀ (s : Shared) (u : Value), BindsTo s fd ⟨[u], []⟩ [(x, u)]) ∧
        ∀ base : Heap, (K w.params).In base → base.Ns mainGlobals mg → FnOk l.prog w (K w.params) mg base (CX w) k fa fd [x] (sp w))
    (hsp : ∀ (w : World) (H : Hp) (a : Addr) (ns : List Int), ns.length ≤ n → Only H → SqL (K w.params) H a (ns.map V.int) → sp w [.ref a] H (fun v _ => v = .bl true) fun _ _ _ => False)
    (hCX : ∀ (w : World) (H : Hp) (s : Shared) (e : Value) (s' : Shared), CX w [] H s (fun _ _ _ => False) e s' → False) :
    PySem.W.WalkO q loose XP YP l.row.toRowW d [] (fun f vs => PySem.call f vs) := by
  refine Att.attach_call hn hdf fun w s₀ s₁ mg mb fa o pm cd doc a vs ns G Y ho hd hcd hmg hobj hints hlen hg => ?_
  have KX := hY w _ Y
  obtain ⟨fd, hb, hF⟩ := F w mg fa _ KX G.T.g hmg
  exact law_call KX G.T.g G.T.b G.T.builtins G.T.nolimit hg hobj hints (Nat.le_trans hlen hn2) hr hF hb (fun H hO hS => hsp w H a ns hlen hO hS) fun H e s' => hCX w H s₁ e s'
end L2

/- THE LAST THEOREM (shape; LID, My.* are yours):
   My.Adr: a structure of the addresses that your layer names (classes, functions); My.Txt K t: a structure (Prop) of the equations over K;
   My.txt_mk : {K} {implicit addresses ..} (e1 : nsIn K mainGlobals "law" = some (some (.ref f))) (e2 : K.lookup f = some ⟨oc, od, .func (fnOf "law" "law" params body scope dV kV doc pm an cdv ct), sl⟩) (e3 : codeIn K cdv "law" = true) .. : ∃ t, My.Txt K t

set_option maxRecDepth 100000 in
set_option maxHeartbeats 0 in
theorem PySem.Challenge.cw_LID_holds : PySem.Challenge.rw_LID.Holds := by
  w_on; o_law; k_head; (case hw => w_witness2)
  k_fill
  refine L2.walk_of (l := PySem.Challenge.rw_LID) (n := 63) (k := 40) (x := "script") (CX := fun w => ..) (sp := fun _ => My.sp_law) rfl (by decide) rfl ⟨rfl, by decide, by decide⟩ (fun w h Y => PySem.W.kIn_of Y) ?F ?S ?C
  case F =>
    intro w mg fa h KX G hmg
    have T : ∃ t, My.Txt (L2.KOf KX) t := by
      dsimp only [L2.KOf]                          -- K must stand as «<heap const> w.params» for k_is
      refine' My.txt_mk ?e1 ?e2 ?e3 ..
      (case e1 => PySem.W.k_is)                    -- in the order: a name -> its address -> its object -> its parts
      (case e2 => PySem.W.k_is)
      ..
    obtain ⟨t, T⟩ := T
    have e0 := hmg.symm.trans (PySem.W.mg_of KX G T.law)
    cases e0                                       -- fa is the law's own address
    exact ⟨_, fun s u => .of_eq rfl, fun base kb nb => My.law_fn T kb nb⟩     -- if «.of_eq rfl» comes too early: refine' ⟨_, ?b, fun base kb nb => My.law_fn T kb nb⟩; exact fun s u => .of_eq rfl
  case S => exact fun w H a ns hl hO hS => ..
  case C => exact ..
(the tactic k_is has no namespace: write k_is) -/

/-! SHORT WORDS over the layer: a def of the text, its body, what a loop and a test want. -/
namespace L2
open PySem PySem.Spec PyProof.Rows

/-! ### the text by places -/
def inClass (s : Stmt) (j : Nat) : Stmt := match s with
  | .ClassDef _ _ _ body _ _ _ _ _ _ _ => body.getD j (.Pass ⟨0, 0, 0, 0⟩)
  | _ => .Pass ⟨0, 0, 0, 0⟩
def defArgs (s : Stmt) : Arguments := match s with
  | .FunctionDef _ a _ _ _ _ _ _ _ _ => a
  | _ => { posonlyargs := [], args := [], vararg := none, kwonlyargs := [], kw_defaults := [], kwarg := none, defaults := [] }
def defBody (s : Stmt) : List Stmt := match s with
  | .FunctionDef _ _ b _ _ _ _ _ _ _ => b
  | _ => []
def defScope (s : Stmt) : Scope := match s with
  | .FunctionDef _ _ _ _ _ _ sc _ _ _ => sc
  | _ => { kind := .function, names := [], isGenerator := false, isCoroutine := false }

/-! ### no exception leaves a def -/
abbrev CX0 : CXT := fun _ _ _ _ _ _ => False
abbrev E0 : XK := fun _ _ _ => False
theorem pass0 {X : Cx} : Passes CX0 X E0 := fun _ _ _ _ _ _ _ h => h.elim

/-! ### a def (or method) of the text as it stands behind the top -/
structure Fun (K : PySem.W.Frag) (x qual : Str) (st : Stmt) (f : Addr) (fd : FuncData) : Prop where
  ex : ∃ (oc : Value) (od : Option Addr) (kV doc pm : Value) (an : Option Addr) (cdv ct : Value) (osl : Array (Option Value)),
    fd = PySem.W.fnOf x qual (defArgs st) (defBody st) (defScope st) .none kV doc pm an cdv ct ∧ K.lookup f = some ⟨oc, od, .func fd, osl⟩ ∧ PySem.W.codeIn K cdv qual = true
  kp : PySem.W.keepIn K (.ref f) = true
section
variable {P : Program} {w : World} {K : PySem.W.Frag} {mg : Str → Option Value} {base : Heap}
theorem Fun.ok {x qual : Str} {st : Stmt} {f : Addr} {fd : FuncData} {N ps : List Str} {k : Nat} {sp : Sp} (F : Fun K x qual st f fd) (S : FnScope N ps (defScope st)) (len : ∀ vs H Q E, sp vs H Q E → vs.length = ps.length)
    (hbody : ∀ (cdv : Value) (A : Around) (outer : List Env) (s : Shared) (H : Hp) (vs : List V) (Q : VK) (E : XK), Room k (A.deeper (envOfC qual (defScope st) s.heap.objs.size f cdv)) → sp vs H Q E →
      ∃ t, PSs (cxOf CX0 P w K mg base N qual (defScope st) f cdv A outer s H E).nox (defBody st) t ∧ t { nx := fun _ H' => Q .non H', rt := Q } (start N vs) H) : FnOk P w K mg base CX0 (k + 1) f fd ps sp := by
  obtain ⟨oc, od, kV, doc, pm, an, cdv, ct, osl, rfl, lk, hcd⟩ := F.ex
  refine fn_of lk hcd S len fun A outer s H vs Q E hr hsp => ?_
  obtain ⟨t, h, q⟩ := hbody cdv A outer s H vs Q E hr hsp
  exact ⟨t, h.nox, q⟩
theorem Fun.binds {x qual : Str} {st : Stmt} {f : Addr} {fd : FuncData} {ps : List Str} (F : Fun K x qual st f fd)
    (h : ∀ (kV doc pm : Value) (an : Option Addr) (cdv ct : Value) (us : List Value), us.length = ps.length → bindArgs (PySem.W.fnOf x qual (defArgs st) (defBody st) (defScope st) .none kV doc pm an cdv ct) ⟨us, []⟩ = pure (ps.zip us)) : Binds K fd ps [] := by
  obtain ⟨oc, od, kV, doc, pm, an, cdv, ct, osl, rfl, lk, hcd⟩ := F.ex
  exact .all (h kV doc pm an cdv ct)
theorem fun_mk {x qual : Str} {st : Stmt} {f : Addr} {oc : Value} {od an : Option Addr} {osl : Array (Option Value)} {kV doc pm cdv ct : Value} (l : K.lookup f = some ⟨oc, od, .func (PySem.W.fnOf x qual (defArgs st) (defBody st) (defScope st) .none kV doc pm an cdv ct), osl⟩)
    (c : PySem.W.codeIn K cdv qual = true) (k : PySem.W.keepIn K (.ref f) = true) : Fun K x qual st f (PySem.W.fnOf x qual (defArgs st) (defBody st) (defScope st) .none kV doc pm an cdv ct) := ⟨⟨oc, od, kV, doc, pm, an, cdv, ct, osl, rfl, l, c⟩, k⟩
end
/-! ### expressions in short: the name that stands in the i-th slot -/
section
variable {X : Cx}
theorem pv (i : Nat) {x : Str} {pos : Pos} (hN : X.N[i]? = some x := by rfl) (hv : Vis X.env.scope x := by first | exact Or.inl rfl | exact Or.inr (Or.inl rfl) | exact Or.inr (Or.inr rfl)) (hd : (x == ("__debug__" : Str)) = false := by decide)
    (hcd : (x == ("__classdict__" : Str)) = false := by decide) : PE X (.Name x pos) (tVar i) := pe_var hN hv hd hcd
end

/-! ### tests -/
theorem iteF {A B : Prop} (h : B) : if false = true then A else B := by
  rw [if_neg Bool.false_ne_true]
  exact h
theorem iteT {A B : Prop} (h : A) : if true = true then A else B := by
  rw [if_pos rfl]
  exact h
theorem ite2 {c A B : Prop} [Decidable c] (h1 : c → A) (h2 : ¬ c → B) : if c then A else B := by
  by_cases h : c
  · rw [if_pos h]
    exact h1 h
  · rw [if_neg h]
    exact h2 h
theorem iteNS {c A B : Prop} [Decidable c] (hc : c) (h : B) : if (!decide c) = true then A else B := by
  rw [decide_eq_true hc]
  exact iteF h

/-! ### heaps -/
def Same (H H' : Hp) : Prop := ∀ b o, H b = some o → H' b = some o
theorem Same.refl (H : Hp) : Same H H := fun _ _ h => h
theorem Same.trans {H H1 H2 : Hp} (a : Same H H1) (b : Same H1 H2) : Same H H2 := fun c o h => b c o (a c o h)
theorem Same.seq {K : PySem.W.Frag} {H H' : Hp} {a : Addr} {xs : List V} (e : Same H H') (h : SqL K H a xs) : SqL K H' a xs := by
  rcases h with (h | ⟨o, h⟩) | h
  · exact .inl (.inl (e _ _ h))
  · exact .inl (.inr ⟨o, e _ _ h⟩)
  · exact .inr h

end L2

set_option Elab.async false
set_option linter.all false
set_option maxRecDepth 100000
set_option maxHeartbeats 4000000
namespace L2
open PySem PySem.Spec PyProof.Rows
/-! texts as lists of codes -/
abbrev S (l : List Nat) : Str := ⟨⟨l⟩⟩
theorem S_len (l : List Nat) : (S l).length = l.length := rfl
theorem S_app (a b : List Nat) : S a ++ S b = S (a ++ b) := by
  refine PyProof.Rows.ext_toList ?_
  rw [PySem.W.KT.app_list]
theorem S_inj {a b : List Nat} (h : S a = S b) : a = b := congrArg (fun x : Str => x.cps.toList) h
def cutL {α : Type} (l : List α) (lo hi : Option Int) : List α := (l.drop (HT.sIx l.length 0 lo)).take (HT.sIx l.length l.length hi - HT.sIx l.length 0 lo)
theorem clipS (v : Int) (n : Nat) : max 0 (min (if v < 0 then v + (n : Int) else v) (n : Int)) = ((HT.sIx n 0 (some v) : Nat) : Int) := by
  show _ = (((if v < 0 then (v + (n : Int)).toNat else min v.toNat n) : Nat) : Int)
  by_cases hv : v < 0
  · simp only [if_pos hv]; omega
  · simp only [if_neg hv]; omega
theorem strIx_eq (lo hi : Option Int) (n : Nat) : Builtin.Str.strSliceIndices lo hi 1 n = (List.range (HT.sIx n n hi - HT.sIx n 0 lo)).map (HT.sIx n 0 lo + ·) := by
  rw [← sliceRange_one]
  unfold Builtin.Str.strSliceIndices
  simp only [show (1 : Int) > 0 by decide, if_true]
  cases lo with
  | none =>
    cases hi with
    | none => rfl
    | some v => dsimp only; rw [clipS]; rfl
  | some u =>
    cases hi with
    | none => dsimp only; rw [clipS]; rfl
    | some v => dsimp only; rw [clipS, clipS]; rfl
theorem slice_S (l : List Nat) (lo hi : Option Int) : Txt.slice (S l) lo hi = S (cutL l lo hi) := by
  unfold Txt.slice
  rw [strIx_eq, pick_run]
  split
  · rename_i h
    have e : (List.map (HT.sIx (S l).length 0 lo + ·) (List.range (HT.sIx (S l).length (S l).length hi - HT.sIx (S l).length 0 lo))).length = (S l).length := by
      simpa using h
    rw [List.length_map, List.length_range, S_len] at e
    have h1 : HT.sIx l.length l.length hi ≤ l.length := HT.sIx_le _ _ (Nat.le_refl _) _
    have h0 : HT.sIx l.length 0 lo ≤ l.length := HT.sIx_le _ _ (Nat.zero_le _) _
    have z : l.length = 0 ∨ HT.sIx l.length 0 lo = 0 := by omega
    unfold cutL
    rcases z with z | z
    · have : l = [] := List.length_eq_zero_iff.mp z
      subst this
      simp
    · rw [z, List.drop_zero, List.take_of_length_le (by omega)]
  · rfl
section
variable {X : Cx}
theorem sl_str : SlR X (fun x lo hi H Q => ∃ l, x = .str (S l) ∧ l.length ≤ sizeLine ∧ Q (.str (S (cutL l lo hi))) H) := by
  intro pins s σ H x v vl vu lo hi sl Q I rx hs pl pu h
  obtain ⟨l, rfl, hz, q⟩ := h
  obtain ⟨t, rfl⟩ := rx
  refine ⟨"str", _, F.slot_str_getitem.lookup, typeIs_str _ _ _, ?_⟩
  have fin : ∀ t' k, EP X pins σ Q (.str (Txt.slice (S l) lo hi) t') { s with toks := k } := fun t' k => ⟨.str (S (cutL l lo hi)), H, I.tok _, ⟨t', by rw [slice_S]⟩, q⟩
  have hz' : ∀ lo hi, (Txt.slice (S l) lo hi).length ≤ sizeLine := fun lo hi => Nat.le_trans (Txt.slice_le _ _ _) hz
  cases pl with
  | none =>
    cases pu with
    | none => exact wpAny_getItem_str_slice (l := none) (u := none) (st := none) hs rfl (post_val_or_str ⟨hz' _ _, fin⟩)
    | int j tj => exact wpAny_getItem_str_slice (l := none) (u := some (j, tj)) (st := none) hs rfl (post_val_or_str ⟨hz' _ _, fin⟩)
  | int i ti =>
    cases pu with
    | none => exact wpAny_getItem_str_slice (l := some (i, ti)) (u := none) (st := none) hs rfl (post_val_or_str ⟨hz' _ _, fin⟩)
    | int j tj => exact wpAny_getItem_str_slice (l := some (i, ti)) (u := some (j, tj)) (st := none) hs rfl (post_val_or_str ⟨hz' _ _, fin⟩)
theorem op_adS : OpR X (binaryOp .Add) (fun x y H Q => ∃ a b, x = .str (S a) ∧ y = .str (S b) ∧ a.length + b.length ≤ sizeLine ∧ Q (.str (S (a ++ b))) H) := by
  intro pins s σ H x y v u Q I rx ry h
  obtain ⟨a, b, rfl, rfl, hz, q⟩ := h
  exact op_add_str pins s σ H _ _ v u Q I rx ry ⟨S a, S b, rfl, rfl, hz, by rw [S_app]; exact q⟩
theorem call_lenS : CallR X (.builtin "len") (fun xs H Q => ∃ l, xs = [.str (S l)] ∧ l.length ≤ sizeLine ∧ Q (.int l.length) H) := by
  intro pins s σ H xs us Q I r h
  obtain ⟨l, rfl, hz, q⟩ := h
  exact call_len_str pins s σ H _ us Q I r ⟨S l, rfl, hz, q⟩
theorem ix_S : IxR X (fun x y H Q => ∃ l i c, x = .str (S l) ∧ y = .int i ∧ l.length ≤ sizeLine ∧ atI l i = some c ∧ Q (.str (S [c])) H) := by
  intro value slice pins s σ H x y v u Q I rx ry h hs
  obtain ⟨l, i, c, rfl, rfl, hz, he, q⟩ := h
  exact ix_str value slice pins s σ H _ _ v u Q I rx ry ⟨S l, i, c, rfl, rfl, hz, he, q⟩ hs
def clsV : V → Value
  | .ty n => .type n
  | .ref a => .ref a
  | _ => .none
theorem call_isi : CallR X (.builtin "isinstance") (fun xs H Q => ∃ x c t b, xs = [x, c] ∧ (∃ n, c = .ty n ∨ ∃ a, c = .ref a) ∧ TyOf X.K H x t ∧ PySem.W.kitOne X.K t (clsV c) = some b ∧ Q (.bl b) H) := by
  intro pins s σ H xs us Q I r h
  obtain ⟨x, c, t, b, rfl, hc, ty, e, q⟩ := h
  obtain ⟨u, w, rfl, ru, rw'⟩ := r.two
  have ew : w = clsV c := by
    obtain ⟨n, rfl | ⟨a, rfl⟩⟩ := hc
    · exact rw'
    · exact rw'
  subst ew
  exact isinst_ok I ru ty e fun tk => ⟨.bl b, H, I.tok _, rfl, q⟩
end
/-! an own def, bundled -/
structure Own (P : Program) (w : World) (K : PySem.W.Frag) (mg : Str → Option Value) (base : Heap) (CX : CXT) (k : Nat) (x : Str) (ps : List Str) (sp : Sp) : Prop where
  ex : ∃ f fd, FnOk P w K mg base CX k f fd ps sp ∧ Binds K fd ps [] ∧ PySem.W.keepIn K (.ref f) = true ∧ mg x = some (.ref f)
section
variable {X : Cx} {CX : CXT} {j k : Nat} {ps : List Str} {sp : Sp} {E : XK} {x : Str} {p pos : Pos} {e : Expr} {es : List Expr} {t : TA}
theorem pe_own (O : Own X.prog X.w X.K X.mg X.base CX j x ps sp) (hr : Room k X.A) (hg : Gl X x) (hx : Passes CX X E) (ha : PA X (e :: es) t) (hj : j ≤ k := by decide) (hdb : (x == ("__debug__" : Str)) = false := by decide)
    (he : starEach (e :: es) X.env = (false, eval e X.env) :: starEach es X.env := by rfl) (hpl : (backTo pos (starEach es X.env)).any (·.1) = false := by rfl) : PE X (.Call (.Name x p) (e :: es) [] pos) (tCall sp [] E t) := by
  obtain ⟨f, fd, F, b, kp, m⟩ := O.ex
  exact pe_call F (hr.mono hj) hg m kp b .nil hx ha hdb he hpl
end
theorem boot_isi : bootBuiltins "isinstance" = some (.builtin "isinstance") := by first | exact PySem.boot_isinstance | decide +kernel
theorem small {n : Nat} (h : n ≤ 1000000) : n ≤ sizeLine := by rw [PySem.sizeLine_eq]; omega
theorem boot_int : bootBuiltins "int" = some (.type "int") := by decide +kernel
theorem boot_tuple : bootBuiltins "tuple" = some (.type "tuple") := by decide +kernel
theorem kit_tt {K : PySem.W.Frag} : PySem.W.kitOne K (.type "tuple") (.type "tuple") = some true := by rfl
theorem cutL_nn {α : Type} (l : List α) (k hi : Nat) : cutL l (some (k : Int)) (some (hi : Int)) = (l.drop k).take (hi - k) := by
  unfold cutL
  rw [HT.sIx_nat, HT.sIx_nat]
  by_cases h : k ≤ l.length
  · rw [Nat.min_eq_left h]
    by_cases h2 : hi ≤ l.length
    · rw [Nat.min_eq_left h2]
    · rw [Nat.min_eq_right (by omega), List.take_of_length_le (by simp), List.take_of_length_le (by simp; omega)]
  · rw [List.drop_eq_nil_of_le (by omega), List.drop_eq_nil_of_le (by omega)]
    simp
theorem cutL_n {α : Type} (l : List α) (k : Nat) : cutL l (some (k : Int)) none = l.drop k := by
  unfold cutL
  rw [HT.sIx_nat, HT.sIx_none]
  by_cases h : k ≤ l.length
  · rw [Nat.min_eq_left h, List.take_of_length_le (by simp)]
  · rw [List.drop_eq_nil_of_le (by omega), List.drop_eq_nil_of_le (by omega)]
    simp
theorem cutL_m {α : Type} (l : List α) (k : Nat) : cutL l none (some (k : Int)) = l.take k := by
  unfold cutL
  rw [HT.sIx_nat, HT.sIx_none, List.drop_zero, Nat.sub_zero]
  by_cases h : k ≤ l.length
  · rw [Nat.min_eq_left h]
  · rw [Nat.min_eq_right (by omega), List.take_of_length_le (by omega), List.take_of_length_le (by omega)]
theorem cutL_map {α β : Type} (f : α → β) (l : List α) (lo hi : Option Int) : cutL (l.map f) lo hi = (cutL l lo hi).map f := by
  unfold cutL
  rw [List.length_map, List.map_take, List.map_drop]
theorem same_new {H : Hp} {p : Addr} (h : H p = none) (o : HO) : Same H (upd H p o) := fun b u q => by rw [upd_ne (ne_of_none q h)]; exact q
theorem sq_cut {K : PySem.W.Frag} {H : Hp} {p : Addr} {cs : List Int} {lo hi : Option Int} : SqL K (upd H p (.lst (cutV (cs.map V.int) lo hi))) p ((cutL cs lo hi).map V.int) := by
  rw [← cutL_map]
  exact SqL.of upd_same
theorem iteDT {c A B : Prop} [Decidable c] (h : c) (x : A) : if decide c = true then A else B := by
  rw [decide_eq_true h]
  exact iteT x
theorem iteDF {c A B : Prop} [Decidable c] (h : ¬ c) (x : B) : if decide c = true then A else B := by
  rw [decide_eq_false h]
  exact iteF x
end L2

set_option Elab.async false
set_option linter.all false
set_option maxRecDepth 100000
set_option maxHeartbeats 4000000
namespace L2
open PySem PySem.Spec PyProof.Rows PySem.W PySem.Builtin.ObjectAttr PySem.Builtin.Getset_descriptor
/-! ## exceptions of own classes -/
section
variable {K : Frag} {e C : Addr} {M : Model} {h : Heap}
end
section
variable {X : Cx}
end
/-! ## how an exception lies behind a call: it flies; whatever is done to its own records, the rest stands -/
section
variable {X : Cx} {pins : List (Addr × Obj)} {σ : St} {H : Hp} {s : Shared}
end
section
variable {P : Program} {w : World} {K : Frag} {mg : Str → Option Value} {base : Heap} {N : List Str} {qual : Str} {scope : Scope} {f : Addr} {cd : Value} {A : Around} {outer : List Env} {s : Shared} {H : Hp} {E : XK}
end
/-! ## raise C(..) -/
section
variable {X : Cx} {x : Str} {C : Addr} {np cpos pos : Pos} {e0 : Expr} {t : TA} {E : XK}
end
/-! ## try: body; except M as n: suite -/
section
variable {X : Cx} {CX : CXT} {j k : Nat} {ps : List Str} {sp : Sp} {E : St → XK} {x : Str} {p pos : Pos} {e : Expr} {es : List Expr} {t : TA}
end
section
variable {X : Cx} {pins pins' : List (Addr × Obj)} {σ : St} {H : Hp} {s : Shared} {E : St → XK} {e : Addr}
end
section
variable {X : Cx} {pins : List (Addr × Obj)} {σ : St} {H H' : Hp} {s : Shared}
end
section
variable {X : Cx} {n x : Str} {i : Nat} {M : Addr} {body suite : List Stmt} {b₀ : Stmt} {np hpos pos : Pos} {tb : (St → XK) → TS} {ts : Addr → TS}
end
/-! ## a def that is called in an except suite -/
section
variable {P : Program} {w : World} {K : Frag} {mg : Str → Option Value} {base : Heap}
end
section
variable {X : Cx} {j k : Nat} {ps : List Str} {sp : Sp} {x : Str} {p pos : Pos} {e : Expr} {es : List Expr} {t : TA}
end
end L2

set_option Elab.async false
set_option linter.all false
set_option maxRecDepth 100000
set_option maxHeartbeats 4000000
namespace L2
open PySem PySem.Spec PyProof.Rows PySem.StrLaws
/-! ## texts: count, rfind of one sign; l * n -/
section
variable {X : Cx}
end
/-! ## == of two lists, of two tuples of flat values -/
def eqs : List V → List V → Bool
  | [], [] => true
  | x :: xs, y :: ys => eqV x y && eqs xs ys
  | _, _ => false
def eqAtJ (xs ys : List V) (j : Nat) : Bool := match xs[j]?, ys[j]? with
  | some x, some y => eqV x y
  | _, _ => false
theorem eqs_all : ∀ {xs ys : List V}, xs.length = ys.length → (List.range xs.length).all (eqAtJ xs ys) = eqs xs ys
  | [], [], _ => rfl
  | [], _ :: _, h => by cases h
  | _ :: _, [], h => by cases h
  | x :: xs, y :: ys, h => by
    have ih := eqs_all (xs := xs) (ys := ys) (Nat.succ.inj h)
    rw [List.length_cons, List.range_succ_eq_map, List.all_cons, List.all_map]
    unfold eqs
    rw [← ih]
    rfl
theorem Vals.at {xs : List V} {us : List Value} (r : Vals xs us) {j : Nat} (h : j < us.toArray.size) : ∃ x, xs[j]? = some x ∧ RelV x us.toArray[j] := by
  have hj : j < us.length := by simpa using h
  have hx : j < xs.length := by rw [r.length]; exact hj
  obtain ⟨u, hu, ru⟩ := r.get (List.getElem?_eq_getElem hx)
  refine ⟨xs[j], List.getElem?_eq_getElem hx, ?_⟩
  rw [List.getElem?_eq_getElem hj] at hu
  cases hu
  simpa using ru
theorem flat_at {xs : List V} (h : xs.all flatV = true) {j : Nat} {x : V} (e : xs[j]? = some x) : flatV x = true := List.all_eq_true.mp h x (List.mem_of_getElem? e)
section
variable {X : Cx}
end
end L2

set_option Elab.async false
set_option linter.all false
set_option maxRecDepth 100000
set_option maxHeartbeats 4000000
namespace L2
open PySem PySem.Spec PyProof.Rows PySem.StrLaws
/-! ## != of lists and tuples; == of lists of the same references -/
section
variable {X : Cx}
theorem all_true (n : Nat) : (List.range n).all (fun _ => true) = true := by simp
end
/-! ## split('\n') -/
section
variable {X : Cx}
end
/-! ## the rows of a text, by their begins and ends -/
theorem same_upd {H H' : Hp} {p : Addr} {o : HO} (h : Same H H') (n : H p = none) : Same H (upd H' p o) := fun b u q => by
  rw [upd_ne (ne_of_none q n)]
  exact h b u q
end L2

set_option Elab.async false
set_option linter.all false
set_option maxRecDepth 100000
set_option maxHeartbeats 4000000
namespace L2
open PySem PySem.Spec PyProof.Rows
/-! ### comprehensions: the block runs in a context of its own -/
abbrev blk (X : Cx) (scope : Scope) (cl : List (Str × Addr)) (NB : List Str) (C : Addr) (fp : List Addr) (s3 : Shared) (H3 : Hp) : Cx :=
  { X with env := compEnvC scope cl C X.env, N := NB, s₀ := s3, H₀ := H3, outer := X.stack, stack := X.stack, ex := fp, fn := fun _ => false, xe := fun _ _ => False }
def around (ix : List (Option Nat)) (σ : St) : St := ix.map fun o => o.bind fun j => (σ[j]?).bind id
structure ClOk (X : Cx) (scope : Scope) (cl : List (Str × Addr)) (NB : List Str) (ix : List (Option Nat)) : Prop where
  clos : closureFor scope X.env = pure cl
  cell : ∀ y ∈ scope.names, y.2 ≠ .cell
  kind : scope.kind = .function
  names : ∀ y ∈ scope.names, y.2 = .local → scope.names.lookup y.1 = some .local
  sub : ∀ x c, cl.lookup x = some c → X.env.cells.lookup x = some c
  has : ∀ C x, ((compEnvC scope cl C X.env).kindOf x = some .cell ∨ (compEnvC scope cl C X.env).kindOf x = some .free) → ∃ c, cl.lookup x = some c
  len : ix.length = NB.length
  at_ : ∀ (i : Nat) x j, NB[i]? = some x → ix[i]? = some (some j) → X.N[j]? = some x ∧ (X.env.kindOf x = some .cell ∨ X.env.kindOf x = some .free) ∧ ∀ C, (compEnvC scope cl C X.env).kindOf x = some .cell ∨ (compEnvC scope cl C X.env).kindOf x = some .free
section
variable {X : Cx} {scope : Scope} {cl : List (Str × Addr)} {NB : List Str} {ix : List (Option Nat)} {fp : List Addr} {pins : List (Addr × Obj)} {σ : St} {H : Hp} {s : Shared}
theorem blk_ok (hb : ClOk X scope cl NB ix) (I : Inv X pins σ H s) (hf : ∀ b ∈ fp, FpOk X pins H b) (hl : ∀ b ∈ fp, b < s.heap.objs.size) : (blk X scope cl NB s.heap.objs.size fp s H).Ok where
  mod := I.mod
  kind := hb.kind
  glob := I.ok.glob
  blt := I.ok.blt
  above := Nat.le_refl _
  inj := fun x y c h1 h2 => I.ok.inj x y c (hb.sub x c h1) (hb.sub y c h2)
  has := fun x h => hb.has _ x h
  cab := fun _ _ z => nomatch z
  hd := I.ok.hd
  frames := I.ok.frames
  stk := .inl rfl
  exf := fun b z => ⟨Nat.ne_of_lt (hl b z), fun x c e => (hf b z).2.2.2.2.1 x c (hb.sub x c e)⟩
  bs := fun b o e => I.bs b o e
  bsz := Nat.le_trans I.ok.bsz I.sz
  noex := fun b o e z => by
    rcases (hf b z).2.2.2.1 with q | q
    · exact I.ok.noex b o e q
    · exact absurd (Nat.lt_of_lt_of_le (Heap.lt_size e) (Nat.le_trans I.ok.bsz q)) (Nat.lt_irrefl _)
  exfs := fun b z q => by
    rcases List.mem_cons.mp (I.stkSub b q) with e | e
    · exact (hf b z).2.1 e
    · exact (hf b z).2.2.1 e
  funs := I.stack
  frf := I.stkFree
theorem blk_inv (hb : ClOk X scope cl NB ix) (I : Inv X pins σ H s) (hf : ∀ b ∈ fp, FpOk X pins H b) (hl : ∀ b ∈ fp, b < s.heap.objs.size) {h' : Heap} {t' : Nat} {m : Str → Option Value} (hn : h'.Ns s.heap.objs.size m)
    (k : ∀ b o, s.heap.get? b = some o → h'.get? b = some o) : Inv (blk X scope cl NB s.heap.objs.size fp s H) pins (around ix σ) H { s with heap := h', toks := t' } where
  ok := blk_ok hb I hf hl
  os := rfl
  bare := I.bare
  base := Un.kept k
  loc := by
    refine ⟨m, hn, fun i x v e1 e2 e3 => ?_⟩
    have e2' : ∃ j, ix[i]? = some (some j) ∧ σ[j]? = some (some v) := by
      unfold around at e2
      rw [List.getElem?_map] at e2
      cases q : ix[i]? with
      | none => rw [q] at e2; cases e2
      | some o =>
        rw [q] at e2
        cases o with
        | none => cases e2
        | some j =>
          refine ⟨j, rfl, ?_⟩
          simp only [Option.map_some, Option.bind_some, Option.some.injEq] at e2
          cases r : σ[j]? with
          | none => rw [r] at e2; cases e2
          | some o => rw [r] at e2; simp only [Option.bind_some, id] at e2; rw [e2]
    obtain ⟨j, q1, q2⟩ := e2'
    obtain ⟨n1, n2, n3⟩ := hb.at_ i x j e1 q1
    obtain ⟨m0, _, hl0⟩ := I.loc
    have hv : Vis X.env.scope x := n2.elim (fun z => .inr (.inl z)) fun z => .inr (.inr z)
    obtain ⟨u, r, lk⟩ := hl0 j x v n1 q2 hv
    refine ⟨u, r, .inr ⟨n3 _, ?_⟩⟩
    rcases lk with ⟨z, _⟩ | ⟨_, c, ec, o, ho, hd⟩
    · rcases n2 with n2 | n2 <;> (rw [n2] at z; cases z)
    · obtain ⟨c', hc'⟩ := hb.has s.heap.objs.size x (n3 _)
      have := hb.sub x c' hc'
      rw [ec] at this; cases this
      exact ⟨c, hc', o, k c o ho, hd⟩
  cell := fun x c e => by
    obtain ⟨v, o, ho, hd⟩ := I.cell x c (hb.sub x c e)
    exact ⟨v, o, k c o ho, hd⟩
  free := I.hok.fresh (Nat.le_refl _)
  freeC := fun x c e => I.freeC x c (hb.sub x c e)
  pin := fun p hp => by
    obtain ⟨e, n, ne, nf, d⟩ := I.pin p hp
    refine ⟨k _ _ e, n, Nat.ne_of_lt (Heap.lt_size e), fun z => ?_, d⟩
    rcases List.mem_cons.mp (I.stkSub p.1 z) with q | q
    · exact ne q
    · exact nf q
  hok := I.hok.kept k
  len := by show (around ix σ).length = NB.length; unfold around; rw [List.length_map]; exact hb.len
theorem blk_back {C : Addr} {s' : Shared} {σ' : St} {H' : Hp} {h' : Heap} (I : Inv X pins σ H s) (hC : s.heap.objs.size ≤ C) (hf : ∀ b ∈ fp, FpOk X pins H b) (J : Inv (blk X scope cl NB C fp s H) pins σ' H' s') (hs : Heap.SameBut C s'.heap h') : Inv X pins σ H' { s' with heap := h' } := by
  have nC : ∀ b o, s.heap.get? b = some o → b ≠ C := fun b o e => Nat.ne_of_lt (Nat.lt_of_lt_of_le (Heap.lt_size e) hC)
  refine I.call' (ch := fp) J.os ?_ ?_ J.bare fun b hb => ?_
  · have B := J.base
    exact ⟨fun b o e n h1 h2 => (hs.2 b (nC b o e)).trans (B.keep b o e n h1 h2), fun b o e n h1 h2 => let ⟨sl, q⟩ := B.slot b o e n h1 h2; ⟨sl, (hs.2 b (nC b o e)).trans q⟩, B.free, fun b o e h1 => let ⟨o', q⟩ := B.there b o e h1; ⟨o', (hs.2 b (nC b o e)).trans q⟩, B.tups, B.frzs, B.tbls⟩
  · intro b ob e
    have fr : H' C = none := J.free
    refine (J.hok b ob e).stay (fun c w' hc q => (hs.2 c ?_).trans q) (fun _ q => q) fun _ _ q => q
    rintro rfl
    rcases hc with rfl | hc
    · rw [fr] at e; cases e
    · rw [fr] at hc; cases hc
  · obtain ⟨_, f1, _, f3, f4, f5⟩ := hf b hb
    exact ⟨f3, f1, f4, f5⟩
def PIf (X : Cx) (ifs : List Expr) (t : TT) : Prop :=
  ∀ (pins : List (Addr × Obj)) (s : Shared) (σ : St) (H : Hp) (Q : Bool → Hp → Prop), Inv X pins σ H s → t σ H Q →
    wpAny (model X.prog X.w) X.A (forIn ifs true fun c r => if r = true then do let ok ← isTrue c X.env (eval c X.env); pure (ForInStep.yield ok) else pure (ForInStep.yield r)) (TP X pins σ Q) X.xe s
def tYes : TT := fun _ H Q => Q true H
theorem pif_nil : PIf X [] tYes := fun _ _ _ H _ I h => wpAny_tests_nil ⟨H, I, h⟩
def CompW (J : It) (D : Addr) (σ0 : St) (H0 : Hp) (g : TG) (tc : TT) (te : TE) (Q : VK) : Prop := ∃ W : Nat → Nat → St → Hp → Prop, (∃ m, W 0 m σ0 H0) ∧ ∀ i m σ H, W i m σ H →
  (J.stop i H ∧ Q (.ref D) H) ∨ (J.go i H ∧ ∃ N : St → Hp → Prop, (∀ σ' H', N σ' H' → ∃ m', m' < m ∧ W (i + 1) m' σ' H') ∧ ∀ x H', J.yld i H x H' → g x σ H' fun σ2 H2 => tc σ2 H2 fun b H3 =>
    if b = true then te σ2 H3 fun y H4 => ∃ ys, H4 D = some (.lst ys) ∧ ys.length < sizeLine ∧ N σ2 (upd H4 D (.lst (ys ++ [y]))) else N σ2 H3)
def tComp (ix : List (Option Nat)) (wi : TI) (g : TG) (tc : TT) (te : TE) : TE := fun σ H Q => wi σ H fun J H1 => ∀ D, H1 D = none → CompW J D (around ix σ) (upd H1 D (.lst [])) g tc te Q
theorem pe_comp {elt iter : Expr} {x : Str} {px : Pos} {ifs : List Expr} {pos : Pos} {wi : TI} {g : TG} {tc : TT} {te : TE} (NB : List Str) (ix : List (Option Nat)) (cl : List (Str × Addr)) (hc : X.calm = true) (hb : ClOk X scope cl NB ix) (hi : PI X (.Name x px) iter wi)
    (hg : ∀ C fp s3 H3, PG (blk X scope cl NB C fp s3 H3) (.Name x px) g) (ht : ∀ C fp s3 H3, PIf (blk X scope cl NB C fp s3 H3) ifs tc) (he : ∀ C fp s3 H3, PE (blk X scope cl NB C fp s3 H3) elt te)
    (hs : ∀ x, foldedSetIterable iter X.env x = pure x := by intro _; rfl) : PE X (.ListComp elt [⟨.Name x px, iter, ifs, 0⟩] scope pos) (tComp ix wi g tc te) := by
  intro pins s σ H Q I h
  rw [eval_ListComp]
  refine wpAny_comprehension_free (use := none) rfl hs hb.clos hb.kind hb.names (thn (hi pins s σ H _ I h) fun v s1 h1 => thn h1 fun itv s2 h2 => ?_)
  obtain ⟨it, fp, tn, J, H2, e, I2, T, st2, f2, turn0⟩ := h2
  subst e
  have hD : H2 s2.heap.objs.size = none := I2.hok.fresh (Nat.le_refl _)
  obtain ⟨W, ⟨m0, w0⟩, turn⟩ := turn0 _ hD
  have flt : ∀ b ∈ fp, b < s2.heap.objs.size := fun b z => let ⟨o, e, _⟩ := T.obj _ _ st2 b z; Heap.lt_size e
  refine wpAny_newObj_type (wpAny_newFunctionEnv hb.cell (by intro y hy; simp at hy) (fun h₁ hns₁ hsb₁ => ?_) hb.kind)
  dsimp only at hns₁ hsb₁ ⊢
  have I3 := I2.lnew (ys := []) (its := []) (t' := s2.toks) .nil (Nat.zero_le _)
  have hsz3 : (s2.heap.push { cls := .type "list", data := .seq ([] : List Value).toArray }).objs.size = s2.heap.objs.size + 1 := Heap.size_push ..
  have fp3 : ∀ b ∈ fp, FpOk X pins (upd H2 s2.heap.objs.size (.lst [])) b := fun b z => ⟨by rw [upd_ne (Nat.ne_of_lt (flt b z))]; exact (f2 b z).1, (f2 b z).2⟩
  have flt3 : ∀ b ∈ fp, b < (s2.heap.push { cls := .type "list", data := .seq ([] : List Value).toArray }).objs.size := fun b z => by rw [hsz3]; exact Nat.lt_succ_of_lt (flt b z)
  have k3 : ∀ b o, (s2.heap.push { cls := .type "list", data := .seq ([] : List Value).toArray }).get? b = some o → h₁.get? b = some o := fun b o e => hsb₁.extBut b o (Nat.ne_of_lt (Heap.lt_size e)) (Heap.get?_push_of_some _ e)
  have J0 := blk_inv hb I3 fp3 flt3 (h' := h₁) (t' := s2.toks + ([] : List (Str × Value)).length) hns₁ k3
  have st3 : tn 0 h₁ := T.keep _ _ _ st2 fun b z o e => k3 b o (Heap.get?_push_of_some _ e)
  have loop : ∀ s4 : Shared, s4 = { s2 with heap := h₁, toks := s2.toks + ([] : List (Str × Value)).length } →
      codeAny (model X.prog X.w) X.A (.compLoop (.ListComp elt [⟨.Name x px, iter, ifs, 0⟩] scope pos) 0 (.ref it) (.ref s2.heap.objs.size) (compEnvC scope cl (s2.heap.push { cls := .type "list", data := .seq ([] : List Value).toArray }).objs.size X.env))
        (compPost (model X.prog X.w) X.A X.xe none (EP X pins σ Q) (.ref s2.heap.objs.size) (s2.heap.push { cls := .type "list", data := .seq ([] : List Value).toArray }).objs.size) s4 := by
    rintro s4 rfl
    have J0' : Inv (blk X scope cl NB (s2.heap.push { cls := .type "list", data := .seq ([] : List Value).toArray }).objs.size fp _ _) pins _ _ _ := J0
    generalize hC : (s2.heap.push { cls := .type "list", data := .seq ([] : List Value).toArray }).objs.size = C at *
    refine codeAny_compLoop_tests (fun n s' => ∃ i σ' H', Inv (blk X scope cl NB C fp { s2 with heap := s2.heap.push { cls := .type "list", data := .seq ([] : List Value).toArray } } (upd H2 s2.heap.objs.size (.lst []))) pins σ' H' s' ∧ tn i s'.heap ∧ (∀ b ∈ fp, H' b = none) ∧ W i n σ' H') ?_ m0 ⟨0, _, _, J0', st3, fun b z => (fp3 b z).1, w0⟩
    rintro n s5 ⟨i, σ5, H5, I5, st5, fr5, w5⟩
    have stat : ∀ {H' : Hp}, (∀ b ∈ fp, H' b = none) → ∀ b ∈ fp, FpOk (blk X scope cl NB C fp { s2 with heap := s2.heap.push { cls := .type "list", data := .seq ([] : List Value).toArray } } (upd H2 s2.heap.objs.size (.lst []))) pins H' b := fun hn b z => by
      obtain ⟨_, f1, f2', f3, f4, f5⟩ := fp3 b z
      exact ⟨hn b z, Nat.ne_of_lt (flt3 b z), fun q => I5.ok.exfs b z q, .inl z, fun y c e => f4 y c (hb.sub y c e), f5⟩
    rcases turn i n σ5 H5 w5 with ⟨stop, qn⟩ | ⟨go, N, hN, step⟩
    · refine wpAny_mono (T.done (blk X scope cl NB C fp { s2 with heap := s2.heap.push { cls := .type "list", data := .seq ([] : List Value).toArray } } (upd H2 s2.heap.objs.size (.lst []))) rfl rfl rfl hc i pins s5 σ5 H5 (fun _ _ => False) I5 (stat fr5) st5 stop) (fun r s6 ⟨hr, I6⟩ => ?_) fun _ _ z => z.elim
      subst hr
      obtain ⟨m6, hn6, _⟩ := id I6.loc
      refine ⟨m6, hn6, fun h' hs' => ?_⟩
      exact ⟨.ref _, H5, blk_back I3 (Nat.le_of_eq hC) fp3 I6 hs', rfl, qn⟩
    · refine wpAny_mono (T.item (blk X scope cl NB C fp { s2 with heap := s2.heap.push { cls := .type "list", data := .seq ([] : List Value).toArray } } (upd H2 s2.heap.objs.size (.lst []))) rfl rfl rfl hc i pins s5 σ5 H5 (fun _ _ => False) I5 (stat fr5) st5 go) (fun r s6 ⟨u, hr, h6⟩ => ?_) fun _ _ z => z.elim
      subst hr
      show wpAny _ _ (pure () >>= fun _ => assign (.Name x px) _ u) _ _ s6
      refine wpAny_bind (wpAny_mono h6 (fun _ s7 ⟨y, H7, I7, r7, y7, st7, fr7⟩ => ?_) fun _ _ z => z.elim)
      have I7' := I7.pinned (stat fr7) (T.obj _ _ st7)
      refine wpAny_mono (hg _ _ _ _ _ s7 σ5 H7 y u _ I7' r7 (step y H7 y7)) (fun _ s8 ⟨σ8, H8, I8, q8⟩ => ?_) fun _ _ z => z.elim
      refine wpAny_mono (ht _ _ _ _ _ s8 σ8 H8 _ I8 q8) (fun ok s9 ⟨H9, I9, q9⟩ => ?_) fun _ _ z => z.elim
      have again : ∀ {s' : Shared} {H' : Hp}, Inv (blk X scope cl NB C fp { s2 with heap := s2.heap.push { cls := .type "list", data := .seq ([] : List Value).toArray } } (upd H2 s2.heap.objs.size (.lst []))) (pins ++ pinsAt fp s7.heap) σ8 H' s' → N σ8 H' → ∃ m, m < n ∧ ∃ i σ' H', Inv (blk X scope cl NB C fp { s2 with heap := s2.heap.push { cls := .type "list", data := .seq ([] : List Value).toArray } } (upd H2 s2.heap.objs.size (.lst []))) pins σ' H' s' ∧ tn i s'.heap ∧ (∀ b ∈ fp, H' b = none) ∧ W i m σ' H' := fun {s' H'} I' n' => by
        obtain ⟨m', hm, w'⟩ := hN _ _ n'
        refine ⟨m', hm, i + 1, _, H', I'.unpinned, T.keep _ _ _ st7 fun b z o e => (I'.pin (b, o) (List.mem_append_right _ (List.mem_append_right _ (mem_pinsAt z e)))).1, fun b z => ?_, w'⟩
        obtain ⟨o, e, d⟩ := T.obj _ _ st7 b z
        exact (I'.pin (b, o) (List.mem_append_right _ (List.mem_append_right _ (mem_pinsAt z e)))).2.1
      cases ok with
      | false => exact again I9 q9
      | true =>
        rw [if_pos rfl] at q9 ⊢
        refine wpAny_mono (he _ _ _ _ _ s9 σ8 H9 _ I9 q9) (fun w s10 ⟨z, H10, I10, r10, ys, hD10, hz10, n10⟩ => ?_) fun _ _ z => z.elim
        refine wpAny_mono (mt_append (X := (blk X scope cl NB C fp { s2 with heap := s2.heap.push { cls := .type "list", data := .seq ([] : List Value).toArray } } (upd H2 s2.heap.objs.size (.lst [])))) _ s10 σ8 H10 (.ref s2.heap.objs.size) [z] _ [w] (fun _ H' => H' = upd H10 s2.heap.objs.size (.lst (ys ++ [z]))) I10 rfl (.cons r10 .nil) ⟨_, ys, z, rfl, rfl, hD10, hz10, rfl⟩) (fun _ s11 ⟨_, H11, I11, _, e11⟩ => ?_) fun _ _ z => z.elim
        subst e11
        exact again I11 n10
  exact codeAny_compStart_list (loop _ rfl) (T.self _ 0 _ _ _ st3 (loop _ rfl))

/-! ### reversed(list) -/
theorem comp_list {K : PySem.W.Frag} {a D : Addr} {xs : List V} {ix : List (Option Nat)} {g : TG} {tc : TT} {te : TE} {σ : St} {H : Hp} {Q : VK} (Pv : Nat → St → Hp → Prop) (h0 : Pv 0 (around ix σ) (upd H D (.lst []))) (hl : ∀ i σ H, i ≤ xs.length → Pv i σ H → SqL K H a xs)
    (hs : ∀ i x σ H, xs[i]? = some x → Pv i σ H → g x σ H fun σ2 H2 => tc σ2 H2 fun b H3 => if b = true then te σ2 H3 fun y H4 => ∃ ys, H4 D = some (.lst ys) ∧ ys.length < sizeLine ∧ Pv (i + 1) σ2 (upd H4 D (.lst (ys ++ [y]))) else Pv (i + 1) σ2 H3)
    (hd : ∀ σ H, Pv xs.length σ H → Q (.ref D) H) :
    CompW (Itl K a) D (around ix σ) (upd H D (.lst [])) g tc te Q := by
  refine ⟨fun i m σ H => m = xs.length - i ∧ i ≤ xs.length ∧ Pv i σ H, ⟨xs.length, by simp, Nat.zero_le _, h0⟩, ?_⟩
  rintro i m σ H ⟨rfl, hi, p⟩
  have q := hl i σ H hi p
  by_cases hlt : i < xs.length
  · refine .inr ⟨⟨xs, xs[i], q, by simp [hlt]⟩, Pv (i + 1), fun σ' H' p' => ⟨xs.length - (i + 1), by omega, rfl, hlt, p'⟩, fun x H' y => ?_⟩
    obtain ⟨e, y⟩ := y
    subst e
    exact hs i x σ _ (y xs q) p
  · have e : i = xs.length := by omega
    subst e
    exact .inl ⟨⟨xs, q, Nat.le_refl _⟩, hd σ H p⟩
theorem yes {i : Nat} {v : V} {σ : St} {H : Hp} {F G : St → Hp → Prop} (h : F (σ.set i (some v)) H) : gName i v σ H (fun σ2 H2 => tYes σ2 H2 fun b H3 => if b = true then F σ2 H3 else G σ2 H3) := by
  show (if true = true then F (σ.set i (some v)) H else G (σ.set i (some v)) H)
  rw [if_pos rfl]
  exact h
theorem nd1 (x : Str) : [x].Nodup := by simp
theorem lookup_mem {α : Type} : ∀ {l : List (Str × α)} {x : Str} {k : α}, l.lookup x = some k → ∃ y, (y, k) ∈ l
  | (y, k') :: r, x, k, h => by
    rw [List.lookup_cons] at h
    split at h
    · cases h; exact ⟨y, List.mem_cons_self⟩
    · obtain ⟨z, hz⟩ := lookup_mem h
      exact ⟨z, List.mem_cons_of_mem _ hz⟩
theorem cl_none (NB : List Str) (hf : (scope.names.all fun y => y.2 != NameKind.free && y.2 != NameKind.cell) = true) (hk : scope.kind = .function) (hn : (scope.names.all fun y => y.2 != NameKind.local || scope.names.lookup y.1 == some NameKind.local) = true) : ClOk X scope [] NB (NB.map fun _ => none) := by
  have nf : ∀ y ∈ scope.names, y.2 ≠ .free ∧ y.2 ≠ .cell := fun y hy => by
    have := List.all_eq_true.mp hf y hy
    simpa using this
  have er : (scope.names.map fun (n, k) => if (k == NameKind.free && X.env.scope.kind == .function && X.env.kindOf n == some .cell) then (n, NameKind.cell) else (n, k)) = scope.names := by
    refine (List.map_congr_left fun y hy => ?_).trans (List.map_id _)
    obtain ⟨n, k⟩ := y
    have h1 : (k == NameKind.free) = false := by simpa using (nf _ hy).1
    show (if (k == NameKind.free && X.env.scope.kind == .function && X.env.kindOf n == some .cell) = true then (n, NameKind.cell) else (n, k)) = (n, k)
    rw [h1, Bool.false_and, Bool.false_and]
    rfl
  refine ⟨closureFor_none fun y hy => (nf y hy).1, fun y hy => (nf y hy).2, hk, fun y hy hl => ?_, fun x c h => (by cases h), fun C x h => ?_, by simp, fun i x j h1 h2 => ?_⟩
  · have := List.all_eq_true.mp hn y hy
    rw [hl] at this
    simpa using this
  · exfalso
    have hx : (compEnvC scope [] C X.env).kindOf x = scope.names.lookup x := by
      show List.lookup x (scope.names.map fun (n, k) => if (k == NameKind.free && X.env.scope.kind == .function && X.env.kindOf n == some .cell) then (n, NameKind.cell) else (n, k)) = _
      rw [er]
    rw [hx] at h
    rcases h with h | h
    · obtain ⟨y, hy⟩ := lookup_mem h
      exact (nf _ hy).2 rfl
    · obtain ⟨y, hy⟩ := lookup_mem h
      exact (nf _ hy).1 rfl
  · rw [List.getElem?_map] at h2
    cases q : NB[i]? with
    | none => rw [q] at h2; cases h2
    | some o => rw [q] at h2; cases h2
end
end L2

set_option Elab.async false
set_option linter.all false
set_option maxRecDepth 100000
set_option maxHeartbeats 4000000
namespace L2
open PySem PySem.Spec PyProof.Rows PySem.StrLaws
/-! ## texts: ''.join, in, <= -/
theorem strs_are : ∀ {ls : List (List Nat)} {us : List Value}, Vals (ls.map fun r => V.str (S r)) us → StrsAre us (ls.map S)
  | [], _, .nil => .nil
  | l :: ls, _, .cons r t => by
    obtain ⟨tk, rfl⟩ := r
    exact .cons _ tk (strs_are t)
theorem glue_S : ∀ (ls : List (List Nat)), Txt.join (S []) (ls.map S) = S ls.flatten := by
  intro ls
  refine (PySem.StrLaws.glued_eq_join (S []) (ls.map S)).trans ?_
  induction ls with
  | nil => rfl
  | cons l ls ih =>
    cases ls with
    | nil =>
      show S l = S [l].flatten
      simp
    | cons m ls =>
      show S l ++ S [] ++ Str.join (S []) ((m :: ls).map S) = _
      rw [ih, S_app, S_app]
      simp
theorem flat_len {ls : List (List Nat)} : ((ls.map S).map (·.length)).sum = ls.flatten.length := by
  rw [List.length_flatten, List.map_map]
  rfl
section
variable {X : Cx}
theorem mt_join : MtR X "str.join" (fun x vs H Q => ∃ (p : Addr) (ls : List (List Nat)), x = .str (S []) ∧ vs = [.ref p] ∧ SqL X.K H p (ls.map fun r => V.str (S r)) ∧ ls.flatten.length ≤ 1000000 ∧ Q (.str (S ls.flatten)) H) := by
  intro pins s σ H x vs v us Q I rx rv h
  obtain ⟨p, ls, rfl, rfl, hq, hl, q⟩ := h
  obtain ⟨t, rfl⟩ := rx
  obtain ⟨u, rfl, ru⟩ := rv.one
  cases ru
  obtain ⟨its, r, pl, hz⟩ := I.list hq
  refine join_list (items := its.toArray) (ys := ls.map S) pl.isList (by simpa using strs_are r) ?_ fun t' k => ?_
  · rw [flat_len]
    show _ + _ * 0 ≤ _
    omega
  · exact ⟨.str (S ls.flatten), H, I.tok _, ⟨t', by rw [glue_S]⟩, q⟩
theorem found_S (l : List Nat) (c : Nat) : (!(Builtin.Str.occurrences (S l) (S [c]) 0 (S l).length 1).isEmpty) = decide (c ∈ l) := by
  rw [Bool.eq_iff_iff, found_iff, decide_eq_true_iff]
  constructor
  · rintro ⟨i, h⟩
    exact List.mem_of_getElem? ((subAt_one (S l) c i).mp h)
  · intro h
    obtain ⟨i, hi⟩ := List.mem_iff_getElem?.mp h
    exact ⟨i, (subAt_one (S l) c i).mpr hi⟩
theorem op_in1 : OpR X (compareOp .In) (fun x y H Q => ∃ (c : Nat) (l : List Nat), x = .str (S [c]) ∧ y = .str (S l) ∧ Q (.bl (decide (c ∈ l))) H) := by
  intro pins s σ H x y v u Q I rx ry h
  obtain ⟨c, l, rfl, rfl, q⟩ := h
  exact op_in_str pins s σ H _ _ v u Q I rx ry ⟨S [c], S l, rfl, rfl, by rw [found_S]; exact q⟩
end
end L2

set_option Elab.async false
set_option linter.all false
set_option maxRecDepth 100000
set_option maxHeartbeats 4000000
namespace L2
open PySem PySem.Spec PyProof.Rows
/-! ### name = comprehension -/
section
variable {X : Cx} {scope : Scope} {cl : List (Str × Addr)} {NB : List Str} {ix : List (Option Nat)} {fp : List Addr} {pins : List (Addr × Obj)} {σ : St} {H : Hp} {s : Shared}
theorem turn_N {Pv : St → Hp → Prop} {μ : St → Hp → Nat} {σ : St} {H : Hp} : ∀ σ' H', (Pv σ' H' ∧ μ σ' H' < μ σ H) → ∃ m', m' < μ σ H ∧ m' = μ σ' H' ∧ Pv σ' H' := fun _ _ h => ⟨_, h.2, rfl, h.1⟩
theorem while_in {c : TT} {tb : TS} {D : Ends} {σ : St} {H : Hp} (Pv : St → Hp → Prop) (μ : St → Hp → Nat) (h0 : Pv σ H)
    (hs : ∀ σ H, Pv σ H → c σ H fun b H1 => if b = true then ∃ N : St → Hp → Prop, (∀ σ' H', N σ' H' → ∃ m', m' < μ σ H ∧ m' = μ σ' H' ∧ Pv σ' H') ∧ tb { D with nx := N, ct := N, bk := D.nx } σ H1 else D.nx σ H1) : tWhile c tb D σ H := by
  refine ⟨fun m σ H => m = μ σ H ∧ Pv σ H, ⟨_, rfl, h0⟩, ?_⟩
  rintro m σ H ⟨rfl, p⟩
  exact hs σ H p
theorem gname_go {i : Nat} {v : V} {σ : St} {H : Hp} {Q : St → Hp → Prop} (h : Q (σ.set i (some v)) H) : gName i v σ H Q := h
theorem seq_at {t u : TS} {D : Ends} {σ : St} {H : Hp} {r : VK} {b c : St → Hp → Prop} (h : tSeq t u D σ H) : ({ nx := tSeq t u D, rt := r, bk := b, ct := c } : Ends).nx σ H := h
theorem seq_to {t u : TS} {D : Ends} {σ : St} {H : Hp} (Out : St → Hp → Prop) (hs : ∀ nx : St → Hp → Prop, (∀ σ H, Out σ H → nx σ H) → t { D with nx := nx } σ H) (fin : ∀ σ H, Out σ H → u D σ H) : tSeq t u D σ H := hs _ fin
end
end L2

set_option Elab.async false
set_option linter.all false
set_option maxRecDepth 100000
set_option maxHeartbeats 4000000
namespace L2
open PySem PySem.Spec PyProof.Rows PySem.StrLaws
section
variable {X : Cx}
end
def optV : Option Nat → V
  | none => .non
  | some n => .int (n : Int)
end L2

set_option Elab.async false
set_option linter.all false
set_option maxRecDepth 100000
set_option maxHeartbeats 4000000
namespace L2
open PySem PySem.Spec PyProof.Rows
/-! ## range with a step; list(range(..)) -/
section
variable {X : Cx} {tg : Expr}
/-! a comprehension over a range -/
/-! the range as an object -/
end
end L2

set_option Elab.async false
set_option linter.all false
set_option maxRecDepth 100000
set_option maxHeartbeats 4000000
namespace L2
/-! ## brackets of one kind: the walk and the heap -/
/-! ## the three kinds -/
end L2

set_option Elab.async false
set_option linter.all false
set_option maxRecDepth 100000
set_option maxHeartbeats 4000000
namespace L2
open PySem PySem.Spec PyProof.Rows
/-! ### lists of pairs as tables -/
section
variable {κ : Type} [DecidableEq κ]
def valV (kvs : List (κ × V)) (k : κ) : Option V := (kvs.find? fun kv => decide (kv.1 = k)).map (·.2)
def putK (kvs : List (κ × V)) (k : κ) (v : V) : List (κ × V) :=
  if (kvs.any fun kv => decide (kv.1 = k)) = true then kvs.map (fun kv => if kv.1 = k then (kv.1, v) else kv) else kvs ++ [(k, v)]
theorem valV_nil {k : κ} : valV ([] : List (κ × V)) k = none := rfl
theorem valV_pos {p : κ × V} {r : List (κ × V)} {k : κ} (e : p.1 = k) : valV (p :: r) k = some p.2 := by simp [valV, List.find?_cons, e]
theorem valV_neg {p : κ × V} {r : List (κ × V)} {k : κ} (e : ¬ p.1 = k) : valV (p :: r) k = valV r k := by simp [valV, List.find?_cons, e]
theorem valV_any (k : κ) : ∀ kvs : List (κ × V), (kvs.any fun kv => decide (kv.1 = k)) = (valV kvs k).isSome
  | [] => rfl
  | p :: r => by
    rw [List.any_cons]
    by_cases e : p.1 = k
    · simp only [valV_pos e, decide_eq_true e, Bool.true_or, Option.isSome_some]
    · rw [valV_neg e, decide_eq_false e, Bool.false_or]; exact valV_any k r
theorem length_putK (kvs : List (κ × V)) (k : κ) (v : V) : (putK kvs k v).length ≤ kvs.length + 1 := by
  unfold putK
  split
  · rw [List.length_map]; omega
  · rw [List.length_append, List.length_cons, List.length_nil]; omega
theorem RelO.isSome_eq {o : Option V} {u : Option Value} (r : RelO o u) : o.isSome = u.isSome := by
  cases o with
  | none => cases u with
    | none => rfl
    | some _ => exact (show False from r).elim
  | some _ => cases u with
    | none => exact (show False from r).elim
    | some _ => rfl
theorem RelO.getD {o : Option V} {u : Option Value} {d : V} {d' : Value} (r : RelO o u) (rd : RelV d d') : RelV (o.getD d) (u.getD d') := by
  cases o with
  | none => cases u with
    | none => exact rd
    | some _ => exact (show False from r).elim
  | some _ => cases u with
    | none => exact (show False from r).elim
    | some _ => exact r

theorem KV.val {kvs : List (κ × V)} {vs : List (κ × Value)} (r : KV kvs vs) (k : κ) : RelO (valV kvs k) (valueAt vs k) := by
  unfold KV at r
  induction r with
  | nil => exact True.intro
  | @cons p q ps qs h t ih =>
    obtain ⟨h1, h2⟩ := h
    by_cases e : p.1 = k
    · have e' : q.1 = k := h1.symm.trans e
      have b : valueAt (q :: qs) k = some q.2 := by simp [valueAt, List.find?_cons, e']
      rw [valV_pos e, b]; exact h2
    · have e' : ¬ q.1 = k := fun z => e (h1.trans z)
      have b : valueAt (q :: qs) k = valueAt qs k := by simp [valueAt, List.find?_cons, e']
      rw [valV_neg e, b]; exact ih
theorem KV.any {kvs : List (κ × V)} {vs : List (κ × Value)} (r : KV kvs vs) (k : κ) : (kvs.any fun kv => decide (kv.1 = k)) = vs.any fun kv => decide (kv.1 = k) := by
  unfold KV at r
  induction r with
  | nil => rfl
  | cons h t ih => rw [List.any_cons, List.any_cons, ih, h.1]
theorem KV.repl {kvs : List (κ × V)} {vs : List (κ × Value)} (r : KV kvs vs) (k : κ) {y : V} {u : Value} (ry : RelV y u) :
    KV (kvs.map fun kv => if kv.1 = k then (kv.1, y) else kv) (vs.map fun kv => if kv.1 = k then (kv.1, u) else kv) := by
  unfold KV at r ⊢
  induction r with
  | nil => exact .nil
  | @cons p q ps qs h t ih =>
    rw [List.map_cons, List.map_cons]
    refine .cons ?_ ih
    obtain ⟨h1, h2⟩ := h
    by_cases e : p.1 = k
    · rw [if_pos e, if_pos (h1.symm.trans e)]; exact ⟨h1, ry⟩
    · rw [if_neg e, if_neg (fun z => e (h1.trans z))]; exact ⟨h1, h2⟩
theorem KV.put {kvs : List (κ × V)} {vs : List (κ × Value)} (r : KV kvs vs) (k : κ) {y : V} {u : Value} (ry : RelV y u) : KV (putK kvs k y) (stored vs k u) := by
  unfold putK stored
  rw [r.any k]
  by_cases e : (vs.any fun kv => decide (kv.1 = k)) = true
  · rw [if_pos e, if_pos e]; exact r.repl k ry
  · rw [if_neg e, if_neg e]; exact Paired.snoc r ⟨rfl, ry⟩
theorem KV.length {kvs : List (κ × V)} {vs : List (κ × Value)} (r : KV kvs vs) : kvs.length = vs.length := Paired.length r
end


/-! ### a tracked dict, its keys ints and texts or tuples of these -/
theorem kV_is {P : Program} {w : World} {k : Key} {u : Value} (r : RelV (kV k) u) : (mixKind P w).is k u = true := by
  cases k with
  | inl i => obtain ⟨t, e⟩ := (show ∃ t, u = Value.int i t from r); subst e; exact mixKind_int P w i t
  | inr x => obtain ⟨t, e⟩ := (show ∃ t, u = Value.str x t from r); subst e; exact mixKind_str P w x t
theorem items_are {P : Program} {w : World} : ∀ {ks : List Key} {us : List Value}, Vals (ks.map kV) us → ItemsAre (mixKind P w) ks us
  | [], _, r => by rw [List.map_nil] at r; cases r; exact .nil
  | k :: ks, _, r => by
    rw [List.map_cons] at r
    cases r with
    | cons h t => exact .cons (kV_is h) (items_are t)

abbrev KT (H : Hp) : List (List Key × V) → List (List Key × Addr × Value) → Prop := Paired fun p q => p.1 = q.1 ∧ H q.2.1 = some (.tup (p.1.map kV)) ∧ RelV p.2 q.2.2
theorem KT.val {H : Hp} {kvs : List (List Key × V)} {xs : List (List Key × Addr × Value)} (r : KT H kvs xs) (k : List Key) : RelO (valV kvs k) ((atKey xs k).map (·.2)) := by
  induction r with
  | nil => exact True.intro
  | @cons p q ps qs h t ih =>
    obtain ⟨h1, _, h2⟩ := h
    by_cases e : p.1 = k
    · have e' : q.1 = k := h1.symm.trans e
      have b : atKey (q :: qs) k = some q.2 := by simp [atKey, List.find?_cons, e']
      rw [valV_pos e, b]; exact h2
    · have e' : ¬ q.1 = k := fun z => e (h1.trans z)
      have b : atKey (q :: qs) k = atKey qs k := by simp [atKey, List.find?_cons, e']
      rw [valV_neg e, b]; exact ih
theorem KT.repl {H : Hp} {kvs : List (List Key × V)} {xs : List (List Key × Addr × Value)} (r : KT H kvs xs) (k : List Key) {y : V} {u : Value} (ry : RelV y u) :
    KT H (kvs.map fun kv => if kv.1 = k then (kv.1, y) else kv) (xs.map (putAt k u)) := by
  induction r with
  | nil => exact .nil
  | @cons p q ps qs h t ih =>
    rw [List.map_cons, List.map_cons]
    refine .cons ?_ ih
    obtain ⟨h1, h2, h3⟩ := h
    unfold putAt
    by_cases e : p.1 = k
    · rw [if_pos e, if_pos (h1.symm.trans e)]; exact ⟨h1, h2, ry⟩
    · rw [if_neg e, if_neg (fun z => e (h1.trans z))]; exact ⟨h1, h2, h3⟩
theorem KT.put {H : Hp} {kvs : List (List Key × V)} {xs : List (List Key × Addr × Value)} (r : KT H kvs xs) (k : List Key) {b : Addr} {y : V} {u : Value} (hb : H b = some (.tup (k.map kV))) (ry : RelV y u) :
    KT H (putK kvs k y) (storedH xs k b u) := by
  have e : (kvs.any fun kv => decide (kv.1 = k)) = (atKey xs k).isSome := by
    rw [valV_any, (r.val k).isSome_eq, Option.isSome_map]
  unfold putK storedH
  rw [e]
  by_cases q : (atKey xs k).isSome = true
  · rw [if_pos q, if_pos q]; exact r.repl k ry
  · rw [if_neg q, if_neg q]; exact Paired.snoc r ⟨rfl, hb, ry⟩
theorem KT.keeps {H H' : Hp} {kvs : List (List Key × V)} {xs : List (List Key × Addr × Value)} (r : KT H kvs xs) (ht : ∀ b ys, H b = some (.tup ys) → H' b = some (.tup ys)) : KT H' kvs xs :=
  Paired.mapP r fun _ _ z => ⟨z.1, ht _ _ z.2.1, z.2.2⟩

section
variable {P : Program} {w : World} {H : Hp} {h : Heap} {a : Addr}
theorem rd_of {u : HO} (ok : HOk P w H h) (e : Rd H a u) : ObjOk P w H h a u := e.ok ok
theorem dk_rd {kvs : List (Key × V)} (ok : HOk P w H h) (e : Rd H a (.dK kvs)) : kvs.length ≤ sizeLine ∧ (a == sysModules) = false ∧ ∃ vs, KV kvs vs ∧ h.DictOf (mixKind P w) a vs :=
  show ObjOk P w H h a (.dK kvs) from rd_of ok e
theorem dk_of {kvs : List (Key × V)} (ok : HOk P w H h) (e : H a = some (.dK kvs)) : kvs.length ≤ sizeLine ∧ (a == sysModules) = false ∧ ∃ vs, KV kvs vs ∧ h.DictOf (mixKind P w) a vs := dk_rd ok (.inl e)
theorem key_of {ks : List Key} (ok : HOk P w H h) (e : H a = some (.tup (ks.map kV))) : (tupleKind (mixKind P w)).is h ks a := by
  obtain ⟨_, its, r, o, h1, h2, n, h3⟩ := (show ObjOk P w H h a (.tup (ks.map kV)) from ok a _ e)
  exact ⟨o, its.toArray, n, h1, h2, h3, by simpa using items_are r⟩
theorem dt_rd {kvs : List (List Key × V)} (ok : HOk P w H h) (e : Rd H a (.dT kvs)) : kvs.length ≤ sizeLine ∧ (a == sysModules) = false ∧
    ∃ xs, KT H kvs xs ∧ h.DictOfH (tupleKind (mixKind P w)) a xs := by
  obtain ⟨z, y, xs, r, o, es, ep, h1, h2, h3, h4, h5⟩ := (show ObjOk P w H h a (.dT kvs) from rd_of ok e)
  refine ⟨z, y, xs, r, o, es, ep, h1, h2, h3, h4, fun x hx => ?_, h5⟩
  have all : ∀ {l : List (List Key × V)} {m : List (List Key × Addr × Value)}, KT H l m → ∀ x ∈ m, (tupleKind (mixKind P w)).is h x.1 x.2.1 := by
    intro l m q
    induction q with
    | nil => intro x hx; exact nomatch hx
    | @cons p q ps qs hq t ih =>
      intro x hx
      rcases List.mem_cons.mp hx with e | hx
      · subst e
        exact key_of ok (by rw [← hq.1]; exact hq.2.1)
      · exact ih x hx
  exact all r x hx
theorem dt_of {kvs : List (List Key × V)} (ok : HOk P w H h) (e : H a = some (.dT kvs)) : kvs.length ≤ sizeLine ∧ (a == sysModules) = false ∧
    ∃ xs, KT H kvs xs ∧ h.DictOfH (tupleKind (mixKind P w)) a xs := dt_rd ok (.inl e)
end

def DGet (H : Hp) (a : Addr) (y : V) (r : Option V) : Prop :=
  (∃ kvs k, Rd H a (.dK kvs) ∧ y = kV k ∧ r = valV kvs k) ∨ ∃ kvs k b, Rd H a (.dT kvs) ∧ y = .ref b ∧ H b = some (.tup (k.map kV)) ∧ r = valV kvs k
def DPut (H : Hp) (a : Addr) (y v : V) (H' : Hp) : Prop :=
  (∃ kvs k, H a = some (.dK kvs) ∧ y = kV k ∧ kvs.length < sizeLine ∧ H' = upd H a (.dK (putK kvs k v))) ∨
  ∃ kvs k b, H a = some (.dT kvs) ∧ y = .ref b ∧ H b = some (.tup (k.map kV)) ∧ kvs.length < sizeLine ∧ H' = upd H a (.dT (putK kvs k v))
theorem DGet.k {H : Hp} {a : Addr} {kvs : List (Key × V)} {k : Key} (e : H a = some (.dK kvs)) : DGet H a (kV k) (valV kvs k) := .inl ⟨kvs, k, .inl e, rfl, rfl⟩
theorem DPut.k {H : Hp} {a : Addr} {kvs : List (Key × V)} {k : Key} {v : V} (e : H a = some (.dK kvs)) (hl : kvs.length < sizeLine) : DPut H a (kV k) v (upd H a (.dK (putK kvs k v))) := .inl ⟨kvs, k, e, rfl, hl, rfl⟩
section
variable {X : Cx} {pins : List (Addr × Obj)} {σ : St} {H : Hp} {s : Shared} {a : Addr} {y v : V} {u r : Value} {o : Option V} {A : Around} {E : Value → Shared → Prop}

theorem Inv.big (I : Inv X pins σ H s) : sysModules < s.heap.objs.size := by
  have h : mainGlobals < s.heap.objs.size := (I.mod.glob.keeps I.bk).lt
  exact Nat.lt_trans (by decide) h

theorem d_getItem {Q : Value → Shared → Prop} (hu : A.units + 1 < cLine) (I : Inv X pins σ H s) (g : DGet H a y (some v)) (ry : RelV y u) (h : ∀ w' s', Inv X pins σ H s' → RelV v w' → Q w' s') :
    wpAny (model X.prog X.w) A (getItem (.ref a) u) Q E s := by
  rcases g with ⟨kvs, k, e, ey, l⟩ | ⟨kvs, k, b, e, ey, eb, l⟩
  · subst ey
    obtain ⟨z, hd, vs, rel, dd⟩ := dk_rd I.hok e
    obtain ⟨w', hw, rw'⟩ := RelO.some_of (v := v) (o := valueAt vs k) (by rw [l]; exact rel.val k)
    exact wpAny_getItem_of (kV_is ry) dd.mapOf hw (h w' _ (I.tok _) rw')
  · subst ey
    cases (show u = Value.ref b from ry)
    obtain ⟨z, hd, xs, rel, dd⟩ := dt_rd I.hok e
    obtain ⟨w', hw, rw'⟩ := RelO.some_of (v := v) (o := (atKey xs k).map (·.2)) (by rw [l]; exact rel.val k)
    obtain ⟨p, hp, hp2⟩ := Option.map_eq_some_iff.mp hw
    refine wpAny_getItem_heap (tupleKind_room_in1 hu) (key_of I.hok eb) dd hp ?_
    rw [hp2]
    exact h w' _ (I.tok _) rw'
theorem d_write {h' : Heap} {t' : Nat} {ob : HO} (I : Inv X pins σ H s) (mu : Mut (H a)) (hs : Heap.SameBut a s.heap h') (he : ∃ q, h'.get? a = some q) (new : ObjOk X.prog X.w (upd H a ob) h' a ob) :
    Inv X pins σ (upd H a ob) { s with heap := h', toks := t' } :=
  I.write (x := a) (e := a) mu (.inl rfl) (fun b q hb z => (hs.2 b hb).trans z) he new
theorem dk_new {P : Program} {w : World} {H' : Hp} {h' : Heap} {kvs : List (Key × V)} {vs : List (Key × Value)} (z : kvs.length ≤ sizeLine) (hd : (a == sysModules) = false) (rel : KV kvs vs) (dd : h'.DictOf (mixKind P w) a vs) :
    ObjOk P w H' h' a (.dK kvs) := ⟨z, hd, vs, rel, dd⟩
theorem d_setItem {H' : Hp} {Q : Unit → Shared → Prop} (hu : A.units + 1 < cLine) (I : Inv X pins σ H s) (g : DPut H a y v H') (ry : RelV y u) (rv : RelV v r) (h : ∀ s', Inv X pins σ H' s' → Q () s') :
    wpAny (model X.prog X.w) A (setItem (.ref a) u r) Q E s := by
  rcases g with ⟨kvs, k, e, ey, l, eH⟩ | ⟨kvs, k, b, e, ey, eb, l, eH⟩
  · subst ey eH
    obtain ⟨z, hd, vs, rel, dd⟩ := dk_of I.hok e
    have hz : vs.length ≤ sizeLine := by rw [← rel.length]; exact z
    have hl : (putK kvs k v).length ≤ sizeLine := by have := length_putK kvs k v; omega
    refine wpAny_setItem_pairs (hsz := hz) (kV_is ry) dd fun h' dd' hs => h _ ?_
    have he : ∃ q, h'.get? a = some q := let ⟨q, _, _, hq, _⟩ := dd'; ⟨q, hq⟩
    exact d_write I (by rw [e]; exact True.intro) hs he (dk_new hl hd (rel.put k rv) dd')
  · subst ey eH
    cases (show u = Value.ref b from ry)
    obtain ⟨z, hd, xs, rel, dd⟩ := dt_of I.hok e
    have hz : xs.length ≤ sizeLine := by rw [← Paired.length rel]; exact z
    have hl : (putK kvs k v).length ≤ sizeLine := by have := length_putK kvs k v; omega
    refine wpAny_setItem_heap (hsz := hz) (tupleKind_room_in1 hu) (key_of I.hok eb) dd fun h' dd' hs => h _ ?_
    obtain ⟨q, es, ep, hq, h2, h3, h4, _, h5⟩ := dd'
    refine d_write I (by rw [e]; exact True.intro) hs ⟨q, hq⟩ ⟨hl, hd, _, (rel.put k eb rv).keeps fun c ys ec => ?_, q, es, ep, hq, h2, h3, h4, h5⟩
    rw [upd_ne (ne_of ec e (fun z => nomatch z))]
    exact ec
end

section
variable {X : Cx} {pins : List (Addr × Obj)} {σ : St} {H : Hp} {s : Shared} {a : Addr} {kvs : List (Key × V)} {k : Key} {u : Value} {A : Around} {E : Value → Shared → Prop}
end


/-! ### readings and rules -/
def NoSl (i : Expr) : Prop := ∀ ov iv, subscripted i false ov iv = operate [ov, iv] (getItem ov iv)
theorem subD_of {prog : Program} {w : World} {A : Around} {E : Value → Shared → Prop} {s : Shared} {env : Env} {value slice : Expr} {pos : Pos} {T id : String} {Q : Value → Shared → Prop}
    (hl : typeLookup (.type T) "__getitem__" = pure (some (.builtin id))) (hs : NoSl slice)
    (h : wpAny (model prog w) A (eval value env) (fun o s₁ => wpAny (model prog w) A (eval slice env) (fun i s₂ => s₂.TypeIs o T ∧ wpAny (model prog w) A (getItem o i) Q E s₂) E s₁) E s) :
    wpAny (model prog w) A (eval (.Subscript value slice pos) env) Q E s := by
  refine Subscript_ (wpAny_mono h (fun o s₁ h₁ => wpAny_mono h₁ (fun i s₂ h₂ => ?_) fun _ _ x => x) fun _ _ x => x)
  obtain ⟨hT, h₂⟩ := h₂
  unfold subscriptTail
  refine wpAny_bind ?_
  rw [getitemInPython_of_ne hT.not_modules]
  refine wpAny_bind (wpAny_specialOf hT hl ?_)
  have fin : wpAny (model prog w) A (subscripted slice false o i) (fun r s₃ => wpAny (model prog w) A (letTemporaryGo value o r >>= fun _ => pure r) Q E s₃) E s₂ := by
    rw [hs o i]
    exact wpAny_operating (wpAny_mono h₂ (fun r s₃ h₃ => wpAny_bind (wpAny_letTemporaryGo (wpAny_pure h₃))) fun _ _ x => x)
  first
    | exact wpAny_pure (wpAny_bind fin)
    | exact wpAny_bind (wpAny_pure (wpAny_bind fin))
    | exact wpAny_bind fin

theorem dict_typeIs {X : Cx} {pins : List (Addr × Obj)} {σ : St} {H : Hp} {s : Shared} {a : Addr} {y : V} {o : Option V} (I : Inv X pins σ H s) (g : DGet H a y o) : s.TypeIs (.ref a) "dict" := by
  rcases g with ⟨kvs, k, e, _, _⟩ | ⟨kvs, k, b, e, _, _, _⟩
  · obtain ⟨_, _, vs, _, dd⟩ := dk_rd I.hok e
    exact dd.typeIs
  · obtain ⟨_, _, xs, _, dd⟩ := dt_rd I.hok e
    exact dd.typeIs
def tDGet (td ty : TE) : TE := fun σ H Q => td σ H fun x H1 => ty σ H1 fun y H2 => ∃ a v, x = .ref a ∧ DGet H2 a y (some v) ∧ Q v H2
def sDPut (td ty tv : TE) : TS := fun D σ H => tv σ H fun v H1 => td σ H1 fun x H2 => ty σ H2 fun y H3 => ∃ a H4, x = .ref a ∧ DPut H3 a y v H4 ∧ D.nx σ H4
section
variable {X : Cx} {o i e value : Expr} {pos pos' tpos : Pos} {td ty tv : TE}
theorem pe_dget (hu : X.A.units + 1 < cLine) (ho : PE X o td) (hi : PE X i ty) (hs : NoSl i) : PE X (.Subscript o i pos) (tDGet td ty) := by
  intro pins s σ H Q I h
  refine subD_of PySem.F.slot_dict_getitem.lookup hs (thn (ho pins s σ H _ I h) fun u s1 ⟨x, H1, I1, rx, q1⟩ => thn (hi pins s1 σ H1 _ I1 q1) fun iv s2 ⟨y, H2, I2, ry, a, v, ex, g, q2⟩ => ?_)
  subst ex
  obtain rfl : u = Value.ref a := rx
  exact ⟨dict_typeIs I2 g, d_getItem hu I2 g ry fun w' s3 I3 rw' => ⟨v, H2, I3, rw', q2⟩⟩
theorem ps_dput (hu : X.A.units + 1 < cLine) (ho : PE X o td) (hi : PE X i ty) (hv : PE X value tv) (hs : swapsWith value (some (.Subscript o i pos')) pos.line X.env = pure false) :
    PS X (.Assign [.Subscript o i pos'] value pos) (sDPut td ty tv) := by
  intro pins s σ H D I h
  refine wpAny_Assign_Subscript (thn (hv pins s σ H _ I h) fun r s1 ⟨v, H1, I1, rv, q1⟩ => thn (ho pins s1 σ H1 _ I1 q1) fun u s2 ⟨x, H2, I2, rx, q2⟩ => thn (hi pins s2 σ H2 _ I2 q2) fun iv s3 ⟨y, H3, I3, ry, a, H4, ex, g, q3⟩ => ?_) hs
  subst ex
  obtain rfl : u = Value.ref a := rx
  exact d_setItem hu I3 g ry rv fun s4 I4 => ⟨σ, H4, I4, q3⟩
end


/-! ### displays -/
theorem dk_empty {P : Program} {w : World} {H : Hp} (h : Heap) (hb : sysModules < h.objs.size) : ObjOk P w H (h.push { cls := .type "dict", data := .dict #[] }) h.objs.size (.dK []) :=
  ⟨Nat.zero_le _, beq_eq_false_iff_ne.mpr (Ne.symm (Nat.ne_of_lt hb)), [], .nil, Heap.DictOf.new h⟩
section
variable {X : Cx} {pos : Pos}
end

def tPairs : List (TE × TE) → St → Hp → (List (V × V) → Hp → Prop) → Prop
  | [], _, H, Q => Q [] H
  | (tk, tv) :: r, σ, H, Q => tk σ H fun x H1 => tv σ H1 fun y H2 => tPairs r σ H2 fun ps H3 => Q ((x, y) :: ps) H3
abbrev VV : List (V × V) → List (Value × Value) → Prop := Paired fun p q => RelV p.1 q.1 ∧ RelV p.2 q.2
def PPs (X : Cx) (pos : Pos) (keys : List (Option Expr)) (values : List Expr) (trs : List (TE × TE)) : Prop :=
  ∀ (pins : List (Addr × Obj)) (s : Shared) (σ : St) (H : Hp) (Q : List (V × V) → Hp → Prop), Inv X pins σ H s → tPairs trs σ H Q →
    wpAny (model X.prog X.w) X.A (evalPairs (pairTrees keys values X.env pos)) (fun vs s' => ∃ ps H', Inv X pins σ H' s' ∧ VV ps vs ∧ Q ps H') X.xe s
theorem pps_nil {X : Cx} {pos : Pos} : PPs X pos [] [] [] := fun pins s σ H Q I h => pairTrees_nil_walk ⟨[], H, I, .nil, h⟩
theorem pps_cons {X : Cx} {pos : Pos} {k v : Expr} {ks : List (Option Expr)} {vs : List Expr} {tk tv : TE} {trs : List (TE × TE)} (hk : PE X k tk) (hv : PE X v tv) (hr : PPs X pos ks vs trs) :
    PPs X pos (some k :: ks) (v :: vs) ((tk, tv) :: trs) := fun pins s σ H Q I h =>
  pairTrees_cons_walk (thn (hk pins s σ H _ I h) fun u s1 ⟨x, H1, I1, rx, q1⟩ => thn (hv pins s1 σ H1 _ I1 q1) fun w2 s2 ⟨y, H2, I2, ry, q2⟩ =>
    thn (hr pins s2 σ H2 _ I2 q2) fun ws s3 ⟨ps, H3, I3, rel, q3⟩ => ⟨(x, y) :: ps, H3, I3, .cons ⟨rx, ry⟩ rel, q3⟩)

def mergeK (kvs more : List (Key × V)) : List (Key × V) := more.foldl (fun acc kv => putK acc kv.1 kv.2) kvs
theorem KV.merge : ∀ {more : List (Key × V)} {rs : List (Key × Value)} {kvs : List (Key × V)} {vs : List (Key × Value)}, KV more rs → KV kvs vs → KV (mergeK kvs more) (merged vs rs) := by
  intro more rs kvs vs r
  unfold KV at r
  induction r generalizing kvs vs with
  | nil => intro q; exact q
  | @cons p q ps qs h t ih =>
    intro r0
    have e : KV (putK kvs p.1 p.2) (stored vs q.1 q.2) := by
      have := r0.put p.1 h.2
      rw [← h.1]; exact this
    exact ih e
theorem length_mergeK : ∀ (more kvs : List (Key × V)), (mergeK kvs more).length ≤ kvs.length + more.length
  | [], kvs => by show kvs.length ≤ kvs.length + 0; omega
  | p :: r, kvs => by
    have h1 := length_mergeK r (putK kvs p.1 p.2)
    have h2 := length_putK kvs p.1 p.2
    show (mergeK (putK kvs p.1 p.2) r).length ≤ _
    rw [List.length_cons]; omega
theorem carries_of {P : Program} {w : World} : ∀ {kvs : List (Key × V)} {ws : List (Value × Value)}, VV (kvs.map fun kv => (kV kv.1, kv.2)) ws → ∃ rs, Carries (mixKind P w) ws rs ∧ KV kvs rs
  | [], _, r => by rw [List.map_nil] at r; cases r; exact ⟨[], True.intro, .nil⟩
  | p :: kvs, _, r => by
    rw [List.map_cons] at r
    cases r with
    | @cons a b as bs h t =>
      obtain ⟨rs, c, q⟩ := carries_of (P := P) (w := w) t
      obtain ⟨b1, b2⟩ := b
      exact ⟨(p.1, b2) :: rs, ⟨kV_is h.1, rfl, c⟩, .cons ⟨rfl, h.2⟩ q⟩
def tDisp (trs : List (TE × TE)) : TE := fun σ H Q => ∀ p, H p = none → tPairs trs σ (upd H p (.dK [])) fun ps H2 => H2 p = some (.dK []) ∧ ∃ kvs : List (Key × V), ps = kvs.map (fun kv => (kV kv.1, kv.2)) ∧ kvs.length ≤ 15 ∧ Q (.ref p) (upd H2 p (.dK (mergeK [] kvs)))
theorem pe_disp {X : Cx} {pos : Pos} {keys : List (Option Expr)} {values : List Expr} {trs : List (TE × TE)} (h : PPs X pos keys values trs) (hall : keys.all (·.isSome) = true) (hl : keys.length = values.length) (h0 : keys ≠ [])
    (h15 : keys.length ≤ 15) : PE X (.Dict keys values pos) (tDisp trs) := by
  intro pins s σ H Q I q
  have hn := I.hok.fresh (Nat.le_refl s.heap.objs.size)
  have I1 := I.laid (a := s.heap.objs.size) (o := .dK []) (h' := s.heap.push { cls := .type "dict", data := .dict #[] }) (t' := s.toks) (fun _ _ q => Heap.get?_push_of_some _ q) (Nat.le_refl _) (dk_empty s.heap I.big)
  refine wpAny_Dict_walk (knd := mixKind X.prog X.w) hall hl h0 h15 (thn (h pins _ σ _ _ I1 (q _ hn)) fun ws s2 ⟨ps, H2, I2, rel, e, kvs, ep, lk, q2⟩ => ?_)
  subst ep
  obtain ⟨rs, c, rk⟩ := carries_of (P := X.prog) (w := X.w) rel
  obtain ⟨z, hd, vs0, r0, dd⟩ := dk_of I2.hok e
  cases r0
  refine ⟨rs, c, dd, fun h' dd' hs => ⟨.ref s.heap.objs.size, _, ?_, rfl, q2⟩⟩
  have hz : (mergeK [] kvs).length ≤ sizeLine := by
    have h1 := length_mergeK kvs []
    rw [List.length_nil] at h1
    rw [sizeLine_eq]; omega
  have he : ∃ q, h'.get? s.heap.objs.size = some q := let ⟨q, _, _, hq, _⟩ := dd'; ⟨q, hq⟩
  exact d_write I2 (by rw [e]; exact True.intro) hs he (dk_new hz hd (rk.merge .nil) dd')


/-! ### methods -/
structure M2 (X : Cx) (o : Expr) (m : Str) (apos : Pos) (e f : Expr) (cpos : Pos) : Prop where
  base : attributeBase o m X.env (eval o X.env) = eval o X.env
  few : ((backTo cpos (starEach [e, f] X.env)).all (fun x => !x.1) && (backToKw cpos (keywordEach [] X.env)).all (fun x => x.1.isSome)
    && decide (([e, f] : List Expr).length + ([] : List Keyword).length + (if ([] : List Keyword).isEmpty then 0 else 1) < 30)) = true
  line : (apos.endLine == cpos.line) = true
  trees : backTo cpos (starEach [e, f] X.env) = [(false, eval e X.env), (false, eval f X.env)]

def IsD (H : Hp) (a : Addr) : Prop := (∃ kvs, Rd H a (.dK kvs)) ∨ ∃ kvs, Rd H a (.dT kvs)
theorem isD_at {X : Cx} {pins : List (Addr × Obj)} {σ : St} {H : Hp} {s : Shared} {a : Addr} (I : Inv X pins σ H s) (d : IsD H a) :
    s.TypeIs (.ref a) "dict" ∧ (∀ b, Value.ref a = .ref b → ∃ ob, s.heap.get? b = some ob ∧ ob.dict = none) ∧ (a == sysModules) = false := by
  rcases d with ⟨kvs, e⟩ | ⟨kvs, e⟩
  · obtain ⟨_, hd, vs, _, dd⟩ := dk_rd I.hok e
    refine ⟨dd.typeIs, fun b q => ?_, hd⟩
    cases q
    obtain ⟨ob, _, _, h1, h2, _⟩ := dd
    exact ⟨ob, h1, h2.2.1⟩
  · obtain ⟨_, hd, xs, _, dd⟩ := dt_rd I.hok e
    refine ⟨dd.typeIs, fun b q => ?_, hd⟩
    cases q
    obtain ⟨ob, _, _, h1, h2, _⟩ := dd
    exact ⟨ob, h1, h2.2.1⟩

section
variable {X : Cx} {pins : List (Addr × Obj)} {σ : St} {H : Hp} {s : Shared} {a : Addr} {y d : V} {u r : Value} {o : Option V} {A : Around} {E : Value → Shared → Prop}
theorem d_get2 {Q : Value → Shared → Prop} (hu : A.units + 1 < cLine) (I : Inv X pins σ H s) (g : DGet H a y o) (ry : RelV y u) (rd : RelV d r) (h : ∀ w' s', Inv X pins σ H s' → RelV (o.getD d) w' → Q w' s') :
    wpAny (model X.prog X.w) A (call (.builtin "dict.get") [.ref a, u, r]) Q E s := by
  rcases g with ⟨kvs, k, e, ey, l⟩ | ⟨kvs, k, b, e, ey, eb, l⟩
  · subst ey
    obtain ⟨z, hd, vs, rel, dd⟩ := dk_rd I.hok e
    refine call_meetsIn PySem.F.slot_dict_get dd.typeIs PySem.F.entry_dict_get (PySem.F.args_dict_get_3 _ _ _) (meets_dict_get_default (mixKind X.prog X.w) a (kV_is ry) hd r) ⟨_, dd.mapOf, h _ _ (I.tok _) ?_⟩
    rw [l]
    exact (rel.val k).getD rd
  · subst ey
    cases (show u = Value.ref b from ry)
    obtain ⟨z, hd, xs, rel, dd⟩ := dt_rd I.hok e
    refine call_meetsIn PySem.F.slot_dict_get dd.typeIs PySem.F.entry_dict_get (PySem.F.args_dict_get_3 _ _ _) (meetsH_dict_get_default (tupleKind (mixKind X.prog X.w)) a b hd r) ⟨tupleKind_room_in1 hu, k, xs, key_of I.hok eb, dd, h _ _ (I.tok _) ?_⟩
    rw [l]
    exact (rel.val k).getD rd
end

def tDGet2 (td ty tx : TE) : TE := fun σ H Q => td σ H fun x H1 => ∃ a, x = .ref a ∧ IsD H1 a ∧ ty σ H1 fun y H2 => tx σ H2 fun z H3 => ∃ o, DGet H3 a y o ∧ Q (o.getD z) H3
section
variable {X : Cx} {o e f : Expr} {apos cpos : Pos} {td ty tx : TE}
theorem pe_dget2 (hu : X.A.units + 1 < cLine) (ho : PE X o td) (he : PE X e ty) (hf : PE X f tx) (m : M2 X o "get" apos e f cpos) : PE X (.Call (.Attribute o "get" apos) [e, f] [] cpos) (tDGet2 td ty tx) := by
  intro pins s σ H Q I h
  refine wpAny_Call_method m.base m.few m.line PySem.F.plainAttrs_dict PySem.F.slot_dict_get PySem.F.type_dict_get (thn (ho pins s σ H _ I h) fun u s1 ⟨x, H1, I1, rx, a, ex, d, q1⟩ => ?_)
  subst ex
  obtain rfl : u = Value.ref a := rx
  obtain ⟨t1, t2, _⟩ := isD_at I1 d
  refine ⟨t1, t2, ?_⟩
  rw [m.trees]
  refine Calls.callWith_builtin rfl (Calls.evalArgs_plain (Calls.spliced_cons (thn (he pins s1 σ H1 _ I1 q1) fun iv s2 ⟨y, H2, I2, ry, q2⟩ =>
    Calls.spliced_cons (thn (hf pins s2 σ H2 _ I2 q2) fun fv s3 ⟨z, H3, I3, rz, ov, g, q3⟩ => Calls.spliced_nil ?_))))
  exact d_get2 hu I3 g ry rz fun w' s4 I4 rw' => ⟨_, H3, I4, rw', q3⟩
end

/-! ### dict(d): a copy -/
section
variable {X : Cx} {pins : List (Addr × Obj)} {σ : St} {H : Hp} {s : Shared} {a : Addr} {kvs : List (Key × V)} {A : Around} {E : Value → Shared → Prop}
end


section
variable {X : Cx} {pins : List (Addr × Obj)} {σ : St} {H : Hp} {s : Shared} {a : Addr} {y : V} {u : Value} {A : Around} {E : Value → Shared → Prop}
end
section
variable {X : Cx}
end
end L2

set_option Elab.async false
set_option linter.all false
set_option maxRecDepth 100000
set_option maxHeartbeats 4000000
namespace L2
open PySem PySem.Spec PyProof.Rows
theorem Room.u1 {k : Nat} {A : Around} (r : Room k A) : A.units + 1 < cLine := by have := r.units; omega
/-! ## defs with defaults -/
section
variable {P : Program} {w : World} {K : PySem.W.Frag} {mg : Str → Option Value} {base : Heap}
end
section
variable {X : Cx} {CX : CXT} {j k : Nat} {ps : List Str} {sp : Sp} {dvs : List V} {E : XK} {x : Str} {p pos : Pos} {e : Expr} {es : List Expr} {t : TA}
end
/-! ## a call of what an expression tells -/
section
variable {X : Cx} {CX : CXT} {k : Nat} {E : XK} {func e : Expr} {es : List Expr} {pos : Pos} {tf : TE} {t : TA}
end
/-! ## a dict of the module: texts to objects -/
section
variable {prog : Program} {w : World} {K : PySem.W.Frag} {a : Addr} {ps : List (List Nat × Tok × Addr)}
end
section
variable {X : Cx} {o i : Expr} {td ty : TE} {pos : Pos}
end
end L2

set_option Elab.async false
set_option linter.all false
set_option maxRecDepth 100000
set_option maxHeartbeats 4000000
namespace L2
open PySem PySem.Spec PyProof.Rows PySem.StrLaws
/-! ## own classes: a method, a new instance -/
structure OwnM (P : Program) (w : World) (K : PySem.W.Frag) (mg : Str → Option Value) (base : Heap) (CX : CXT) (k : Nat) (C : Addr) (m : Str) (ps : List Str) (sp : Sp) : Prop where
  ex : ∃ f fd, Cls K C ∧ Meth K C m f ∧ FnOk P w K mg base CX k f fd ps sp ∧ Binds K fd ps []
structure OwnMk (P : Program) (w : World) (K : PySem.W.Frag) (mg : Str → Option Value) (base : Heap) (CX : CXT) (k : Nat) (C : Addr) (x : Str) (ps : List Str) (sp : Sp) : Prop where
  ex : ∃ f fd, Mk K C f ∧ FnOk P w K mg base CX k f fd ps sp ∧ Binds K fd ps [] ∧ mg x = some (.ref C)
section
variable {X : Cx} {CX : CXT} {j k : Nat} {C : Addr} {ps : List Str} {sp : Sp} {E : XK} {x m : Str} {p pos apos : Pos} {e o : Expr} {es : List Expr} {ta : TE} {t : TA}
theorem pe_ownM {pl : Sem Bool} (O : OwnM X.prog X.w X.K X.mg X.base CX j C m ps sp) (hr : Room k X.A) (he : PE X o ta) (hx : Passes CX X E) (ha : PA X (e :: es) t) (hj : j ≤ k := by decide)
    (hst : starEach (e :: es) X.env = (false, eval e X.env) :: starEach es X.env := by rfl) (hpl : (backTo pos (starEach es X.env)).any (·.1) = false := by rfl)
    (ht : eval (.Call (.Attribute o m apos) (e :: es) [] pos) X.env = (do
      let ov ← eval o X.env
      standAt apos.atName
      let (f, first) ← holding [ov] (getMethod ov m pl)
      callWith pos f first (backTo pos (starEach (e :: es) X.env)) (backToKw pos (keywordEach [] X.env))) := by rfl) :
    PE X (.Call (.Attribute o m apos) (e :: es) [] pos) (tMeth C m sp [] E ta t) := by
  obtain ⟨f, fd, c, hm, F, b⟩ := O.ex
  exact pe_meth he c hm F (hr.mono hj) b .nil hx ha hst hpl ht
theorem pe_ownMk (O : OwnMk X.prog X.w X.K X.mg X.base CX j C x ps sp) (hr : Room k X.A) (hg : Gl X x) (hx : Passes CX X E) (ha : PA X (e :: es) t) (hj : j + 1 ≤ k := by decide) (hdb : (x == ("__debug__" : Str)) = false := by decide)
    (he : starEach (e :: es) X.env = (false, eval e X.env) :: starEach es X.env := by rfl) (hpl : (backTo pos (starEach es X.env)).any (·.1) = false := by rfl) : PE X (.Call (.Name x p) (e :: es) [] pos) (tMake C sp [] E t) := by
  obtain ⟨f, fd, M, F, b, hm⟩ := O.ex
  exact pe_make M F (hr.mono hj) hg hm b .nil hx ha hdb he hpl
end
def Upto (p : Addr) (H H' : Hp) : Prop := ∀ a u, a ≠ p → H a = some u → H' a = some u
theorem Upto.refl (p : Addr) (H : Hp) : Upto p H H := fun _ _ _ h => h
theorem Upto.trans {p : Addr} {H1 H2 H3 : Hp} (h : Upto p H1 H2) (g : Upto p H2 H3) : Upto p H1 H3 := fun a u n e => g a u n (h a u n e)
theorem Same.upto {H H' : Hp} (h : Same H H') (p : Addr) : Upto p H H' := fun a u _ e => h a u e
theorem upto_upd (p : Addr) (H : Hp) (o : HO) : Upto p H (upd H p o) := fun a u n e => by rw [upd_ne n]; exact e
end L2

set_option Elab.async false
set_option linter.all false
set_option maxRecDepth 100000
set_option maxHeartbeats 4000000
namespace L2
open PySem PySem.Spec PyProof.Rows PySem.StrLaws
/-! ## a dict of the module: texts to texts -/
abbrev EntS := List Nat × Tok × List Nat × Tok
def entsS (w : World) (ps : List EntS) : List DictEntry := ps.map fun p => { hash := PyData.keyHash w.params (S p.1), key := .str (S p.1) p.2.1, val := .str (S p.2.2.1) p.2.2.2 }
structure KDictS (K : PySem.W.Frag) (w : World) (a : Addr) (ps : List EntS) : Prop where
  at_ : ∃ ep, K.lookup a = some { cls := .type "dict", dict := none, data := .dict (entsS w ps).toArray ep, slots := #[] }
  sys : (a == sysModules) = false
def sAt : List EntS → List Nat → Option (List Nat × Tok)
  | [], _ => none
  | (k, _, v) :: r, x => if k = x then some v else sAt r x
section
variable {prog : Program} {w : World} {K : PySem.W.Frag} {a : Addr} {ps : List EntS}
theorem entsS_keys : KeysOf (strKind prog w) (entsS w ps).toArray := by
  intro e he
  have he' : e ∈ entsS w ps := by simpa using he
  obtain ⟨p, _, rfl⟩ := List.mem_map.mp he'
  exact ⟨S p.1, by show (S p.1 == S p.1) = true; simp, rfl⟩
theorem entsS_find (x : List Nat) : findBy (strKind prog w).is (entsS w ps).toArray (S x) = (sAt ps x).map fun v => Value.str (S v.1) v.2 := by
  unfold findBy
  induction ps with
  | nil => rfl
  | cons p r ih =>
    obtain ⟨k, t, v⟩ := p
    have e : (entsS w ((k, t, v) :: r)).toArray.find? (fun e => (strKind prog w).is (S x) e.key) = if (S k == S x) = true then some { hash := PyData.keyHash w.params (S k), key := .str (S k) t, val := .str (S v.1) v.2 } else (entsS w r).toArray.find? (fun e => (strKind prog w).is (S x) e.key) := by
      rw [← Array.find?_toList, ← Array.find?_toList]
      show List.find? _ (_ :: entsS w r) = _
      rw [List.find?_cons]
      show (match (S k == S x) with | true => _ | false => _) = _
      cases (S k == S x) <;> rfl
    rw [e]
    unfold sAt
    by_cases h : k = x
    · subst h
      rw [if_pos (by simp), if_pos rfl]
      rfl
    · have h' : ¬ S k = S x := fun z => h (S_inj z)
      rw [if_neg (by simpa using h'), if_neg h]
      exact ih
theorem KDictS.map (D : KDictS K w a ps) {h : Heap} (X : K.In h) : h.MapOf (strKind prog w) a (fun x => findBy (strKind prog w).is (entsS w ps).toArray x) := by
  obtain ⟨ep, e⟩ := D.at_
  exact ⟨_, _, ep, X _ _ e, ⟨rfl, rfl, rfl⟩, rfl, entsS_keys, fun _ => rfl⟩
end
def tSGet (K : PySem.W.Frag) (w : World) (td ty : TE) : TE := fun σ H Q => td σ H fun x H1 => ty σ H1 fun y H2 => ∃ a ps l v, x = .ref a ∧ KDictS K w a ps ∧ y = .str (S l) ∧ sAt ps l = some v ∧ Q (.str (S v.1)) H2
section
variable {X : Cx} {o i f : Expr} {td ty tx : TE} {pos apos cpos : Pos}
theorem pe_sget (ho : PE X o td) (hi : PE X i ty) (hs : NoSl i) : PE X (.Subscript o i pos) (tSGet X.K X.w td ty) := by
  intro pins s σ H Q I h
  refine subD_of PySem.F.slot_dict_getitem.lookup hs (thn (ho pins s σ H _ I h) fun u s1 ⟨x, H1, I1, rx, q1⟩ => thn (hi pins s1 σ H1 _ I1 q1) fun iv s2 ⟨y, H2, I2, ry, a, ps, l, v, ex, D, ey, hv, q2⟩ => ?_)
  subst ex ey
  obtain rfl : u = Value.ref a := rx
  obtain ⟨t, rfl⟩ := ry
  have M := D.map (prog := X.prog) I2.kIn
  refine ⟨M.typeIs, wpAny_getItem_of (k := S l) (v := .str (S v.1) v.2) (by show (S l == S l) = true; simp) M (by rw [entsS_find, hv]; rfl) ⟨.str (S v.1), H2, I2.tok _, ⟨_, rfl⟩, q2⟩⟩
end
end L2

set_option Elab.async false
set_option linter.all false
set_option maxRecDepth 100000
set_option maxHeartbeats 4000000
namespace L2
/-! ## the row of a place -/
end L2
namespace L2
end L2

set_option Elab.async false
set_option linter.all false
set_option maxRecDepth 100000
set_option maxHeartbeats 4000000
namespace L2
open PySem
/-! ## the first one from a on, the last one ahead of a -/
/-! ## the moves -/
def nV (n : Nat) : V := .int (n : Int)
end L2

set_option Elab.async false
set_option linter.all false
set_option maxRecDepth 100000
set_option maxHeartbeats 4000000
namespace L2
open PySem PySem.Spec PyProof.Rows
/-! ## comprehensions that take names from around -/
section
variable {X : Cx} {scope sc : Scope} {NB NN : List Str} {ix : List (Option Nat)} {pins : List (Addr × Obj)} {σ : St} {H : Hp} {s : Shared}
end
end L2

set_option Elab.async false
set_option linter.all false
set_option maxRecDepth 100000
set_option maxHeartbeats 4000000
namespace L2
open PySem PySem.Spec PyProof.Rows
/-! ## sum, max, min of a list of whole numbers; for over a text -/
section
variable {X : Cx} {tg : Expr}
/-! the signs of a text, one by one -/
end
end L2

set_option Elab.async false
set_option linter.all false
set_option maxRecDepth 100000
set_option maxHeartbeats 4000000
namespace L2
open PySem PySem.Spec PyProof.Rows
/-! comprehensions that keep what a test lets by -/
/-! the first and the last of a list of places -/
theorem iteNF {c A B : Prop} [Decidable c] (hc : ¬ c) (h : A) : if (!decide c) = true then A else B := by
  rw [decide_eq_false hc]
  exact iteT h
end L2

set_option Elab.async false
set_option linter.all false
set_option maxRecDepth 100000
set_option maxHeartbeats 4000000
namespace L2
open PySem PySem.Spec PyProof.Rows PySem.StrLaws
open Sem (wp)
/-! ## int of a text of one to three figures -/
theorem noInt : typeLookup (.type "str") "__int__" = pure none := by kernel_rfl
theorem noIndex : typeLookup (.type "str") "__index__" = pure none := by kernel_rfl
theorem noTrunc : typeLookup (.type "str") "__trunc__" = pure none := by kernel_rfl
def Dg (c : Nat) : Prop := 48 ≤ c ∧ c ≤ 57
theorem Dg.or {c : Nat} (h : Dg c) : c = 48 ∨ c = 49 ∨ c = 50 ∨ c = 51 ∨ c = 52 ∨ c = 53 ∨ c = 54 ∨ c = 55 ∨ c = 56 ∨ c = 57 := by
  obtain ⟨h1, h2⟩ := h
  omega
theorem meets_int_1 (a : Nat) (u : Tok) (ha : Dg a) : Meets (Builtin.«int.__new__» ⟨[.type "int", .str ⟨#[a]⟩ u], []⟩) (Made.int ((a - 48 : Nat) : Int)).spec :=
  Meets.of_wp fun prog w A R s hs => by
    obtain ⟨hp, g, d, tk, os⟩ := s
    have f1 := F.conv_sub_int
    have f2 := F.madeHere_int
    have f3 := noInt
    have f4 := noIndex
    have f5 := noTrunc
    have hT : (⟨hp, g, d, tk, os⟩ : Shared).TypeIs (.str ⟨#[a]⟩ u) "str" := rfl
    repeat (any_goals (first | assumption | wp_step))
    clear f1 f2 f3 f4 f5 hT
    refine Eq.mpr (congrArg (fun m => wpAny _ _ m _ _ _) (?e : _ = mkInt ((a - 48 : Nat) : Int))) ?w
    case w =>
      refine wpAny_mkInt ?_
      repeat (any_goals (first | assumption | wp_step))
      exact ⟨_, rfl, hs⟩
    clear hs
    rcases ha.or with rfl | rfl | rfl | rfl | rfl | rfl | rfl | rfl | rfl | rfl
    all_goals kernel_rfl
theorem meets_int_2 (a b : Nat) (u : Tok) (ha : Dg a) (hb : Dg b) : Meets (Builtin.«int.__new__» ⟨[.type "int", .str ⟨#[a, b]⟩ u], []⟩) (Made.int (((a - 48) * 10 + (b - 48) : Nat) : Int)).spec :=
  Meets.of_wp fun prog w A R s hs => by
    obtain ⟨hp, g, d, tk, os⟩ := s
    have f1 := F.conv_sub_int
    have f2 := F.madeHere_int
    have f3 := noInt
    have f4 := noIndex
    have f5 := noTrunc
    have hT : (⟨hp, g, d, tk, os⟩ : Shared).TypeIs (.str ⟨#[a, b]⟩ u) "str" := rfl
    repeat (any_goals (first | assumption | wp_step))
    clear f1 f2 f3 f4 f5 hT
    refine Eq.mpr (congrArg (fun m => wpAny _ _ m _ _ _) (?e : _ = mkInt (((a - 48) * 10 + (b - 48) : Nat) : Int))) ?w
    case w =>
      refine wpAny_mkInt ?_
      repeat (any_goals (first | assumption | wp_step))
      exact ⟨_, rfl, hs⟩
    clear hs
    rcases ha.or with rfl | rfl | rfl | rfl | rfl | rfl | rfl | rfl | rfl | rfl <;> rcases hb.or with rfl | rfl | rfl | rfl | rfl | rfl | rfl | rfl | rfl | rfl
    all_goals kernel_rfl
theorem meets_int_3 (a b c : Nat) (u : Tok) (ha : Dg a) (hb : Dg b) (hc : Dg c) : Meets (Builtin.«int.__new__» ⟨[.type "int", .str ⟨#[a, b, c]⟩ u], []⟩) (Made.int (((a - 48) * 100 + (b - 48) * 10 + (c - 48) : Nat) : Int)).spec :=
  Meets.of_wp fun prog w A R s hs => by
    obtain ⟨hp, g, d, tk, os⟩ := s
    have f1 := F.conv_sub_int
    have f2 := F.madeHere_int
    have f3 := noInt
    have f4 := noIndex
    have f5 := noTrunc
    have hT : (⟨hp, g, d, tk, os⟩ : Shared).TypeIs (.str ⟨#[a, b, c]⟩ u) "str" := rfl
    repeat (any_goals (first | assumption | wp_step))
    clear f1 f2 f3 f4 f5 hT
    refine Eq.mpr (congrArg (fun m => wpAny _ _ m _ _ _) (?e : _ = mkInt (((a - 48) * 100 + (b - 48) * 10 + (c - 48) : Nat) : Int))) ?w
    case w =>
      refine wpAny_mkInt ?_
      repeat (any_goals (first | assumption | wp_step))
      exact ⟨_, rfl, hs⟩
    clear hs
    rcases ha.or with rfl | rfl | rfl | rfl | rfl | rfl | rfl | rfl | rfl | rfl <;> rcases hb.or with rfl | rfl | rfl | rfl | rfl | rfl | rfl | rfl | rfl | rfl <;> rcases hc.or with rfl | rfl | rfl | rfl | rfl | rfl | rfl | rfl | rfl | rfl
    all_goals kernel_rfl
end L2

set_option Elab.async false
set_option linter.all false
set_option maxRecDepth 100000
set_option maxHeartbeats 4000000
namespace L2
open PySem PySem.Spec PyProof.Rows PySem.StrLaws
def numL (l : List Nat) : Nat := l.foldl (fun n c => n * 10 + (c - 48)) 0
section
variable {X : Cx}
theorem call_intS : CallR X (.type "int") (fun xs H Q => ∃ l : List Nat, xs = [.str (S l)] ∧ 1 ≤ l.length ∧ l.length ≤ 3 ∧ (∀ c ∈ l, Dg c) ∧ Q (.int ((numL l : Nat) : Int)) H) := by
  intro pins s σ H xs us Q I r h
  obtain ⟨l, rfl, h1, h3, hd, q⟩ := h
  obtain ⟨u, rfl, t, rfl⟩ := r.one
  match l, h1, h3, hd, q with
  | [a], _, _, hd, q =>
    have m := meets_int_1 a t (hd a (by simp))
    rw [show a - 48 = numL [a] by show _ = 0 * 10 + (a - 48); omega] at m
    exact call_int_1 m (show (Made.int ((numL [a] : Nat) : Int)).post _ s from ⟨rfl, .int ((numL [a] : Nat) : Int), H, I.tok _, ⟨_, rfl⟩, q⟩)
  | [a, b], _, _, hd, q =>
    have m := meets_int_2 a b t (hd a (by simp)) (hd b (by simp))
    rw [show (a - 48) * 10 + (b - 48) = numL [a, b] by show _ = (0 * 10 + (a - 48)) * 10 + (b - 48); omega] at m
    exact call_int_1 m (show (Made.int ((numL [a, b] : Nat) : Int)).post _ s from ⟨rfl, .int ((numL [a, b] : Nat) : Int), H, I.tok _, ⟨_, rfl⟩, q⟩)
  | [a, b, c], _, _, hd, q =>
    have m := meets_int_3 a b c t (hd a (by simp)) (hd b (by simp)) (hd c (by simp))
    rw [show (a - 48) * 100 + (b - 48) * 10 + (c - 48) = numL [a, b, c] by show _ = ((0 * 10 + (a - 48)) * 10 + (b - 48)) * 10 + (c - 48); omega] at m
    exact call_int_1 m (show (Made.int ((numL [a, b, c] : Nat) : Int)).post _ s from ⟨rfl, .int ((numL [a, b, c] : Nat) : Int), H, I.tok _, ⟨_, rfl⟩, q⟩)
end
end L2

set_option Elab.async false
set_option linter.all false
set_option maxRecDepth 100000
set_option maxHeartbeats 4000000
namespace L2
open PySem PySem.Spec PyProof.Rows
/-! dict(d), == and != of dicts with the same pairs -/
section
variable {X : Cx}
theorem eqV_self {x : V} (h : flatV x = true) : eqV x x = true := by
  cases x with
  | non => rfl
  | bl b => show (b == b) = true; simp
  | int i => show (i == i) = true; simp
  | str y => show (y == y) = true; simp
  | byt _ => cases h
  | flt _ => cases h
  | ref _ => cases h
  | ty _ => cases h
end
end L2

set_option Elab.async false
set_option linter.all false
set_option maxRecDepth 100000
set_option maxHeartbeats 4000000
namespace L2
open PySem PySem.Spec PyProof.Rows PySem.StrLaws
/-! ## lists of tuples: == of two whose tuples hold the same -/
section
variable {X : Cx}
theorem eqs_self {xs : List V} (h : xs.all flatV = true) (e : ∀ x ∈ xs, eqV x x = true) : eqs xs xs = true := by
  induction xs with
  | nil => rfl
  | cons x xs ih =>
    unfold eqs
    rw [e x (List.mem_cons_self ..), Bool.true_and]
    refine ih ?_ (fun y hy => e y (List.mem_cons_of_mem _ hy))
    rw [List.all_cons, Bool.and_eq_true] at h
    exact h.2
end
/-! ## a list of pairs of numbers -/
end L2

set_option Elab.async false
set_option linter.all false
set_option maxRecDepth 100000
set_option maxHeartbeats 4000000
namespace L2
open PySem PySem.Spec PyProof.Rows PySem.StrLaws
theorem call_intB {X : Cx} : CallR X (.type "int") (fun xs H Q => ∃ b : Bool, xs = [.bl b] ∧ Q (.int (if b = true then 1 else 0)) H) := by
  intro pins s σ H xs us Q I r h
  obtain ⟨b, rfl, q⟩ := h
  obtain ⟨u, rfl, rx⟩ := vals1 r
  cases rx
  exact call_int_bool ⟨.int _, H, I.tok _, ⟨_, rfl⟩, q⟩
end L2

set_option Elab.async false
set_option linter.all false
set_option maxRecDepth 100000
set_option maxHeartbeats 4000000
namespace L2
open PySem PySem.Spec PyProof.Rows PySem.StrLaws
/-! comprehensions with any target: a tuple of names -/
section
variable {X : Cx} {scope : Scope} {cl : List (Str × Addr)} {NB : List Str} {ix : List (Option Nat)} {fp : List Addr} {pins : List (Addr × Obj)} {σ : St} {H : Hp} {s : Shared}
end
section
variable {X : Cx} {scope : Scope} {cl : List (Str × Addr)} {NB : List Str} {ix : List (Option Nat)} {fp : List Addr} {pins : List (Addr × Obj)} {σ : St} {H : Hp} {s : Shared}
end
section
variable {X : Cx} {scope sc : Scope} {NB NN : List Str} {ix : List (Option Nat)} {pins : List (Addr × Obj)} {σ : St} {H : Hp} {s : Shared}
end
end L2

set_option Elab.async false
set_option linter.all false
set_option maxRecDepth 100000
set_option maxHeartbeats 4000000
namespace L2
open PySem PySem.Spec PyProof.Rows PySem.StrLaws
/-! ## a list of tuples -/
/-! ## == of tuples that hold lists or tuples of flat values -/
def Eq1 (K : PySem.W.Frag) (H : Hp) (a b : V) : Prop := (flatV a = true ∧ flatV b = true ∧ eqV a b = true) ∨ ∃ p q zs, a = .ref p ∧ b = .ref q ∧ ((SqL K H p zs ∧ SqL K H q zs) ∨ (SqT K H p zs ∧ SqT K H q zs)) ∧ zs.all flatV = true ∧ eqs zs zs = true
section
variable {X : Cx}
theorem eq1_at {pins : List (Addr × Obj)} {s : Shared} {σ : St} {H : Hp} {A : Around} {a b : V} {u v : Value} (I : Inv X pins σ H s) (hu : A.units < cLine) (ra : RelV a u) (rb : RelV b v) (h : Eq1 X.K H a b) : SeqAt.EqAt A s u v true := by
  rcases h with ⟨fa, fb, e⟩ | ⟨p, q, zs, rfl, rfl, hq, fz, ez⟩
  · have := eqAt_V (A := A) (s := s) ra rb fa fb
    rw [e] at this
    exact this
  · cases ra
    cases rb
    by_cases e : p = q
    · subst e; exact SeqAt.EqAt.same _
    refine SeqAt.EqAt.of_refs e ?_
    have el : ∀ {us ws : List Value}, Vals zs us → Vals zs ws → ∀ (j : Nat) (h1 : j < us.toArray.size) (h2 : j < ws.toArray.size), SeqAt.EqAt A.in1 s us.toArray[j] ws.toArray[j] (eqAtJ zs zs j) := fun ru rw' j ja jb => by
      obtain ⟨x, e3, rx⟩ := ru.at ja
      obtain ⟨y, e4, ry⟩ := rw'.at jb
      rw [e3] at e4
      cases e4
      have e : eqAtJ zs zs j = eqV x x := by unfold eqAtJ; rw [e3]
      rw [e]
      exact eqAt_V rx ry (flat_at fz e3) (flat_at fz e3)
    rcases hq with ⟨h1, h2⟩ | ⟨h1, h2⟩
    · obtain ⟨us, ru, tu, _⟩ := I.list h1
      obtain ⟨ws, rw', tw, _⟩ := I.list h2
      have e1 : us.toArray.size = zs.length := by rw [List.size_toArray, ru.length]
      have e2 : ws.toArray.size = zs.length := by rw [List.size_toArray, rw'.length]
      have R := SeqAt.RcAt.lists (A := A) (e := eqAtJ zs zs) tu.isList tw.isList (by rw [e1, e2]) hu (el ru rw')
      rw [e1, eqs_all rfl, ez] at R
      exact R
    · obtain ⟨us, ru, tu, _⟩ := I.tuple h1
      obtain ⟨ws, rw', tw, _⟩ := I.tuple h2
      have e1 : us.toArray.size = zs.length := by rw [List.size_toArray, ru.length]
      have e2 : ws.toArray.size = zs.length := by rw [List.size_toArray, rw'.length]
      have R := SeqAt.RcAt.tuples (A := A) (e := eqAtJ zs zs) (show s.heap.IsTuple p us.toArray from tu) (show s.heap.IsTuple q ws.toArray from tw) hu (el ru rw')
      rw [e1, e2, Nat.min_self, eqs_all rfl, ez, beq_self_eq_true] at R
      exact R
theorem op_eqS (hu : X.A.units + 1 < cLine) : OpR X (compareOp .Eq) (fun x y H Q => ∃ (p q : Addr) (xs ys : List V), x = .ref p ∧ y = .ref q ∧ ((SqL X.K H p xs ∧ SqL X.K H q ys) ∨ (SqT X.K H p xs ∧ SqT X.K H q ys)) ∧ xs.length = ys.length ∧ (∀ (j : Nat) (a b : V), xs[j]? = some a → ys[j]? = some b → Eq1 X.K H a b) ∧ Q (.bl true) H) := by
  intro pins s σ H x y v u Q I rx ry h
  obtain ⟨p, q, xs, ys, rfl, rfl, hq, hlen, hat, w⟩ := h
  cases rx
  cases ry
  have el : ∀ {us ws : List Value}, Vals xs us → Vals ys ws → ∀ (j : Nat) (h1 : j < us.toArray.size) (h2 : j < ws.toArray.size), SeqAt.EqAt X.A.in1 s us.toArray[j] ws.toArray[j] ((fun _ => true) j) := fun ru rw' j ja jb => by
    obtain ⟨x, e3, rx⟩ := ru.at ja
    obtain ⟨y, e4, ry⟩ := rw'.at jb
    exact eq1_at I hu rx ry (hat j x y e3 e4)
  rcases hq with ⟨h1, h2⟩ | ⟨h1, h2⟩
  · obtain ⟨us, ru, tu, _⟩ := I.list h1
    obtain ⟨ws, rw', tw, _⟩ := I.list h2
    refine SeqAt.eq_listAt (e := fun _ => true) tu.isList tw.isList (by rw [List.size_toArray, List.size_toArray, ← ru.length, ← rw'.length, hlen]) (by omega) (el ru rw') ?_
    rw [all_true]
    exact ⟨.bl true, H, I, rfl, w⟩
  · obtain ⟨us, ru, tu, _⟩ := I.tuple h1
    obtain ⟨ws, rw', tw, _⟩ := I.tuple h2
    refine SeqAt.eq_tupleAt (e := fun _ => true) (show s.heap.IsTuple p us.toArray from tu) (show s.heap.IsTuple q ws.toArray from tw) (by omega) (el ru rw') ?_
    have e : us.toArray.size = ws.toArray.size := by rw [List.size_toArray, List.size_toArray, ← ru.length, ← rw'.length, hlen]
    rw [all_true, e, beq_self_eq_true]
    exact ⟨.bl true, H, I, rfl, w⟩
theorem op_neS (hu : X.A.units + 1 < cLine) : OpR X (compareOp .NotEq) (fun x y H Q => ∃ (p q : Addr) (xs ys : List V), x = .ref p ∧ y = .ref q ∧ ((SqL X.K H p xs ∧ SqL X.K H q ys) ∨ (SqT X.K H p xs ∧ SqT X.K H q ys)) ∧ xs.length = ys.length ∧ (∀ (j : Nat) (a b : V), xs[j]? = some a → ys[j]? = some b → Eq1 X.K H a b) ∧ Q (.bl false) H) := by
  intro pins s σ H x y v u Q I rx ry h
  obtain ⟨p, q, xs, ys, rfl, rfl, hq, hlen, hat, w⟩ := h
  cases rx
  cases ry
  have el : ∀ {us ws : List Value}, Vals xs us → Vals ys ws → ∀ (j : Nat) (h1 : j < us.toArray.size) (h2 : j < ws.toArray.size), SeqAt.EqAt X.A.in1 s us.toArray[j] ws.toArray[j] ((fun _ => true) j) := fun ru rw' j ja jb => by
    obtain ⟨x, e3, rx⟩ := ru.at ja
    obtain ⟨y, e4, ry⟩ := rw'.at jb
    exact eq1_at I hu rx ry (hat j x y e3 e4)
  rcases hq with ⟨h1, h2⟩ | ⟨h1, h2⟩
  · obtain ⟨us, ru, tu, _⟩ := I.list h1
    obtain ⟨ws, rw', tw, _⟩ := I.list h2
    refine SeqAt.RcNeAt.lists (e := fun _ => true) tu.isList tw.isList (by rw [List.size_toArray, List.size_toArray, ← ru.length, ← rw'.length, hlen]) (by omega) (el ru rw') _ _ _ _ ?_
    rw [all_true]
    exact ⟨.bl false, H, I, rfl, w⟩
  · obtain ⟨us, ru, tu, _⟩ := I.tuple h1
    obtain ⟨ws, rw', tw, _⟩ := I.tuple h2
    refine SeqAt.RcNeAt.tuples (e := fun _ => true) (show s.heap.IsTuple p us.toArray from tu) (show s.heap.IsTuple q ws.toArray from tw) (by omega) (el ru rw') _ _ _ _ ?_
    have e : us.toArray.size = ws.toArray.size := by rw [List.size_toArray, List.size_toArray, ← ru.length, ← rw'.length, hlen]
    rw [all_true, e, beq_self_eq_true]
    exact ⟨.bl false, H, I, rfl, w⟩
end
/-! ## sum of a list of whole numbers, some below 0 -/
section
variable {X : Cx} {tg : Expr}
end
/-! ## for over a list from its end -/
end L2

set_option Elab.async false
set_option linter.all false
set_option maxRecDepth 100000
set_option maxHeartbeats 4000000
namespace My
open PySem L2

def top (i : Nat) : Stmt := PySem.Challenge.pw_modehand_k44_any_keys.main.body.getD i (.Pass ⟨0, 0, 0, 0⟩)
abbrev s_read_shelf : Stmt := top 11
abbrev s_read_count : Stmt := top 12
abbrev s_read_verb : Stmt := top 13
abbrev s_read_aim : Stmt := top 14
abbrev s_read_target : Stmt := top 15
abbrev s_read_up_to : Stmt := top 16
abbrev s_read_typed : Stmt := top 17
abbrev s_read_phrase : Stmt := top 18
abbrev s_first : Stmt := top 19
abbrev s__law_sign_by : Stmt := top 21
abbrev s__law_key_by : Stmt := top 22
abbrev s__law_opened : Stmt := top 23
abbrev s__law_aimed : Stmt := top 24
abbrev s__law_small : Stmt := top 25
abbrev s__law_one : Stmt := top 26
abbrev s__law_run : Stmt := top 27
abbrev s__law_begun : Stmt := top 28
abbrev s__law_next : Stmt := top 29
abbrev s__law_first : Stmt := top 30
abbrev s_law : Stmt := top 31
abbrev s_Reader__init : Stmt := inClass (top 10) 0
abbrev s_Reader__meets : Stmt := inClass (top 10) 1
abbrev s_Reader__take : Stmt := inClass (top 10) 2
abbrev s_Reader__take_all : Stmt := inClass (top 10) 3
def sp_law (K : PySem.W.Frag) : Sp := fun vs H Q _ => ∃ (a : Addr) (ns : List Int), vs = [.ref a] ∧ SqL K H a (ns.map V.int) ∧ ns.length ≤ 63 ∧ ∀ H', Q (.bl true) H'
structure Ph where
  sh : List Nat
  ct : Option Nat
  vb : List Nat
  tg : List Nat
  ty : List Nat
def phV (p : Ph) : List V := [.str (S p.sh), optV p.ct, .str (S p.vb), .str (S p.tg), .str (S p.ty)]


/-! the program's Reader, and what is read by it -/

abbrev lit_SIGNS : List Nat := [32, 33, 34, 35, 36, 38, 39, 40, 41, 42, 43, 44, 45, 46, 47, 48, 49, 50, 51, 52, 53, 54, 55, 56, 57, 58, 59, 60, 61, 62, 63, 64, 65, 66, 67, 68, 69, 70, 71, 72, 73, 74, 75, 76, 77, 78, 79, 80, 81, 82, 83, 84, 85, 86, 87, 88, 89, 90, 91, 92, 93, 94, 95, 96, 97, 98, 99, 100, 101, 102, 103, 104, 105, 106, 107, 108, 109, 110, 111, 112, 113, 114, 115, 116, 117, 118, 119, 120, 121, 122, 123, 124, 125]
abbrev lit_LETTERS : List Nat := [97, 98, 99, 100, 101, 102, 103, 104, 105, 106, 107, 108, 109, 110, 111, 112, 113, 114, 115, 116, 117, 118, 119, 120, 121, 122]
abbrev lit_MOVES : List Nat := [104, 108, 106, 107, 98, 101, 119, 118, 111, 102, 116, 103, 122, 112, 109]
abbrev lit_THINGS : List Nat := [99, 97, 105, 114, 40, 91, 123, 41, 93, 125, 39, 34, 115]
abbrev lit_WITH_SHELF : List Nat := [67, 89, 88, 80]
abbrev lit_WITH_COUNT : List Nat := [67, 89, 88, 71, 83, 68, 70, 74, 84, 82, 80, 90, 65, 78, 69, 76, 46, 64]
abbrev lit_WITHOUT_COUNT : List Nat := [77, 75, 86, 58]
abbrev lit_WITH_TARGET : List Nat := [67, 89, 88, 71, 83, 68, 70, 74]
abbrev d19 : List Nat := [49, 50, 51, 52, 53, 54, 55, 56, 57]
abbrev d09 : List Nat := [48, 49, 50, 51, 52, 53, 54, 55, 56, 57]
abbrev RS := List Nat × Bool
def mt (w : List Nat) (s : RS) : Bool := !s.2 && (match s.1 with | c :: _ => decide (c ∈ w) | [] => false)
def tk (w : List Nat) (s : RS) : List Nat × RS := if mt w s = true then (s.1.take 1, (s.1.drop 1, s.2)) else ([], (s.1, true))
def tka (w : List Nat) (s : RS) : List Nat × RS := if s.2 = true then ([], s) else (s.1.takeWhile (fun c => decide (c ∈ w)), (s.1.dropWhile (fun c => decide (c ∈ w)), false))
def rdF (r : List Nat) (i : Nat) (b : Bool) : List (Str × V) := [("row", .str (S r)), ("at", nV i), ("stuck", .bl b)]
theorem rd_row (r : List Nat) (i : Nat) (b : Bool) : (rdF r i b).lookup ("row" : Str) = some (.str (S r)) := by unfold rdF; rfl
theorem rd_at (r : List Nat) (i : Nat) (b : Bool) : (rdF r i b).lookup ("at" : Str) = some (nV i) := by unfold rdF; rfl
theorem rd_stuck (r : List Nat) (i : Nat) (b : Bool) : (rdF r i b).lookup ("stuck" : Str) = some (.bl b) := by unfold rdF; rfl
theorem rd_no1 (r : List Nat) (i : Nat) (b : Bool) : (rdF r i b).lookup ("meets" : Str) = none := by unfold rdF; rfl
theorem rd_no2 (r : List Nat) (i : Nat) (b : Bool) : (rdF r i b).lookup ("take" : Str) = none := by unfold rdF; rfl
theorem rd_no3 (r : List Nat) (i : Nat) (b : Bool) : (rdF r i b).lookup ("take_all" : Str) = none := by unfold rdF; rfl
theorem rd_put_at (r : List Nat) (i j : Nat) (b : Bool) : putF "at" (nV j) (rdF r i b) = rdF r j b := by unfold rdF; rfl
theorem rd_put_stuck (r : List Nat) (i : Nat) (b c : Bool) : putF "stuck" (.bl c) (rdF r i b) = rdF r i c := by unfold rdF; rfl
theorem rd_len (r : List Nat) (i : Nat) (b : Bool) : (rdF r i b).length < 1000 := by show 3 < 1000; decide
structure RdrT (K : PySem.W.Frag) (C : Addr) : Prop where
  cl : Cls K C
  nR : NoAttr K C "row"
  nA : NoAttr K C "at"
  nS : NoAttr K C "stuck"
structure RdAt (C p : Addr) (r : List Nat) (s : RS) (H : Hp) : Prop where
  at_ : ∃ dx, H p = some (.ins C dx (rdF r (r.length - s.1.length) s.2))
  sf : s.1 <:+ r
  le : r.length ≤ 1000
theorem sfx_head {r u : List Nat} (h : u <:+ r) (n : u ≠ []) : r.length - u.length < r.length ∧ r[r.length - u.length]? = u.head? := by
  obtain ⟨a, rfl⟩ := h
  have hu : 0 < u.length := List.length_pos_iff.mpr n
  have e : (a ++ u).length - u.length = a.length := by rw [List.length_append]; omega
  rw [e]
  refine ⟨by rw [List.length_append]; omega, ?_⟩
  rw [List.getElem?_append_right (Nat.le_refl _), Nat.sub_self, List.head?_eq_getElem?]
def sp_rinit (C : Addr) : Sp := fun vs H Q _ => ∃ (x dx : Addr) (r : List Nat), vs = [.ref x, .str (S r)] ∧ H x = some (.ins C dx []) ∧ r.length ≤ 1000 ∧ ∀ H', Upto x H H' → RdAt C x r (r, false) H' → Q .non H'
def sp_meets (C : Addr) : Sp := fun vs H Q _ => ∃ (p : Addr) (r w : List Nat) (s : RS), vs = [.ref p, .str (S w)] ∧ RdAt C p r s H ∧ Q (.bl (mt w s)) H
def sp_take (C : Addr) : Sp := fun vs H Q _ => ∃ (p : Addr) (r w : List Nat) (s : RS), vs = [.ref p, .str (S w)] ∧ RdAt C p r s H ∧ ∀ H', Upto p H H' → RdAt C p r (tk w s).2 H' → Q (.str (S (tk w s).1)) H'
def sp_takeall (C : Addr) : Sp := fun vs H Q _ => ∃ (p : Addr) (r w : List Nat) (s : RS), vs = [.ref p, .str (S w)] ∧ RdAt C p r s H ∧ ∀ H', Upto p H H' → RdAt C p r (tka w s).2 H' → Q (.str (S (tka w s).1)) H'
section
variable {P : Program} {w : World} {K : PySem.W.Frag} {mg : Str → Option Value} {base : Heap} {f C : Addr} {fd : FuncData}
theorem sc_Reader__init : FnScope ["self", "row"] ["self", "row"] (defScope s_Reader__init) := ⟨rfl, rfl, rfl, by decide +kernel, rfl, by decide +kernel, by decide +kernel⟩
theorem ok_rinit (F : Fun K "__init__" "Reader.__init__" s_Reader__init f fd) (T : RdrT K C) : FnOk P w K mg base CX0 1 f fd ["self", "row"] (sp_rinit C) := by
  refine F.ok sc_Reader__init (fun vs H Q E h => ?_) (fun cdv A outer s H vs Q E hr h => ?_)
  · obtain ⟨x, dx, r, rfl, _⟩ := h
    rfl
  obtain ⟨x, dx, r, rfl, hx, hl, q⟩ := h
  refine ⟨_, (pss_cons (ps_fld (pv 0) (pv 1) rfl)
      (pss_cons (ps_fld (pv 0) pe_int rfl)
      (pss_one (ps_fld (pv 0) pe_bl rfl)))), ?_⟩
  refine ⟨_, rfl, _, rfl, x, C, dx, _, rfl, hx, T.cl, T.nR, (by show 0 < 1000; decide), ?_⟩
  refine ⟨_, rfl, x, C, dx, _, rfl, upd_same, T.cl, T.nA, (by show 1 < 1000; decide), ?_⟩
  refine ⟨_, rfl, x, C, dx, _, rfl, upd_same, T.cl, T.nS, (by show 2 < 1000; decide), ?_⟩
  refine q _ (((upto_upd x H _).trans (upto_upd x _ _)).trans (upto_upd x _ _)) ⟨⟨dx, ?_⟩, List.suffix_refl _, hl⟩
  rw [upd_same]
  show some (HO.ins C dx _) = some (HO.ins C dx (rdF r (r.length - r.length) false))
  rw [Nat.sub_self]
  rfl
theorem sc_Reader__meets : FnScope ["self", "wanted"] ["self", "wanted"] (defScope s_Reader__meets) := ⟨rfl, rfl, rfl, by decide +kernel, rfl, by decide +kernel, by decide +kernel⟩
theorem ok_meets (F : Fun K "meets" "Reader.meets" s_Reader__meets f fd) (T : RdrT K C) (m_len : mg "len" = none) : FnOk P w K mg base CX0 1 f fd ["self", "wanted"] (sp_meets C) := by
  refine F.ok sc_Reader__meets (fun vs H Q E h => ?_) (fun cdv A outer s H vs Q E hr h => ?_)
  · obtain ⟨p, r, wd, s, rfl, _⟩ := h
    rfl
  obtain ⟨p, r, wd, ⟨u, b⟩, rfl, ⟨⟨dx, hp⟩, sf, hl⟩, q⟩ := h
  refine ⟨_, (pss_one (ps_ret (pe_and (pe_not (pe_fld (pv 0) rfl)) (pe_and (pe_cmpR op_lt (pe_fld (pv 0) rfl) (pe_callB call_lenS (by rfl) m_len PySem.boot_len (pa_cons (pe_fld (pv 0) rfl) pa_nil)) (nomark _)) (pe_one (pe_cmpR op_in1 (pe_ix ix_S (pe_fld (pv 0) rfl) (pe_fld (pv 0) rfl) (fun _ _ => rfl)) (pv 1) rfl)))))), ?_⟩
  dsimp only at hp sf
  refine ⟨_, rfl, p, C, dx, _, _, rfl, hp, T.cl, T.nS, rd_stuck _ _ _, _, rfl, _, rfl, ?_⟩
  cases b with
  | true => exact iteF q
  | false =>
    refine iteT ⟨_, rfl, p, C, dx, _, _, rfl, hp, T.cl, T.nA, rd_at _ _ _, _, rfl, p, C, dx, _, _, rfl, hp, T.cl, T.nR, rd_row _ _ _, r, rfl, small (by omega), _, _, rfl, rfl, _, rfl, ?_⟩
    cases u with
    | nil => exact iteDF (by show ¬ (((r.length - 0 : Nat) : Int) < (r.length : Int)); omega) q
    | cons c u =>
      obtain ⟨h1, h2⟩ := sfx_head sf (by simp)
      exact iteDT (by omega) ⟨_, rfl, p, C, dx, _, _, rfl, hp, T.cl, T.nR, rd_row _ _ _, _, rfl, p, C, dx, _, _, rfl, hp, T.cl, T.nA, rd_at _ _ _, r, _, c, rfl, rfl, small (by omega), atI_nat h2, _, rfl, c, wd, rfl, rfl, q⟩
end

/-! the program's Reader: take, take_all -/

theorem mt_cons {wd : List Nat} {s : RS} (h : mt wd s = true) : ∃ c u, s = (c :: u, false) ∧ c ∈ wd := by
  obtain ⟨u, b⟩ := s
  cases b with
  | true => cases h
  | false =>
    cases u with
    | nil => cases h
    | cons c u =>
      refine ⟨c, u, rfl, ?_⟩
      have h' : decide (c ∈ wd) = true := h
      exact of_decide_eq_true h'
theorem sfx_tail {c : Nat} {u r : List Nat} (h : c :: u <:+ r) : u <:+ r ∧ r.length - u.length = r.length - (c :: u).length + 1 := by
  obtain ⟨a, rfl⟩ := h
  refine ⟨⟨a ++ [c], by simp⟩, ?_⟩
  rw [List.length_append, List.length_cons]
  omega
def taP (C p : Addr) (r wd u0 : List Nat) (b : Bool) (H : Hp) (σ : St) (H' : Hp) : Prop := Upto p H H' ∧ ∃ t u, u0 = t ++ u ∧ (∀ c ∈ t, c ∈ wd) ∧ (b = true → t = []) ∧ RdAt C p r (u, b) H' ∧ σ = [some (.ref p), some (.str (S wd)), some (nV (r.length - u0.length))]
def taM (p : Addr) (_ : St) (H : Hp) : Nat := match H p with
  | some (.ins _ _ fs) => (match fs.lookup ("at" : Str) with | some (.int i) => 1000 - i.toNat | _ => 0)
  | _ => 0
theorem taM_at {p C dx : Addr} {r : List Nat} {i : Nat} {b : Bool} {σ : St} {H : Hp} (h : H p = some (.ins C dx (rdF r i b))) : taM p σ H = 1000 - i := by
  unfold taM
  rw [h]
  dsimp only
  rw [rd_at]
  rfl
theorem tw_app {q : Nat → Bool} : ∀ {t u : List Nat}, (∀ c ∈ t, q c = true) → (∀ c, u.head? = some c → q c = false) → (t ++ u).takeWhile q = t ∧ (t ++ u).dropWhile q = u
  | [], u, _, h => by
    cases u with
    | nil => exact ⟨rfl, rfl⟩
    | cons c u =>
      have hc := h c rfl
      simp [hc]
  | c :: t, u, h1, h2 => by
    have ih := tw_app (t := t) (u := u) (fun x hx => h1 x (List.mem_cons_of_mem _ hx)) h2
    have hc := h1 c (List.mem_cons_self ..)
    simp only [List.cons_append, List.takeWhile_cons, List.dropWhile_cons, hc, if_true]
    exact ⟨by rw [ih.1], ih.2⟩
section
variable {P : Program} {w : World} {K : PySem.W.Frag} {mg : Str → Option Value} {base : Heap} {f C : Addr} {fd : FuncData}
theorem sc_Reader__take : FnScope ["self", "wanted"] ["self", "wanted"] (defScope s_Reader__take) := ⟨rfl, rfl, rfl, by decide +kernel, rfl, by decide +kernel, by decide +kernel⟩
theorem ok_take (F : Fun K "take" "Reader.take" s_Reader__take f fd) (T : RdrT K C) (O_Reader__meets : OwnM P w K mg base CX0 1 C "meets" ["self", "wanted"] (sp_meets C)) : FnOk P w K mg base CX0 2 f fd ["self", "wanted"] (sp_take C) := by
  refine F.ok sc_Reader__take (fun vs H Q E h => ?_) (fun cdv A outer s H vs Q E hr h => ?_)
  · obtain ⟨p, r, wd, s, rfl, _⟩ := h
    rfl
  obtain ⟨p, r, wd, s, rfl, hR, q⟩ := h
  refine ⟨_, (pss_cons (ps_if (pt_not (pt_val (pe_ownM O_Reader__meets hr (pv 0) pass0 (pa_cons (pv 1) pa_nil)))) (pss_cons (ps_fld (pv 0) pe_bl rfl)
      (pss_one (ps_ret pe_str))) pss_nil)
      (pss_cons (ps_fld (pv 0) (pe_op op_add (pe_fld (pv 0) rfl) pe_int) rfl)
      (pss_one (ps_ret (pe_ix ix_S (pe_fld (pv 0) rfl) (pe_op op_sub (pe_fld (pv 0) rfl) pe_int) (fun _ _ => rfl)))))), ?_⟩
  obtain ⟨⟨dx, hp⟩, sf, hl⟩ := id hR
  refine ⟨_, rfl, p, dx, _, rfl, hp, rd_no1 _ _ _, _, rfl, p, r, wd, s, rfl, hR, _, rfl, ?_⟩
  unfold tk at q
  cases e : mt wd s with
  | false =>
    rw [e] at q
    refine iteT ⟨_, rfl, p, C, dx, _, rfl, hp, T.cl, T.nS, rd_len _ _ _, ?_⟩
    refine q _ (upto_upd _ _ _) ⟨⟨dx, ?_⟩, sf, hl⟩
    rw [upd_same, rd_put_stuck]
    rfl
  | true =>
    rw [e] at q
    obtain ⟨c, u, rfl, hc⟩ := mt_cons e
    obtain ⟨h1, h2⟩ := sfx_head sf (by simp)
    obtain ⟨h3, h4⟩ := sfx_tail sf
    dsimp only at hp h1 h2 h4
    have hn : ((r.length - (c :: u).length : Nat) : Int) + 1 = ((r.length - u.length : Nat) : Int) := by omega
    refine iteF ⟨_, rfl, p, C, dx, _, _, rfl, hp, T.cl, T.nA, rd_at _ _ _, _, _, rfl, rfl, _, rfl, p, C, dx, _, rfl, hp, T.cl, T.nA, rd_len _ _ _, ?_⟩
    have hp2 : (upd H p (.ins C dx (putF "at" (V.int (((r.length - (c :: u).length : Nat) : Int) + 1)) (rdF r (r.length - (c :: u).length) false)))) p = some (.ins C dx (rdF r (r.length - u.length) false)) := by
      rw [upd_same, hn]
      exact congrArg (fun l => some (HO.ins C dx l)) (rd_put_at _ _ _ _)
    have U := upto_upd p H (.ins C dx (putF "at" (V.int (((r.length - (c :: u).length : Nat) : Int) + 1)) (rdF r (r.length - (c :: u).length) false)))
    generalize (upd H p (.ins C dx (putF "at" (V.int (((r.length - (c :: u).length : Nat) : Int) + 1)) (rdF r (r.length - (c :: u).length) false)))) = H2 at hp2 U
    refine ⟨_, rfl, p, C, dx, _, _, rfl, hp2, T.cl, T.nR, rd_row _ _ _, _, rfl, p, C, dx, _, _, rfl, hp2, T.cl, T.nA, rd_at _ _ _, _, _, rfl, rfl, r, _, c, rfl, rfl, small (by omega), ?_, q _ U ⟨⟨dx, hp2⟩, h3, hl⟩⟩
    show atI r (((r.length - u.length : Nat) : Int) - 1) = some c
    rw [← hn, Int.add_sub_cancel]
    exact atI_nat h2
theorem sc_Reader__take_all : FnScope ["self", "wanted", "begin"] ["self", "wanted"] (defScope s_Reader__take_all) := ⟨rfl, rfl, rfl, by decide +kernel, rfl, by decide +kernel, by decide +kernel⟩
theorem ok_takeall (F : Fun K "take_all" "Reader.take_all" s_Reader__take_all f fd) (T : RdrT K C) (O_Reader__meets : OwnM P w K mg base CX0 1 C "meets" ["self", "wanted"] (sp_meets C)) : FnOk P w K mg base CX0 2 f fd ["self", "wanted"] (sp_takeall C) := by
  refine F.ok sc_Reader__take_all (fun vs H Q E h => ?_) (fun cdv A outer s H vs Q E hr h => ?_)
  · obtain ⟨p, r, wd, s, rfl, _⟩ := h
    rfl
  obtain ⟨p, r, wd, ⟨u0, b⟩, rfl, hR, q⟩ := h
  refine ⟨_, (pss_cons (ps_set (i := 2) sc_Reader__take_all.nd rfl (Or.inl rfl) (pe_fld (pv 0) rfl))
      (pss_cons (ps_while PassesOwn.never (pt_val (pe_ownM O_Reader__meets hr (pv 0) pass0 (pa_cons (pv 1) pa_nil))) (pss_one (ps_fld (pv 0) (pe_op op_add (pe_fld (pv 0) rfl) pe_int) rfl)))
      (pss_one (ps_ret (pe_slice sl_str (pe_fld (pv 0) rfl) (po_some (pv 2)) (po_some (pe_fld (pv 0) rfl))))))), ?_⟩
  obtain ⟨⟨dx0, hp0⟩, sf0, hl⟩ := id hR
  dsimp only at hp0 sf0
  refine ⟨_, rfl, p, C, dx0, _, _, rfl, hp0, T.cl, T.nA, rd_at _ _ _, ?_⟩
  refine gname_go (seq_at (seq_to (fun σ H' => Upto p H H' ∧ RdAt C p r (tka wd (u0, b)).2 H' ∧ (∃ i : Nat, (tka wd (u0, b)).2.1 = u0.drop i ∧ (tka wd (u0, b)).1 = u0.take i) ∧ σ = [some (.ref p), some (.str (S wd)), some (nV (r.length - u0.length))]) (fun nx fin => ?_) ?_))
  · refine while_in (taP C p r wd u0 b H) (taM p) ⟨Upto.refl _ _, [], u0, rfl, (fun c hc => by cases hc), (fun _ => rfl), hR, rfl⟩ ?_
    rintro σ H' ⟨U, t, u, e0, ht, hb, hR', rfl⟩
    obtain ⟨⟨dx, hp⟩, sf, _⟩ := id hR'
    dsimp only at hp sf
    refine ⟨_, rfl, p, dx, _, rfl, hp, rd_no1 _ _ _, _, rfl, p, r, wd, (u, b), rfl, hR', _, rfl, ?_⟩
    cases e : mt wd (u, b) with
    | false =>
      refine iteF (fin _ _ ⟨U, ?_, ⟨t.length, ?_⟩, rfl⟩)
      all_goals
        unfold tka
        cases b with
        | true =>
          have := hb rfl
          subst this
          have e0' : u0 = u := e0
          subst e0'
          first | exact hR' | exact ⟨rfl, rfl⟩
        | false =>
          have hh : ∀ c, u.head? = some c → decide (c ∈ wd) = false := fun c hc => by
            cases u with
            | nil => cases hc
            | cons x u =>
              cases hc
              have e' : decide (c ∈ wd) = false := e
              exact e'
          obtain ⟨a1, a2⟩ := tw_app (q := fun c => decide (c ∈ wd)) (t := t) (u := u) (fun c hc => decide_eq_true (ht c hc)) hh
          rw [if_neg (show ¬ false = true from Bool.false_ne_true), e0, a1, a2]
          first | exact hR' | exact ⟨by rw [List.drop_left], by rw [List.take_left]⟩
    | true =>
      obtain ⟨c, u', e1, hc⟩ := mt_cons e
      cases e1
      obtain ⟨h1, h2⟩ := sfx_head sf (by simp)
      obtain ⟨h3, h4⟩ := sfx_tail sf
      have hn : ((r.length - (c :: u').length : Nat) : Int) + 1 = ((r.length - u'.length : Nat) : Int) := by omega
      have hp2 : (upd H' p (.ins C dx (putF "at" (V.int (((r.length - (c :: u').length : Nat) : Int) + 1)) (rdF r (r.length - (c :: u').length) false)))) p = some (.ins C dx (rdF r (r.length - u'.length) false)) := by
        rw [upd_same, hn]
        exact congrArg (fun l => some (HO.ins C dx l)) (rd_put_at _ _ _ _)
      refine iteT ⟨_, turn_N (Pv := taP C p r wd u0 false H) (μ := taM p), ?_⟩
      refine ⟨_, rfl, p, C, dx, _, _, rfl, hp, T.cl, T.nA, rd_at _ _ _, _, _, rfl, rfl, _, rfl, p, C, dx, _, rfl, hp, T.cl, T.nA, rd_len _ _ _, ⟨U.trans (upto_upd _ _ _), t ++ [c], u', ?_, ?_, (fun z => by cases z), ⟨⟨dx, hp2⟩, h3, hl⟩, rfl⟩, ?_⟩
      · rw [e0]
        simp
      · intro x hx
        rcases List.mem_append.mp hx with z | z
        · exact ht x z
        · rw [List.mem_singleton] at z
          subst z
          exact hc
      · show taM p _ (upd H' p _) < taM p _ H'
        rw [taM_at hp2, taM_at hp]
        omega
  rintro σ H' ⟨U, hR', ⟨i, e1, e2⟩, rfl⟩
  obtain ⟨⟨dx, hp⟩, sf, _⟩ := id hR'
  refine ⟨_, rfl, p, C, dx, _, _, rfl, hp, T.cl, T.nR, rd_row _ _ _, _, rfl, _, rfl, _, rfl, p, C, dx, _, _, rfl, hp, T.cl, T.nA, rd_at _ _ _, _, rfl, r, rfl, small (by omega), ?_⟩
  have e3 : cutL r (some ((r.length - u0.length : Nat) : Int)) (some ((r.length - (tka wd (u0, b)).2.1.length : Nat) : Int)) = (tka wd (u0, b)).1 := by
    rw [cutL_nn, e1, e2]
    obtain ⟨a, ea⟩ := sf0
    have hd : r.drop (r.length - u0.length) = u0 := by
      rw [← ea, show (a ++ u0).length - u0.length = a.length by rw [List.length_append]; omega]
      exact List.drop_left
    rw [hd, List.length_drop]
    have hlu : u0.length ≤ r.length := by rw [← ea, List.length_append]; omega
    rcases Nat.le_total i u0.length with z | z
    · congr 1
      omega
    · rw [List.take_of_length_le (by omega), List.take_of_length_le z]
  rw [e3]
  exact q _ U hR'
end

/-! the program's reading of a phrase, part by part -/

def rdSh (s : RS) : List Nat × RS := if mt [34] s = true then tk lit_LETTERS (tk [34] s).2 else ([], s)
def ctLoop : Nat → List Nat → RS → List Nat × RS
  | 0, f, s => (f, s)
  | n + 1, f, s => if mt d09 s = true then ctLoop n (f ++ (tk d09 s).1) (tk d09 s).2 else (f, s)
def rdCt (s : RS) : Option Nat × RS := if mt d19 s = true then (some (numL (ctLoop 2 (tk d19 s).1 (tk d19 s).2).1), (ctLoop 2 (tk d19 s).1 (tk d19 s).2).2) else (none, s)
def rdVb (sh : List Nat) (ct : Option Nat) (s : RS) : List Nat × RS := if ¬ sh = [] then tk lit_WITH_SHELF s else if mt lit_MOVES s = true then ([], s) else if ct.isSome = true then tk lit_WITH_COUNT s else tk (lit_WITH_COUNT ++ lit_WITHOUT_COUNT) s
def rdAim (wd : List Nat) (s : RS) : List Nat × RS := if (tk wd s).1 = [102] ∨ (tk wd s).1 = [116] then ((tk wd s).1 ++ (tk lit_SIGNS (tk wd s).2).1, (tk lit_SIGNS (tk wd s).2).2) else if (tk wd s).1 = [109] then ((tk wd s).1 ++ (tk lit_LETTERS (tk wd s).2).1, (tk lit_LETTERS (tk wd s).2).2) else tk wd s
def rdTg (vb : List Nat) (s : RS) : List Nat × RS := match vb with
  | [] => rdAim lit_MOVES s
  | x :: _ => if x ∈ lit_WITH_TARGET then rdAim (lit_MOVES ++ lit_THINGS) s else ([], s)
def rdUp (e wd : List Nat) (s : RS) : List Nat × RS := ((tka wd s).1, (tk e (tka wd s).2).2)
def rdTy (vb : List Nat) (s : RS) : List Nat × RS :=
  if vb = [88] ∨ vb = [84] then rdUp [126] (lit_SIGNS ++ [10]) s else if vb = [58] then rdUp [10] (lit_SIGNS ++ [126]) s else if vb = [82] then tk lit_SIGNS s else if vb = [77] ∨ vb = [75] ∨ vb = [64] then tk lit_LETTERS s else if vb = [86] then tk [115, 114, 98] s else ([], s)
def One (l : List Nat) : Prop := l = [] ∨ ∃ x, l = [x]
theorem tk_one (wd : List Nat) (s : RS) : One (tk wd s).1 := by
  unfold tk
  cases e : mt wd s with
  | false => exact .inl rfl
  | true =>
    obtain ⟨c, u, rfl, _⟩ := mt_cons e
    exact .inr ⟨c, rfl⟩
theorem tk_in {wd : List Nat} {s : RS} (h : mt wd s = true) : ∃ c, (tk wd s).1 = [c] ∧ c ∈ wd := by
  obtain ⟨c, u, rfl, hc⟩ := mt_cons h
  exact ⟨c, by unfold tk; rw [if_pos h]; rfl, hc⟩
theorem rdVb_one (sh : List Nat) (ct : Option Nat) (s : RS) : One (rdVb sh ct s).1 := by
  unfold rdVb
  split
  · exact tk_one _ _
  · split
    · exact .inl rfl
    · split <;> exact tk_one _ _
def sp_rd (C : Addr) (g : RS → List Nat × RS) : Sp := fun vs H Q _ => ∃ (p : Addr) (r : List Nat) (s : RS), vs = [.ref p] ∧ RdAt C p r s H ∧ ∀ H', Upto p H H' → RdAt C p r (g s).2 H' → Q (.str (S (g s).1)) H'
def sp_rdct (C : Addr) : Sp := fun vs H Q _ => ∃ (p : Addr) (r : List Nat) (s : RS), vs = [.ref p] ∧ RdAt C p r s H ∧ ∀ H', Upto p H H' → RdAt C p r (rdCt s).2 H' → Q (optV (rdCt s).1) H'
def sp_rdvb (C : Addr) : Sp := fun vs H Q _ => ∃ (p : Addr) (r sh : List Nat) (ct : Option Nat) (s : RS), vs = [.ref p, .str (S sh), optV ct] ∧ RdAt C p r s H ∧ ∀ H', Upto p H H' → RdAt C p r (rdVb sh ct s).2 H' → Q (.str (S (rdVb sh ct s).1)) H'
def sp_rdaim (C : Addr) : Sp := fun vs H Q _ => ∃ (p : Addr) (r wd : List Nat) (s : RS), vs = [.ref p, .str (S wd)] ∧ RdAt C p r s H ∧ ∀ H', Upto p H H' → RdAt C p r (rdAim wd s).2 H' → Q (.str (S (rdAim wd s).1)) H'
def sp_rdv (C : Addr) (g : List Nat → RS → List Nat × RS) : Sp := fun vs H Q _ => ∃ (p : Addr) (r vb : List Nat) (s : RS), vs = [.ref p, .str (S vb)] ∧ One vb ∧ RdAt C p r s H ∧ ∀ H', Upto p H H' → RdAt C p r (g vb s).2 H' → Q (.str (S (g vb s).1)) H'
def sp_rdup (C : Addr) : Sp := fun vs H Q _ => ∃ (p : Addr) (r e wd : List Nat) (s : RS), vs = [.ref p, .str (S e), .str (S wd)] ∧ RdAt C p r s H ∧ ∀ H', Upto p H H' → RdAt C p r (rdUp e wd s).2 H' → Q (.str (S (rdUp e wd s).1)) H'
section
variable {P : Program} {w : World} {K : PySem.W.Frag} {mg : Str → Option Value} {base : Heap} {f C A_ENDS : Addr} {fd : FuncData} {k1 k2 k3 k4 k5 k6 k7 k8 : Tok}
variable (O_Reader__meets : OwnM P w K mg base CX0 1 C "meets" ["self", "wanted"] (sp_meets C)) (O_Reader__take : OwnM P w K mg base CX0 2 C "take" ["self", "wanted"] (sp_take C)) (O_Reader__take_all : OwnM P w K mg base CX0 2 C "take_all" ["self", "wanted"] (sp_takeall C))
theorem sc_read_shelf : FnScope ["reader"] ["reader"] (defScope s_read_shelf) := ⟨rfl, rfl, rfl, by decide +kernel, rfl, by decide +kernel, by decide +kernel⟩
include O_Reader__meets O_Reader__take in
theorem ok_rdsh (F : Fun K "read_shelf" "read_shelf" s_read_shelf f fd) (m_LETTERS : mg "LETTERS" = some (.str (S lit_LETTERS) k1)) : FnOk P w K mg base CX0 3 f fd ["reader"] (sp_rd C rdSh) := by
  refine F.ok sc_read_shelf (fun vs H Q E h => ?_) (fun cdv A outer s H vs Q E hr h => ?_)
  · obtain ⟨p, r, s, rfl, _⟩ := h
    rfl
  obtain ⟨p, r, s, rfl, hR, q⟩ := h
  refine ⟨_, (pss_cons (ps_if (pt_not (pt_val (pe_ownM O_Reader__meets hr (pv 0) pass0 (pa_cons pe_str pa_nil)))) (pss_one (ps_ret pe_str)) pss_nil)
      (pss_cons (ps_expr (pe_ownM O_Reader__take hr (pv 0) pass0 (pa_cons pe_str pa_nil)))
      (pss_one (ps_ret (pe_ownM O_Reader__take hr (pv 0) pass0 (pa_cons (pe_glob (v := .str (S lit_LETTERS)) (by rfl) m_LETTERS ⟨_, rfl⟩) pa_nil)))))), ?_⟩
  obtain ⟨⟨dx, hp⟩, sf, hl⟩ := id hR
  refine ⟨_, rfl, p, dx, _, rfl, hp, rd_no1 _ _ _, p, r, [34], s, rfl, hR, _, rfl, ?_⟩
  unfold rdSh at q
  cases e : mt [34] s with
  | false =>
    rw [e] at q
    exact iteT (q _ (Upto.refl _ _) hR)
  | true =>
    rw [e] at q
    refine iteF ⟨_, rfl, p, dx, _, rfl, hp, rd_no2 _ _ _, p, r, [34], s, rfl, hR, fun H1 U1 hR1 => ?_⟩
    obtain ⟨⟨dx1, hp1⟩, _, _⟩ := id hR1
    exact ⟨_, rfl, p, dx1, _, rfl, hp1, rd_no2 _ _ _, p, r, lit_LETTERS, _, rfl, hR1, fun H2 U2 hR2 => q _ (U1.trans U2) hR2⟩
theorem sc_read_verb : FnScope ["reader", "shelf", "count"] ["reader", "shelf", "count"] (defScope s_read_verb) := ⟨rfl, rfl, rfl, by decide +kernel, rfl, by decide +kernel, by decide +kernel⟩
include O_Reader__meets O_Reader__take in
theorem ok_rdvb (F : Fun K "read_verb" "read_verb" s_read_verb f fd) (m_MOVES : mg "MOVES" = some (.str (S lit_MOVES) k1)) (m_WITH_SHELF : mg "WITH_SHELF" = some (.str (S lit_WITH_SHELF) k2)) (m_WITH_COUNT : mg "WITH_COUNT" = some (.str (S lit_WITH_COUNT) k3)) (m_WITHOUT_COUNT : mg "WITHOUT_COUNT" = some (.str (S lit_WITHOUT_COUNT) k4)) : FnOk P w K mg base CX0 3 f fd ["reader", "shelf", "count"] (sp_rdvb C) := by
  refine F.ok sc_read_verb (fun vs H Q E h => ?_) (fun cdv A outer s H vs Q E hr h => ?_)
  · obtain ⟨p, r, sh, ct, s, rfl, _⟩ := h
    rfl
  obtain ⟨p, r, sh, ct, s, rfl, hR, q⟩ := h
  refine ⟨_, (pss_cons (ps_if (pt_cmpR op_ne (pv 1) pe_str (nomark _)) (pss_one (ps_ret (pe_ownM O_Reader__take hr (pv 0) pass0 (pa_cons (pe_glob (v := .str (S lit_WITH_SHELF)) (by rfl) m_WITH_SHELF ⟨_, rfl⟩) pa_nil)))) pss_nil)
      (pss_cons (ps_if (pt_val (pe_ownM O_Reader__meets hr (pv 0) pass0 (pa_cons (pe_glob (v := .str (S lit_MOVES)) (by rfl) m_MOVES ⟨_, rfl⟩) pa_nil))) (pss_one (ps_ret pe_str)) pss_nil)
      (pss_cons (ps_if (pt_cmpR op_notN (pv 2) pe_non (nomark _)) (pss_one (ps_ret (pe_ownM O_Reader__take hr (pv 0) pass0 (pa_cons (pe_glob (v := .str (S lit_WITH_COUNT)) (by rfl) m_WITH_COUNT ⟨_, rfl⟩) pa_nil)))) pss_nil)
      (pss_one (ps_ret (pe_ownM O_Reader__take hr (pv 0) pass0 (pa_cons (pe_op op_adS (pe_glob (v := .str (S lit_WITH_COUNT)) (by rfl) m_WITH_COUNT ⟨_, rfl⟩) (pe_glob (v := .str (S lit_WITHOUT_COUNT)) (by rfl) m_WITHOUT_COUNT ⟨_, rfl⟩)) pa_nil))))))), ?_⟩
  obtain ⟨⟨dx, hp⟩, sf, hl⟩ := id hR
  unfold rdVb at q
  refine ⟨_, rfl, rfl, _, rfl, ?_⟩
  by_cases e : sh = []
  · rw [if_neg (fun z => z e)] at q
    refine iteNS (by rw [e]; rfl) ⟨_, rfl, p, dx, _, rfl, hp, rd_no1 _ _ _, p, r, lit_MOVES, s, rfl, hR, _, rfl, ?_⟩
    cases em : mt lit_MOVES s with
    | true =>
      rw [em] at q
      exact iteT (q _ (Upto.refl _ _) hR)
    | false =>
      rw [em] at q
      cases ct with
      | some n => exact iteF ⟨_, rfl, rfl, _, rfl, iteT ⟨_, rfl, p, dx, _, rfl, hp, rd_no2 _ _ _, p, r, lit_WITH_COUNT, s, rfl, hR, q⟩⟩
      | none => exact iteF ⟨_, rfl, rfl, _, rfl, iteF ⟨_, rfl, p, dx, _, rfl, hp, rd_no2 _ _ _, lit_WITH_COUNT, lit_WITHOUT_COUNT, rfl, rfl, small (by decide), p, r, lit_WITH_COUNT ++ lit_WITHOUT_COUNT, s, rfl, hR, q⟩⟩
  · rw [if_pos e] at q
    exact iteNF (fun z => e (S_inj (V.str.inj z))) ⟨_, rfl, p, dx, _, rfl, hp, rd_no2 _ _ _, p, r, lit_WITH_SHELF, s, rfl, hR, q⟩
end

end My

set_option Elab.async false
set_option linter.all false
set_option maxRecDepth 100000
set_option maxHeartbeats 4000000
namespace My
open PySem L2



/-! the program's reading of a phrase, goes on -/

def ctP (C p : Addr) (r : List Nat) (f0 : List Nat) (s0 : RS) (H : Hp) (σ : St) (H' : Hp) : Prop := Upto p H H' ∧ ∃ (n : Nat) (f : List Nat) (s : RS), ctLoop n f s = ctLoop 2 f0 s0 ∧ f.length + n = 3 ∧ 1 ≤ f.length ∧ (∀ c ∈ f, Dg c) ∧ RdAt C p r s H' ∧ σ = [some (.ref p), some (.str (S f))]
def ctM (σ : St) (_ : Hp) : Nat := match σ with | [_, some (.str f)] => 4 - f.length | _ => 0
theorem ct_succ (n : Nat) (f : List Nat) (s : RS) : ctLoop (n + 1) f s = if mt d09 s = true then ctLoop n (f ++ (tk d09 s).1) (tk d09 s).2 else (f, s) := rfl
theorem d19_dg : ∀ c ∈ d19, Dg c := by unfold Dg; decide
theorem d09_dg : ∀ c ∈ d09, Dg c := by unfold Dg; decide
theorem in2 (l : List Nat) (a b : Nat) : inV (.str (S l)) [.str (S [a]), .str (S [b])] = decide (l = [a] ∨ l = [b]) := by
  have e : ∀ x : Nat, (S [x] == S l) = decide (l = [x]) := fun x => by
    by_cases h : l = [x]
    · subst h
      simp
    · rw [decide_eq_false h, beq_eq_false_iff_ne]
      exact fun z => h (S_inj z).symm
  show (S [a] == S l || (S [b] == S l || false)) = _
  rw [e, e, Bool.or_false]
  by_cases h1 : l = [a] <;> by_cases h2 : l = [b] <;> simp [h1, h2]
theorem in3' (l : List Nat) (a b c : Nat) : inV (.str (S l)) [.str (S [a]), .str (S [b]), .str (S [c])] = decide (l = [a] ∨ l = [b] ∨ l = [c]) := by
  have e : ∀ x : Nat, (S [x] == S l) = decide (l = [x]) := fun x => by
    by_cases h : l = [x]
    · subst h
      simp
    · rw [decide_eq_false h, beq_eq_false_iff_ne]
      exact fun z => h (S_inj z).symm
  show (S [a] == S l || (S [b] == S l || (S [c] == S l || false))) = _
  rw [e, e, e, Bool.or_false]
  by_cases h1 : l = [a] <;> by_cases h2 : l = [b] <;> by_cases h3 : l = [c] <;> simp [h1, h2, h3]
theorem RdAt.same {C p : Addr} {r : List Nat} {s : RS} {H H' : Hp} (h : RdAt C p r s H) (q : Same H H') : RdAt C p r s H' := by
  obtain ⟨⟨dx, hp⟩, sf, hl⟩ := h
  exact ⟨⟨dx, q _ _ hp⟩, sf, hl⟩
section
variable {P : Program} {w : World} {K : PySem.W.Frag} {mg : Str → Option Value} {base : Heap} {f C A_ENDS : Addr} {fd : FuncData} {k1 k2 k3 k4 k5 k6 k7 k8 : Tok} {es : List EntS}
variable (O_Reader__meets : OwnM P w K mg base CX0 1 C "meets" ["self", "wanted"] (sp_meets C)) (O_Reader__take : OwnM P w K mg base CX0 2 C "take" ["self", "wanted"] (sp_take C)) (O_Reader__take_all : OwnM P w K mg base CX0 2 C "take_all" ["self", "wanted"] (sp_takeall C))
theorem sc_read_count : FnScope ["reader", "figures"] ["reader"] (defScope s_read_count) := ⟨rfl, rfl, rfl, by decide +kernel, rfl, by decide +kernel, by decide +kernel⟩
include O_Reader__meets O_Reader__take in
theorem ok_rdct (F : Fun K "read_count" "read_count" s_read_count f fd) (m_len : mg "len" = none) (m_int : mg "int" = none) : FnOk P w K mg base CX0 3 f fd ["reader"] (sp_rdct C) := by
  refine F.ok sc_read_count (fun vs H Q E h => ?_) (fun cdv A outer s H vs Q E hr h => ?_)
  · obtain ⟨p, r, s, rfl, _⟩ := h
    rfl
  obtain ⟨p, r, s, rfl, hR, q⟩ := h
  refine ⟨_, (pss_cons (ps_if (pt_not (pt_val (pe_ownM O_Reader__meets hr (pv 0) pass0 (pa_cons pe_str pa_nil)))) (pss_one (ps_ret pe_non)) pss_nil)
      (pss_cons (ps_set (i := 1) sc_read_count.nd rfl (Or.inl rfl) (pe_ownM O_Reader__take hr (pv 0) pass0 (pa_cons pe_str pa_nil)))
      (pss_cons (ps_while PassesOwn.never (PW.pt (pw_and (pt_cmpR op_lt (pe_callB call_lenS (by rfl) m_len PySem.boot_len (pa_cons (pv 1) pa_nil)) pe_int (nomark _)) (pw_and1 (pt_val (pe_ownM O_Reader__meets hr (pv 0) pass0 (pa_cons pe_str pa_nil)))))) (pss_one (ps_set (i := 1) sc_read_count.nd rfl (Or.inl rfl) (pe_op op_adS (pv 1) (pe_ownM O_Reader__take hr (pv 0) pass0 (pa_cons pe_str pa_nil))))))
      (pss_one (ps_ret (pe_callTy call_intS (by rfl) m_int boot_int (pa_cons (pv 1) pa_nil))))))), ?_⟩
  obtain ⟨⟨dx, hp⟩, sf, hl⟩ := id hR
  refine ⟨_, rfl, p, dx, _, rfl, hp, rd_no1 _ _ _, p, r, d19, s, rfl, hR, _, rfl, ?_⟩
  unfold rdCt at q
  cases e : mt d19 s with
  | false =>
    rw [e] at q
    exact iteT (q _ (Upto.refl _ _) hR)
  | true =>
    rw [e] at q
    obtain ⟨c0, ec0, hc0⟩ := tk_in e
    refine iteF ⟨_, rfl, p, dx, _, rfl, hp, rd_no2 _ _ _, p, r, d19, s, rfl, hR, fun H1 U1 hR1 => ?_⟩
    refine gname_go (seq_at (seq_to (fun σ H' => Upto p H H' ∧ RdAt C p r (ctLoop 2 (tk d19 s).1 (tk d19 s).2).2 H' ∧ 1 ≤ (ctLoop 2 (tk d19 s).1 (tk d19 s).2).1.length ∧ (ctLoop 2 (tk d19 s).1 (tk d19 s).2).1.length ≤ 3 ∧ (∀ c ∈ (ctLoop 2 (tk d19 s).1 (tk d19 s).2).1, Dg c) ∧ σ = [some (.ref p), some (.str (S (ctLoop 2 (tk d19 s).1 (tk d19 s).2).1))]) (fun nx fin => ?_) ?_))
    · refine while_in (ctP C p r (tk d19 s).1 (tk d19 s).2 H) ctM ⟨U1, 2, (tk d19 s).1, (tk d19 s).2, rfl, by rw [ec0]; rfl, by rw [ec0]; exact Nat.le_refl _, fun c hc => ?_, hR1, rfl⟩ ?_
      · rw [ec0, List.mem_singleton] at hc
        subst hc
        exact d19_dg _ hc0
      rintro σ H' ⟨U, n, fg, s2, el, hn, h1, hd, hR', rfl⟩
      obtain ⟨⟨dx2, hp2⟩, _, _⟩ := id hR'
      refine ⟨_, rfl, fg, rfl, small (by omega), _, _, rfl, rfl, _, rfl, ?_⟩
      by_cases z : ((fg.length : Nat) : Int) < 3
      · refine iteDT z ⟨_, rfl, p, dx2, _, rfl, hp2, rd_no1 _ _ _, p, r, d09, s2, rfl, hR', _, rfl, ?_⟩
        obtain ⟨n', rfl⟩ : ∃ n', n = n' + 1 := ⟨n - 1, by omega⟩
        rw [ct_succ n' fg s2] at el
        cases em : mt d09 s2 with
        | true =>
          rw [em, if_pos rfl] at el
          obtain ⟨c1, ec1, hc1⟩ := tk_in em
          refine iteT ⟨_, turn_N (Pv := ctP C p r (tk d19 s).1 (tk d19 s).2 H) (μ := ctM), ?_⟩
          refine ⟨_, rfl, _, rfl, p, dx2, _, rfl, hp2, rd_no2 _ _ _, p, r, d09, s2, rfl, hR', fun H3 U3 hR3 => ⟨fg, _, rfl, rfl, small (by rw [ec1]; show fg.length + 1 ≤ _; omega), ⟨U.trans U3, n', fg ++ (tk d09 s2).1, (tk d09 s2).2, el, ?_, ?_, fun c hc => ?_, hR3, rfl⟩, ?_⟩⟩
          · rw [ec1, List.length_append, List.length_singleton]
            omega
          · rw [List.length_append]
            omega
          · rcases List.mem_append.mp hc with y | y
            · exact hd c y
            · rw [ec1, List.mem_singleton] at y
              subst y
              exact d09_dg _ hc1
          · show 4 - (fg ++ (tk d09 s2).1).length < 4 - fg.length
            rw [ec1, List.length_append, List.length_singleton]
            omega
        | false =>
          rw [em, if_neg Bool.false_ne_true] at el
          refine iteF (fin _ _ ⟨U, ?_⟩)
          rw [← el]
          exact ⟨hR', h1, by show fg.length ≤ 3; omega, hd, rfl⟩
      · have hn0 : n = 0 := by omega
        subst hn0
        have el' : (fg, s2) = ctLoop 2 (tk d19 s).1 (tk d19 s).2 := el
        refine iteDF z (iteF (fin _ _ ⟨U, ?_⟩))
        rw [← el']
        exact ⟨hR', h1, by show fg.length ≤ 3; omega, hd, rfl⟩
    rintro σ H' ⟨U, hR', h1, h3, hd, rfl⟩
    exact ⟨_, rfl, _, rfl, h1, h3, hd, q _ U hR'⟩
theorem sc_read_aim : FnScope ["reader", "wanted", "key"] ["reader", "wanted"] (defScope s_read_aim) := ⟨rfl, rfl, rfl, by decide +kernel, rfl, by decide +kernel, by decide +kernel⟩
include O_Reader__take in
theorem ok_rdaim (F : Fun K "read_aim" "read_aim" s_read_aim f fd) (m_SIGNS : mg "SIGNS" = some (.str (S lit_SIGNS) k1)) (m_LETTERS : mg "LETTERS" = some (.str (S lit_LETTERS) k2)) : FnOk P w K mg base CX0 3 f fd ["reader", "wanted"] (sp_rdaim C) := by
  refine F.ok sc_read_aim (fun vs H Q E h => ?_) (fun cdv A outer s H vs Q E hr h => ?_)
  · obtain ⟨p, r, wd, s, rfl, _⟩ := h
    rfl
  obtain ⟨p, r, wd, s, rfl, hR, q⟩ := h
  refine ⟨_, (pss_cons (ps_set (i := 2) sc_read_aim.nd rfl (Or.inl rfl) (pe_ownM O_Reader__take hr (pv 0) pass0 (pa_cons (pv 1) pa_nil)))
      (pss_cons (ps_if (pt_cmpR op_in_seq (pv 2) (pe_tup (pa_cons pe_str (pa_cons pe_str pa_nil))) rfl) (pss_one (ps_ret (pe_op op_adS (pv 2) (pe_ownM O_Reader__take hr (pv 0) pass0 (pa_cons (pe_glob (v := .str (S lit_SIGNS)) (by rfl) m_SIGNS ⟨_, rfl⟩) pa_nil))))) pss_nil)
      (pss_cons (ps_if (pt_cmpR op_eq (pv 2) pe_str (nomark _)) (pss_one (ps_ret (pe_op op_adS (pv 2) (pe_ownM O_Reader__take hr (pv 0) pass0 (pa_cons (pe_glob (v := .str (S lit_LETTERS)) (by rfl) m_LETTERS ⟨_, rfl⟩) pa_nil))))) pss_nil)
      (pss_one (ps_ret (pv 2)))))), ?_⟩
  obtain ⟨⟨dx, hp⟩, sf, hl⟩ := id hR
  have h1 := tk_one wd s
  refine ⟨_, rfl, p, dx, _, rfl, hp, rd_no2 _ _ _, _, rfl, p, r, wd, s, rfl, hR, fun H1 U1 hR1 => ?_⟩
  unfold rdAim at q
  have hk : (tk wd s).1.length ≤ 1 := by
    rcases h1 with e | ⟨x, e⟩ <;> rw [e] <;> simp
  refine ⟨_, rfl, (by show 2 ≤ sizeLine; decide), fun t ht => ⟨t, _, rfl, .inr (SqT.of upd_same), rfl, rfl, _, rfl, ?_⟩⟩
  have S2 : Same H1 (upd H1 t (.tup [V.str "f", V.str "t"])) := same_new ht _
  have hR2 := hR1.same S2
  have U2 := U1.trans (S2.upto p)
  obtain ⟨⟨dx2, hp2⟩, _, _⟩ := id hR2
  show if inV (V.str (S (tk wd s).1)) [.str (S [102]), .str (S [116])] = true then _ else _
  rw [in2]
  by_cases e : (tk wd s).1 = [102] ∨ (tk wd s).1 = [116]
  · rw [if_pos e] at q
    refine iteDT e ⟨_, rfl, _, rfl, p, dx2, _, rfl, hp2, rd_no2 _ _ _, p, r, lit_SIGNS, _, rfl, hR2, fun H3 U3 hR3 => ⟨_, _, rfl, rfl, small ?_, q _ (U2.trans U3) hR3⟩⟩
    have := tk_one lit_SIGNS (tk wd s).2
    rcases this with e2 | ⟨x, e2⟩ <;> rw [e2] <;> simp <;> omega
  · rw [if_neg e] at q
    refine iteDF e ⟨_, rfl, rfl, _, rfl, ?_⟩
    by_cases e3 : (tk wd s).1 = [109]
    · rw [if_pos e3] at q
      refine iteDT (by rw [e3]; rfl) ⟨_, rfl, _, rfl, p, dx2, _, rfl, hp2, rd_no2 _ _ _, p, r, lit_LETTERS, _, rfl, hR2, fun H3 U3 hR3 => ⟨_, _, rfl, rfl, small ?_, q _ (U2.trans U3) hR3⟩⟩
      have := tk_one lit_LETTERS (tk wd s).2
      rcases this with e2 | ⟨x, e2⟩ <;> rw [e2] <;> simp <;> omega
    · rw [if_neg e3] at q
      exact iteDF (fun z => e3 (S_inj (V.str.inj z))) ⟨_, rfl, q _ U2 hR2⟩
theorem sc_read_target : FnScope ["reader", "verb"] ["reader", "verb"] (defScope s_read_target) := ⟨rfl, rfl, rfl, by decide +kernel, rfl, by decide +kernel, by decide +kernel⟩
theorem ok_rdtg (F : Fun K "read_target" "read_target" s_read_target f fd) (O_read_aim : Own P w K mg base CX0 3 "read_aim" ["reader", "wanted"] (sp_rdaim C)) (m_MOVES : mg "MOVES" = some (.str (S lit_MOVES) k1)) (m_THINGS : mg "THINGS" = some (.str (S lit_THINGS) k2)) (m_WITH_TARGET : mg "WITH_TARGET" = some (.str (S lit_WITH_TARGET) k3)) : FnOk P w K mg base CX0 4 f fd ["reader", "verb"] (sp_rdv C rdTg) := by
  refine F.ok sc_read_target (fun vs H Q E h => ?_) (fun cdv A outer s H vs Q E hr h => ?_)
  · obtain ⟨p, r, vb, s, rfl, _⟩ := h
    rfl
  obtain ⟨p, r, vb, s, rfl, hv, hR, q⟩ := h
  refine ⟨_, (pss_cons (ps_if (pt_cmpR op_eq (pv 1) pe_str (nomark _)) (pss_one (ps_ret (pe_own O_read_aim hr (by rfl) pass0 (pa_cons (pv 0) (pa_cons (pe_glob (v := .str (S lit_MOVES)) (by rfl) m_MOVES ⟨_, rfl⟩) pa_nil))))) pss_nil)
      (pss_cons (ps_if (pt_cmpR op_in1 (pv 1) (pe_glob (v := .str (S lit_WITH_TARGET)) (by rfl) m_WITH_TARGET ⟨_, rfl⟩) rfl) (pss_one (ps_ret (pe_own O_read_aim hr (by rfl) pass0 (pa_cons (pv 0) (pa_cons (pe_op op_adS (pe_glob (v := .str (S lit_MOVES)) (by rfl) m_MOVES ⟨_, rfl⟩) (pe_glob (v := .str (S lit_THINGS)) (by rfl) m_THINGS ⟨_, rfl⟩)) pa_nil))))) pss_nil)
      (pss_one (ps_ret pe_str)))), ?_⟩
  refine ⟨_, rfl, rfl, _, rfl, ?_⟩
  rcases hv with rfl | ⟨x, rfl⟩
  · exact iteDT rfl ⟨_, rfl, p, r, lit_MOVES, s, rfl, hR, q⟩
  · refine iteDF (fun z => by have := S_inj (V.str.inj z); cases this) ⟨_, rfl, x, lit_WITH_TARGET, rfl, rfl, _, rfl, ?_⟩
    unfold rdTg at q
    dsimp only at q
    by_cases e : x ∈ lit_WITH_TARGET
    · rw [if_pos e] at q
      exact iteDT e ⟨_, rfl, lit_MOVES, lit_THINGS, rfl, rfl, small (by decide), p, r, lit_MOVES ++ lit_THINGS, s, rfl, hR, q⟩
    · rw [if_neg e] at q
      exact iteDF e (q _ (Upto.refl _ _) hR)
theorem sc_read_up_to : FnScope ["reader", "end", "wanted", "typed"] ["reader", "end", "wanted"] (defScope s_read_up_to) := ⟨rfl, rfl, rfl, by decide +kernel, rfl, by decide +kernel, by decide +kernel⟩
include O_Reader__take O_Reader__take_all in
theorem ok_rdup (F : Fun K "read_up_to" "read_up_to" s_read_up_to f fd) : FnOk P w K mg base CX0 3 f fd ["reader", "end", "wanted"] (sp_rdup C) := by
  refine F.ok sc_read_up_to (fun vs H Q E h => ?_) (fun cdv A outer s H vs Q E hr h => ?_)
  · obtain ⟨p, r, e, wd, s, rfl, _⟩ := h
    rfl
  obtain ⟨p, r, e, wd, s, rfl, hR, q⟩ := h
  refine ⟨_, (pss_cons (ps_set (i := 3) sc_read_up_to.nd rfl (Or.inl rfl) (pe_ownM O_Reader__take_all hr (pv 0) pass0 (pa_cons (pv 2) pa_nil)))
      (pss_cons (ps_expr (pe_ownM O_Reader__take hr (pv 0) pass0 (pa_cons (pv 1) pa_nil)))
      (pss_one (ps_ret (pv 3))))), ?_⟩
  obtain ⟨⟨dx, hp⟩, sf, hl⟩ := id hR
  refine ⟨_, rfl, p, dx, _, rfl, hp, rd_no3 _ _ _, _, rfl, p, r, wd, s, rfl, hR, fun H1 U1 hR1 => ?_⟩
  obtain ⟨⟨dx1, hp1⟩, _, _⟩ := id hR1
  exact ⟨_, rfl, p, dx1, _, rfl, hp1, rd_no2 _ _ _, _, rfl, p, r, e, _, rfl, hR1, fun H2 U2 hR2 => ⟨_, rfl, q _ (U1.trans U2) hR2⟩⟩
end

/-! the program's read_typed, read_phrase, first -/

def rdPh (s : RS) : Ph × RS :=
  (⟨(rdSh s).1, (rdCt (rdSh s).2).1, (rdVb (rdSh s).1 (rdCt (rdSh s).2).1 (rdCt (rdSh s).2).2).1, (rdTg (rdVb (rdSh s).1 (rdCt (rdSh s).2).1 (rdCt (rdSh s).2).2).1 (rdVb (rdSh s).1 (rdCt (rdSh s).2).1 (rdCt (rdSh s).2).2).2).1, (rdTy (rdVb (rdSh s).1 (rdCt (rdSh s).2).1 (rdCt (rdSh s).2).2).1 (rdTg (rdVb (rdSh s).1 (rdCt (rdSh s).2).1 (rdCt (rdSh s).2).2).1 (rdVb (rdSh s).1 (rdCt (rdSh s).2).1 (rdCt (rdSh s).2).2).2).2).1⟩,
   (rdTy (rdVb (rdSh s).1 (rdCt (rdSh s).2).1 (rdCt (rdSh s).2).2).1 (rdTg (rdVb (rdSh s).1 (rdCt (rdSh s).2).1 (rdCt (rdSh s).2).2).1 (rdVb (rdSh s).1 (rdCt (rdSh s).2).1 (rdCt (rdSh s).2).2).2).2).2)
abbrev cNone : List Nat := [110, 111, 110, 101]
abbrev cPhr : List Nat := [112, 104, 114, 97, 115, 101]
abbrev cHlf : List Nat := [104, 97, 108, 102]
def sp_rdph (C : Addr) : Sp := fun vs H Q _ => ∃ (p : Addr) (r : List Nat) (s : RS), vs = [.ref p] ∧ RdAt C p r s H ∧ ∀ t H', Upto p H H' → RdAt C p r (rdPh s).2 H' → H' t = some (.tup (phV (rdPh s).1)) → Q (.ref t) H'
def FirV (H : Hp) (keys : List Nat) (u : Addr) : Prop :=
  if (rdPh (keys, false)).2.2 = false then ∃ v, H v = some (.tup (phV (rdPh (keys, false)).1)) ∧ H u = some (.tup [.str (S cPhr), .ref v, nV (keys.length - (rdPh (keys, false)).2.1.length)])
  else if keys.length - (rdPh (keys, false)).2.1.length = keys.length then H u = some (.tup [.str (S cHlf)]) else H u = some (.tup [.str (S cNone), nV (keys.length - (rdPh (keys, false)).2.1.length + 1)])
def sp_first : Sp := fun vs H Q _ => ∃ keys : List Nat, vs = [.str (S keys)] ∧ keys.length ≤ 1000 ∧ ∀ u H', Same H H' → FirV H' keys u → Q (.ref u) H'
section
variable {P : Program} {w : World} {K : PySem.W.Frag} {mg : Str → Option Value} {base : Heap} {f C A_ENDS : Addr} {fd : FuncData} {k1 k2 k3 k4 k5 k6 k7 k8 : Tok} {t1 t2 t3 u1 u2 u3 : Tok}
variable (O_Reader__meets : OwnM P w K mg base CX0 1 C "meets" ["self", "wanted"] (sp_meets C)) (O_Reader__take : OwnM P w K mg base CX0 2 C "take" ["self", "wanted"] (sp_take C)) (O_Reader__take_all : OwnM P w K mg base CX0 2 C "take_all" ["self", "wanted"] (sp_takeall C))
theorem sc_read_typed : FnScope ["reader", "verb"] ["reader", "verb"] (defScope s_read_typed) := ⟨rfl, rfl, rfl, by decide +kernel, rfl, by decide +kernel, by decide +kernel⟩
include O_Reader__take in
theorem ok_rdty (F : Fun K "read_typed" "read_typed" s_read_typed f fd) (O_read_up_to : Own P w K mg base CX0 3 "read_up_to" ["reader", "end", "wanted"] (sp_rdup C)) (m_SIGNS : mg "SIGNS" = some (.str (S lit_SIGNS) k1)) (m_LETTERS : mg "LETTERS" = some (.str (S lit_LETTERS) k2)) (m_ENDS : mg "ENDS" = some (.ref A_ENDS)) (DE : KDictS K w A_ENDS [([88], t1, [126], u1), ([84], t2, [126], u2), ([58], t3, [10], u3)]) : FnOk P w K mg base CX0 4 f fd ["reader", "verb"] (sp_rdv C rdTy) := by
  refine F.ok sc_read_typed (fun vs H Q E h => ?_) (fun cdv A outer s H vs Q E hr h => ?_)
  · obtain ⟨p, r, vb, s, rfl, _⟩ := h
    rfl
  obtain ⟨p, r, vb, s, rfl, hv, hR, q⟩ := h
  refine ⟨_, (pss_cons (ps_if (pt_cmpR op_in_seq (pv 1) (pe_tup (pa_cons pe_str (pa_cons pe_str pa_nil))) rfl) (pss_one (ps_ret (pe_own O_read_up_to hr (by rfl) pass0 (pa_cons (pv 0) (pa_cons (pe_sget (pe_glob (v := .ref A_ENDS) (by rfl) m_ENDS rfl) (pv 1) (fun _ _ => rfl)) (pa_cons (pe_op op_adS (pe_glob (v := .str (S lit_SIGNS)) (by rfl) m_SIGNS ⟨_, rfl⟩) pe_str) pa_nil)))))) pss_nil)
      (pss_cons (ps_if (pt_cmpR op_eq (pv 1) pe_str (nomark _)) (pss_one (ps_ret (pe_own O_read_up_to hr (by rfl) pass0 (pa_cons (pv 0) (pa_cons (pe_sget (pe_glob (v := .ref A_ENDS) (by rfl) m_ENDS rfl) (pv 1) (fun _ _ => rfl)) (pa_cons (pe_op op_adS (pe_glob (v := .str (S lit_SIGNS)) (by rfl) m_SIGNS ⟨_, rfl⟩) pe_str) pa_nil)))))) pss_nil)
      (pss_cons (ps_if (pt_cmpR op_eq (pv 1) pe_str (nomark _)) (pss_one (ps_ret (pe_ownM O_Reader__take hr (pv 0) pass0 (pa_cons (pe_glob (v := .str (S lit_SIGNS)) (by rfl) m_SIGNS ⟨_, rfl⟩) pa_nil)))) pss_nil)
      (pss_cons (ps_if (pt_cmpR op_in_seq (pv 1) (pe_tup (pa_cons pe_str (pa_cons pe_str (pa_cons pe_str pa_nil)))) rfl) (pss_one (ps_ret (pe_ownM O_Reader__take hr (pv 0) pass0 (pa_cons (pe_glob (v := .str (S lit_LETTERS)) (by rfl) m_LETTERS ⟨_, rfl⟩) pa_nil)))) pss_nil)
      (pss_cons (ps_if (pt_cmpR op_eq (pv 1) pe_str (nomark _)) (pss_one (ps_ret (pe_ownM O_Reader__take hr (pv 0) pass0 (pa_cons pe_str pa_nil)))) pss_nil)
      (pss_one (ps_ret pe_str))))))), ?_⟩
  unfold rdTy at q
  refine ⟨_, rfl, (by show 2 ≤ sizeLine; decide), fun t ht => ⟨t, _, rfl, .inr (SqT.of upd_same), rfl, rfl, _, rfl, ?_⟩⟩
  have S2 : Same H (upd H t (.tup [V.str "X", V.str "T"])) := same_new ht _
  have hR2 := hR.same S2
  have U2 := S2.upto p
  obtain ⟨⟨dx2, hp2⟩, _, _⟩ := id hR2
  show if inV (V.str (S vb)) [.str (S [88]), .str (S [84])] = true then _ else _
  rw [in2]
  by_cases e : vb = [88] ∨ vb = [84]
  · rw [if_pos e] at q
    have hs : ∃ v, sAt [([88], t1, [126], u1), ([84], t2, [126], u2), ([58], t3, [10], u3)] vb = some v ∧ v.1 = [126] := by
      rcases e with rfl | rfl
      · exact ⟨_, rfl, rfl⟩
      · exact ⟨_, rfl, rfl⟩
    obtain ⟨v, hv1, hv2⟩ := hs
    refine iteDT e ⟨_, rfl, _, rfl, A_ENDS, _, vb, v, rfl, DE, rfl, hv1, lit_SIGNS, [10], rfl, rfl, small (by decide), p, r, [126], lit_SIGNS ++ [10], s, by rw [hv2]; rfl, hR2, fun H3 U3 hR3 => q _ (U2.trans U3) hR3⟩
  rw [if_neg e] at q
  refine iteDF e ⟨_, rfl, rfl, _, rfl, ?_⟩
  by_cases e2 : vb = [58]
  · rw [if_pos e2] at q
    subst e2
    exact iteDT rfl ⟨_, rfl, _, rfl, A_ENDS, _, [58], _, rfl, DE, rfl, rfl, lit_SIGNS, [126], rfl, rfl, small (by decide), p, r, [10], lit_SIGNS ++ [126], s, rfl, hR2, fun H3 U3 hR3 => q _ (U2.trans U3) hR3⟩
  rw [if_neg e2] at q
  refine iteDF (fun z => e2 (S_inj (V.str.inj z))) ⟨_, rfl, rfl, _, rfl, ?_⟩
  by_cases e3 : vb = [82]
  · rw [if_pos e3] at q
    exact iteDT (by rw [e3]; rfl) ⟨_, rfl, p, dx2, _, rfl, hp2, rd_no2 _ _ _, p, r, lit_SIGNS, s, rfl, hR2, fun H3 U3 hR3 => q _ (U2.trans U3) hR3⟩
  rw [if_neg e3] at q
  refine iteDF (fun z => e3 (S_inj (V.str.inj z))) ⟨_, rfl, (by show 3 ≤ sizeLine; decide), fun t' ht' => ⟨t', _, rfl, .inr (SqT.of upd_same), rfl, rfl, _, rfl, ?_⟩⟩
  have S3 : Same (upd H t (.tup [V.str "X", V.str "T"])) (upd (upd H t (.tup [V.str "X", V.str "T"])) t' (.tup [V.str "M", V.str "K", V.str "@"])) := same_new ht' _
  have hR3 := hR2.same S3
  have U3 := U2.trans (S3.upto p)
  obtain ⟨⟨dx3, hp3⟩, _, _⟩ := id hR3
  show if inV (V.str (S vb)) [.str (S [77]), .str (S [75]), .str (S [64])] = true then _ else _
  rw [in3']
  by_cases e4 : vb = [77] ∨ vb = [75] ∨ vb = [64]
  · rw [if_pos e4] at q
    exact iteDT e4 ⟨_, rfl, p, dx3, _, rfl, hp3, rd_no2 _ _ _, p, r, lit_LETTERS, s, rfl, hR3, fun H4 U4 hR4 => q _ (U3.trans U4) hR4⟩
  rw [if_neg e4] at q
  refine iteDF e4 ⟨_, rfl, rfl, _, rfl, ?_⟩
  by_cases e5 : vb = [86]
  · rw [if_pos e5] at q
    exact iteDT (by rw [e5]; rfl) ⟨_, rfl, p, dx3, _, rfl, hp3, rd_no2 _ _ _, p, r, [115, 114, 98], s, rfl, hR3, fun H4 U4 hR4 => q _ (U3.trans U4) hR4⟩
  rw [if_neg e5] at q
  exact iteDF (fun z => e5 (S_inj (V.str.inj z))) (q _ U3 hR3)
theorem sc_read_phrase : FnScope ["reader", "shelf", "count", "verb", "target"] ["reader"] (defScope s_read_phrase) := ⟨rfl, rfl, rfl, by decide +kernel, rfl, by decide +kernel, by decide +kernel⟩
theorem ok_rdph (F : Fun K "read_phrase" "read_phrase" s_read_phrase f fd) (O_read_shelf : Own P w K mg base CX0 3 "read_shelf" ["reader"] (sp_rd C rdSh)) (O_read_count : Own P w K mg base CX0 3 "read_count" ["reader"] (sp_rdct C)) (O_read_verb : Own P w K mg base CX0 3 "read_verb" ["reader", "shelf", "count"] (sp_rdvb C)) (O_read_target : Own P w K mg base CX0 4 "read_target" ["reader", "verb"] (sp_rdv C rdTg)) (O_read_typed : Own P w K mg base CX0 4 "read_typed" ["reader", "verb"] (sp_rdv C rdTy)) : FnOk P w K mg base CX0 5 f fd ["reader"] (sp_rdph C) := by
  refine F.ok sc_read_phrase (fun vs H Q E h => ?_) (fun cdv A outer s H vs Q E hr h => ?_)
  · obtain ⟨p, r, s, rfl, _⟩ := h
    rfl
  obtain ⟨p, r, s, rfl, hR, q⟩ := h
  refine ⟨_, (pss_cons (ps_set (i := 1) sc_read_phrase.nd rfl (Or.inl rfl) (pe_own O_read_shelf hr (by rfl) pass0 (pa_cons (pv 0) pa_nil)))
      (pss_cons (ps_set (i := 2) sc_read_phrase.nd rfl (Or.inl rfl) (pe_own O_read_count hr (by rfl) pass0 (pa_cons (pv 0) pa_nil)))
      (pss_cons (ps_set (i := 3) sc_read_phrase.nd rfl (Or.inl rfl) (pe_own O_read_verb hr (by rfl) pass0 (pa_cons (pv 0) (pa_cons (pv 1) (pa_cons (pv 2) pa_nil)))))
      (pss_cons (ps_set (i := 4) sc_read_phrase.nd rfl (Or.inl rfl) (pe_own O_read_target hr (by rfl) pass0 (pa_cons (pv 0) (pa_cons (pv 3) pa_nil))))
      (pss_one (ps_ret (pe_tup (pa_cons (pv 1) (pa_cons (pv 2) (pa_cons (pv 3) (pa_cons (pv 4) (pa_cons (pe_own O_read_typed hr (by rfl) pass0 (pa_cons (pv 0) (pa_cons (pv 3) pa_nil))) pa_nil)))))))))))), ?_⟩
  refine ⟨_, rfl, p, r, s, rfl, hR, fun H1 U1 hR1 => ?_⟩
  refine ⟨_, rfl, p, r, _, rfl, hR1, fun H2 U2 hR2 => ?_⟩
  refine ⟨_, rfl, _, rfl, _, rfl, p, r, _, _, _, rfl, hR2, fun H3 U3 hR3 => ?_⟩
  refine ⟨_, rfl, _, rfl, p, r, _, _, rfl, rdVb_one _ _ _, hR3, fun H4 U4 hR4 => ?_⟩
  refine ⟨_, rfl, _, rfl, _, rfl, _, rfl, _, rfl, _, rfl, p, r, _, _, rfl, rdVb_one _ _ _, hR4, fun H5 U5 hR5 => ⟨(by show 5 ≤ sizeLine; decide), fun t ht => ?_⟩⟩
  exact q t _ (U1.trans (U2.trans (U3.trans (U4.trans (U5.trans ((same_new ht _).upto p)))))) (hR5.same (same_new ht _)) upd_same
theorem sc_first : FnScope ["keys", "reader", "phrase"] ["keys"] (defScope s_first) := ⟨rfl, rfl, rfl, by decide +kernel, rfl, by decide +kernel, by decide +kernel⟩
theorem ok_first (F : Fun K "first" "first" s_first f fd) (T : RdrT K C) (O_Reader : OwnMk P w K mg base CX0 1 C "Reader" ["self", "row"] (sp_rinit C)) (O_read_phrase : Own P w K mg base CX0 5 "read_phrase" ["reader"] (sp_rdph C)) (m_len : mg "len" = none) : FnOk P w K mg base CX0 6 f fd ["keys"] sp_first := by
  refine F.ok sc_first (fun vs H Q E h => ?_) (fun cdv A outer s H vs Q E hr h => ?_)
  · obtain ⟨keys, rfl, _⟩ := h
    rfl
  obtain ⟨keys, rfl, hl, q⟩ := h
  refine ⟨_, (pss_cons (ps_set (i := 1) sc_first.nd rfl (Or.inl rfl) (pe_ownMk O_Reader hr (by rfl) pass0 (pa_cons (pv 0) pa_nil)))
      (pss_cons (ps_set (i := 2) sc_first.nd rfl (Or.inl rfl) (pe_own O_read_phrase hr (by rfl) pass0 (pa_cons (pv 1) pa_nil)))
      (pss_cons (ps_if (pt_not (pt_val (pe_fld (pv 1) rfl))) (pss_one (ps_ret (pe_tup (pa_cons pe_str (pa_cons (pv 2) (pa_cons (pe_fld (pv 1) rfl) pa_nil)))))) pss_nil)
      (pss_cons (ps_if (pt_cmpR op_eq (pe_fld (pv 1) rfl) (pe_callB call_lenS (by rfl) m_len PySem.boot_len (pa_cons (pv 0) pa_nil)) (nomark _)) (pss_one (ps_ret (pe_tup (pa_cons pe_str pa_nil)))) pss_nil)
      (pss_one (ps_ret (pe_tup (pa_cons pe_str (pa_cons (pe_op op_add (pe_fld (pv 1) rfl) pe_int) pa_nil))))))))), ?_⟩
  refine ⟨_, rfl, fun x dx nx ndx nex => ⟨x, dx, keys, rfl, upd_same, hl, fun H1 U1 hR1 => ⟨rfl, ?_⟩⟩⟩
  have s0 : Same H (upd (upd H dx (.own x)) x (.ins C dx [])) := fun b o e => by
    rw [upd_ne (ne_of_none e nx), upd_ne (ne_of_none e ndx)]
    exact e
  have S1 : Same H H1 := fun b o e => U1 b o (ne_of_none e nx) (s0 b o e)
  refine ⟨_, rfl, x, keys, (keys, false), rfl, hR1, fun t H2 U2 hR2 ht => ?_⟩
  have S2 : Same H H2 := fun b o e => U2 b o (ne_of_none e nx) (S1 b o e)
  obtain ⟨⟨dx2, hp2⟩, sf2, _⟩ := id hR2
  refine ⟨_, rfl, x, C, dx2, _, _, rfl, hp2, T.cl, T.nS, rd_stuck _ _ _, _, rfl, ?_⟩
  have q' : ∀ u H', Same H H' → FirV H' keys u → Q (.ref u) H' := q
  unfold FirV at q'
  cases eb : (rdPh (keys, false)).2.2 with
  | false =>
    rw [eb] at hp2
    simp only [eb, if_true] at q'
    exact iteT ⟨_, rfl, _, rfl, x, C, dx2, _, _, rfl, hp2, T.cl, T.nA, rd_at _ _ _, (by show 3 ≤ sizeLine; decide), fun u hu => q' u _ (S2.trans (same_new hu _)) ⟨t, same_new hu _ _ _ ht, upd_same⟩⟩
  | true =>
    rw [eb] at hp2
    simp only [eb, Bool.true_eq_false, if_false] at q'
    refine iteF ⟨_, rfl, x, C, dx2, _, _, rfl, hp2, T.cl, T.nA, rd_at _ _ _, _, rfl, keys, rfl, small (by omega), rfl, _, rfl, ?_⟩
    by_cases c : keys.length - (rdPh (keys, false)).2.1.length = keys.length
    · exact iteDT (by rw [c]; rfl) ⟨(by show 1 ≤ sizeLine; decide), fun u hu => q' u _ (S2.trans (same_new hu _)) (by rw [if_pos c]; exact upd_same)⟩
    · refine iteDF (fun z => c (by have := V.int.inj z; omega)) ⟨_, rfl, x, C, dx2, _, _, rfl, hp2, T.cl, T.nA, rd_at _ _ _, _, _, rfl, rfl, (by show 2 ≤ sizeLine; decide), fun u hu => q' u _ (S2.trans (same_new hu _)) ?_⟩
      rw [if_neg c, upd_same]
      show some (HO.tup [V.str "none", V.int (((keys.length - (rdPh (keys, false)).2.1.length : Nat) : Int) + 1)]) = _
      rw [show ((keys.length - (rdPh (keys, false)).2.1.length : Nat) : Int) + 1 = ((keys.length - (rdPh (keys, false)).2.1.length + 1 : Nat) : Int) by omega]
      rfl
end

end My

set_option Elab.async false
set_option linter.all false
set_option maxRecDepth 100000
set_option maxHeartbeats 4000000
namespace My
open PySem L2

/-! the law's machine of states, and that it tells what the reader tells -/
theorem base_disp {ks : List (Option Expr)} {vs : List Expr} {pos : Pos} {m : Str} {env : Env} {w : Sem Value} : attributeBase (.Dict ks vs pos) m env w = w := rfl
abbrev AL : List Nat := lit_SIGNS ++ [10, 126]
inductive Nw
  | st | sh | bh | ct | tg | sg | mk | on | rn | en | rd | bd | ai
  deriving DecidableEq
structure MS where
  sh : List Nat
  ct : List Nat
  vb : List Nat
  tg : List Nat
  ty : List Nat
abbrev lMV : List Nat := [104, 108, 106, 107, 98, 101, 119, 118, 111, 103, 122, 112, 102, 116, 109]
abbrev lEnd : List Nat := [90, 65, 78, 69, 76, 46, 104, 108, 106, 107, 98, 101, 119, 118, 111, 103, 122, 112]
abbrev lAim : List Nat := [104, 108, 106, 107, 98, 101, 119, 118, 111, 103, 122, 112, 99, 97, 105, 114, 40, 91, 123, 41, 93, 125, 39, 34, 115]
def ftm (c : Nat) : Nw := if c = 102 then .sg else if c = 116 then .sg else if c = 109 then .mk else .bd
def opened (c : Nat) (hs hc : Bool) : Nw :=
  if c ∈ [67, 89, 88] then .tg else if c = 80 then .en else if hs = true ∨ (c ∈ [77, 75, 86, 58] ∧ hc = true) then .bd else if c ∈ [71, 83, 68, 70, 74] then .tg else if c ∈ lEnd then .en else if c ∈ [82, 77, 75, 86, 64] then .on else if c ∈ [84, 58] then .rn else ftm c
def aimedN (c : Nat) : Nw := if c ∈ lAim then .ai else ftm c
def oneN (vb : List Nat) (c : Nat) : Nw := if vb = [86] then (if c ∈ [115, 114, 98] then .en else .bd) else if vb = [82] then (if ¬ c = 10 ∧ ¬ c = 126 then .en else .bd) else if c ∈ lit_LETTERS then .en else .bd
def runN (vb : List Nat) (c : Nat) : Nw := if c = (if vb = [58] then 10 else 126) then .rd else if c ∈ [10, 126] ∧ ¬ c = (if vb = [58] then 126 else 10) then .bd else .rn
def begunN (n : Nw) (m : MS) (c : Nat) : Nw × MS :=
  if n = .st ∧ c = 34 then (.sh, m)
  else if n = .sh then (if c ∈ lit_LETTERS then (.bh, { m with sh := [c] }) else (.bd, m))
  else if c ∈ d09 then (if (m.ct ++ [c]).head? = some 48 ∨ (m.ct ++ [c]).length > 3 then .bd else .ct, { m with ct := m.ct ++ [c] })
  else (opened c (decide (¬ m.sh = [])) (decide (¬ m.ct = [])), if c ∈ lMV then { m with tg := [c] } else { m with vb := [c] })
def aimS (n : Nw) (c : Nat) : Nw := if n = .tg then aimedN c else if n = .sg then (if c ∈ [10, 126] then .bd else .ai) else (if c ∈ lit_LETTERS then .ai else .bd)
def nextN (n : Nw) (m : MS) (c : Nat) : Nw × MS :=
  if n = .st ∨ n = .sh ∨ n = .bh ∨ n = .ct then begunN n m c
  else if n = .tg ∨ n = .sg ∨ n = .mk then (if aimS n c = .ai then (if m.vb = [88] then .rn else .en) else aimS n c, { m with tg := m.tg ++ [c] })
  else if n = .on then (oneN m.vb c, { m with ty := [c] })
  else (runN m.vb c, if runN m.vb c = .rn then { m with ty := m.ty ++ [c] } else m)
inductive Res
  | half
  | non (n : Nat)
  | phr (p : Ph) (n : Nat)
def cnt (l : List Nat) : Option Nat := if l = [] then none else some (numL l)
def phOf (m : MS) : Ph := ⟨m.sh, cnt m.ct, m.vb, m.tg, m.ty⟩
def goN : Nw → MS → Nat → List Nat → Res
  | _, _, _, [] => .half
  | n, m, i, c :: r => if (nextN n m c).1 = .bd then .non (i + 1) else if (nextN n m c).1 = .en ∨ (nextN n m c).1 = .rd then .phr (phOf (nextN n m c).2) (i + 1) else goN (nextN n m c).1 (nextN n m c).2 (i + 1) r
def goX (n : Nw) (m : MS) (i : Nat) (r : List Nat) : Res := if n = .bd then .non i else if n = .en ∨ n = .rd then .phr (phOf m) i else goN n m i r
theorem go_cons (n : Nw) (m : MS) (i c : Nat) (r : List Nat) : goN n m i (c :: r) = goX (nextN n m c).1 (nextN n m c).2 (i + 1) r := rfl
def finR (L : Nat) (p : Ph) (s : RS) : Res := if s.2 = false then .phr p (L - s.1.length) else if s.1 = [] then .half else .non (L - s.1.length + 1)
def restR (sh : List Nat) (ct : Option Nat) (s : RS) : Ph × RS :=
  (⟨sh, ct, (rdVb sh ct s).1, (rdTg (rdVb sh ct s).1 (rdVb sh ct s).2).1, (rdTy (rdVb sh ct s).1 (rdTg (rdVb sh ct s).1 (rdVb sh ct s).2).2).1⟩, (rdTy (rdVb sh ct s).1 (rdTg (rdVb sh ct s).1 (rdVb sh ct s).2).2).2)
theorem rdPh_rest (s : RS) : rdPh s = restR (rdSh s).1 (rdCt (rdSh s).2).1 (rdCt (rdSh s).2).2 := rfl
theorem tk_nil (w : List Nat) : tk w ([], false) = ([], ([], true)) := rfl
theorem mt_c (w : List Nat) (c : Nat) (u : List Nat) : mt w (c :: u, false) = decide (c ∈ w) := rfl
theorem tk_yes {w : List Nat} {c : Nat} {u : List Nat} (h : c ∈ w) : tk w (c :: u, false) = ([c], (u, false)) := by unfold tk; rw [mt_c, decide_eq_true h, if_pos rfl]; rfl
theorem tk_no {w : List Nat} {c : Nat} {u : List Nat} (h : ¬ c ∈ w) : tk w (c :: u, false) = ([], (c :: u, true)) := by unfold tk; rw [mt_c, decide_eq_false h, if_neg (by decide)]
theorem rdTg_stk (vb x : List Nat) : (rdTg vb (x, true)).2 = (x, true) := by
  cases vb with
  | nil => rfl
  | cons v vs =>
    show (if v ∈ lit_WITH_TARGET then rdAim (lit_MOVES ++ lit_THINGS) (x, true) else ([], (x, true))).2 = _
    split <;> rfl
theorem rdTy_stk (vb x : List Nat) : (rdTy vb (x, true)).2 = (x, true) := by
  unfold rdTy
  split
  · rfl
  split
  · rfl
  split
  · rfl
  split
  · rfl
  split <;> rfl
theorem rest_stk {sh : List Nat} {ct : Option Nat} {s : RS} {x : List Nat} (h : (rdVb sh ct s).2 = (x, true)) : (restR sh ct s).2 = (x, true) := by
  show (rdTy _ (rdTg (rdVb sh ct s).1 (rdVb sh ct s).2).2).2 = _
  rw [h, rdTg_stk, rdTy_stk]
theorem rdVb_stk (sh : List Nat) (ct : Option Nat) (x : List Nat) : (rdVb sh ct (x, true)).2 = (x, true) := by
  unfold rdVb
  split
  · rfl
  split
  · rename_i h
    cases h
  split <;> rfl
theorem rest_nil (sh : List Nat) (ct : Option Nat) : (restR sh ct ([], false)).2 = ([], true) := by
  refine rest_stk ?_
  unfold rdVb
  split
  · rfl
  split
  · rename_i h
    cases h
  split <;> rfl
theorem fin_half {L : Nat} {p : Ph} {s : RS} (h : s = ([], true)) : finR L p s = .half := by subst h; rfl
theorem fin_non {L i c : Nat} {p : Ph} {s : RS} {u : List Nat} (hL : i + (u.length + 1) = L) (h : s = (c :: u, true)) : finR L p s = .non (i + 1) := by
  subst h
  show Res.non (L - (u.length + 1) + 1) = _
  rw [show L - (u.length + 1) = i by omega]
theorem fin_phr {L i : Nat} {p : Ph} {s : RS} {u : List Nat} (hL : i + u.length = L) (h : s = (u, false)) : finR L p s = .phr p i := by
  subst h
  show Res.phr p (L - u.length) = _
  rw [show L - u.length = i by omega]
theorem run_ends (e : Nat) (wd : List Nat) (he : ¬ e ∈ wd) {L : Nat} {sh ct vb tg : List Nat} (hrun : ∀ c, c = e ∨ c ∈ wd → runN vb c = if c = e then .rd else .rn) :
    ∀ (r ty : List Nat) (i : Nat), (∀ c ∈ r, c = e ∨ c ∈ wd) → i + r.length = L → goN .rn ⟨sh, ct, vb, tg, ty⟩ i r = finR L ⟨sh, cnt ct, vb, tg, ty ++ (rdUp [e] wd (r, false)).1⟩ (rdUp [e] wd (r, false)).2
  | [], ty, i, _, _ => rfl
  | c :: u, ty, i, hc, hL => by
    have hn : nextN .rn ⟨sh, ct, vb, tg, ty⟩ c = (runN vb c, if runN vb c = .rn then ⟨sh, ct, vb, tg, ty ++ [c]⟩ else ⟨sh, ct, vb, tg, ty⟩) := rfl
    rw [go_cons, hn, hrun c (hc c List.mem_cons_self)]
    have e0 : rdUp [e] wd (c :: u, false) = ((c :: u).takeWhile (fun c => decide (c ∈ wd)), (tk [e] ((c :: u).dropWhile (fun c => decide (c ∈ wd)), false)).2) := rfl
    by_cases h : c = e
    · rw [if_pos h, e0, List.takeWhile_cons, List.dropWhile_cons, decide_eq_false (by rw [h]; exact he)]
      show Res.phr ⟨sh, cnt ct, vb, tg, ty⟩ (i + 1) = finR L ⟨sh, cnt ct, vb, tg, ty ++ []⟩ (tk [e] (c :: u, false)).2
      rw [tk_yes (by rw [h]; exact List.mem_cons_self), List.append_nil]
      exact (fin_phr (by have : i + (u.length + 1) = L := hL; omega) rfl).symm
    · have hw : c ∈ wd := (hc c List.mem_cons_self).resolve_left h
      rw [if_neg h, e0, List.takeWhile_cons, List.dropWhile_cons, decide_eq_true hw]
      show goN .rn ⟨sh, ct, vb, tg, ty ++ [c]⟩ (i + 1) u = finR L ⟨sh, cnt ct, vb, tg, ty ++ (c :: u.takeWhile (fun c => decide (c ∈ wd)))⟩ (tk [e] (u.dropWhile (fun c => decide (c ∈ wd)), false)).2
      rw [run_ends e wd he (L := L) (sh := sh) (ct := ct) (vb := vb) (tg := tg) hrun u (ty ++ [c]) (i + 1) (fun x hx => hc x (List.mem_cons_of_mem _ hx)) (by have : i + (u.length + 1) = L := hL; omega), List.append_assoc]
      rfl
theorem al_tilde : ∀ c ∈ AL, c = 126 ∨ c ∈ lit_SIGNS ++ [10] := by decide +kernel
theorem al_feed : ∀ c ∈ AL, c = 10 ∨ c ∈ lit_SIGNS ++ [126] := by decide +kernel
theorem run_x (vb : List Nat) (h : ¬ vb = [58]) (c : Nat) : runN vb c = if c = 126 then .rd else .rn := by
  unfold runN
  rw [if_neg h]
  by_cases e : c = 126
  · rw [if_pos e, if_pos e]
  · rw [if_neg e, if_neg e, if_neg (fun z => by
      rw [if_neg h] at z
      rcases List.mem_cons.mp z.1 with y | y
      · exact z.2 y
      · rcases List.mem_cons.mp y with y | y
        · exact e y
        · cases y)]
theorem run_c (c : Nat) : runN [58] c = if c = 10 then .rd else .rn := by
  unfold runN
  rw [if_pos rfl]
  by_cases e : c = 10
  · rw [if_pos e, if_pos e]
  · rw [if_neg e, if_neg e, if_neg (fun z => by
      rw [if_pos rfl] at z
      rcases List.mem_cons.mp z.1 with y | y
      · exact e y
      · rcases List.mem_cons.mp y with y | y
        · exact z.2 y
        · cases y)]
theorem go_run {L : Nat} {sh ct vb tg : List Nat} (hv : vb = [88] ∨ vb = [84] ∨ vb = [58]) (r : List Nat) (i : Nat) (hr : ∀ c ∈ r, c ∈ AL) (hL : i + r.length = L) :
    goN .rn ⟨sh, ct, vb, tg, []⟩ i r = finR L ⟨sh, cnt ct, vb, tg, (rdTy vb (r, false)).1⟩ (rdTy vb (r, false)).2 := by
  by_cases h : vb = [58]
  · subst h
    exact run_ends 10 (lit_SIGNS ++ [126]) (by decide +kernel) (fun c _ => run_c c) r [] i (fun c hc => al_feed c (hr c hc)) hL
  · have e : rdTy vb (r, false) = rdUp [126] (lit_SIGNS ++ [10]) (r, false) := by
      unfold rdTy
      rw [if_pos (by rcases hv with z | z | z; exact .inl z; exact .inr z; exact absurd z h)]
    rw [e]
    exact run_ends 126 (lit_SIGNS ++ [10]) (by decide +kernel) (fun c _ => run_x vb h c) r [] i (fun c hc => al_tilde c (hr c hc)) hL
theorem al_sign : ∀ c ∈ AL, (¬ c = 10 ∧ ¬ c = 126) = (c ∈ lit_SIGNS) := fun c hc => propext ((by decide +kernel : ∀ c ∈ AL, (¬ c = 10 ∧ ¬ c = 126) ↔ c ∈ lit_SIGNS) c hc)
theorem go_on {L : Nat} {sh ct vb tg : List Nat} (hv : vb = [82] ∨ vb = [77] ∨ vb = [75] ∨ vb = [64] ∨ vb = [86]) (r : List Nat) (i : Nat) (hr : ∀ c ∈ r, c ∈ AL) (hL : i + r.length = L) :
    goN .on ⟨sh, ct, vb, tg, []⟩ i r = finR L ⟨sh, cnt ct, vb, tg, (rdTy vb (r, false)).1⟩ (rdTy vb (r, false)).2 := by
  obtain ⟨W, h1, h2⟩ : ∃ W : List Nat, (∀ s, rdTy vb s = tk W s) ∧ ∀ c ∈ AL, oneN vb c = if c ∈ W then .en else .bd := by
    rcases hv with rfl | rfl | rfl | rfl | rfl
    · refine ⟨lit_SIGNS, fun s => rfl, fun c hc => ?_⟩
      show (if ¬ c = 10 ∧ ¬ c = 126 then Nw.en else .bd) = _
      simp only [al_sign c hc]
    · exact ⟨lit_LETTERS, fun s => rfl, fun c hc => rfl⟩
    · exact ⟨lit_LETTERS, fun s => rfl, fun c hc => rfl⟩
    · exact ⟨lit_LETTERS, fun s => rfl, fun c hc => rfl⟩
    · exact ⟨[115, 114, 98], fun s => rfl, fun c hc => rfl⟩
  rw [h1]
  cases r with
  | nil => exact (fin_half rfl).symm
  | cons c u =>
    have hn : nextN .on ⟨sh, ct, vb, tg, []⟩ c = (oneN vb c, ⟨sh, ct, vb, tg, [c]⟩) := rfl
    rw [go_cons, hn, h2 c (hr c List.mem_cons_self)]
    have hL' : i + (u.length + 1) = L := hL
    by_cases h : c ∈ W
    · rw [if_pos h, tk_yes h]
      exact (fin_phr (by omega) rfl).symm
    · rw [if_neg h, tk_no h]
      exact (fin_non hL' rfl).symm
theorem go_aft {L : Nat} {sh ct vb tg : List Nat} (hv : vb = [] ∨ ∃ v, vb = [v] ∧ v ∈ lit_WITH_TARGET) (r : List Nat) (i : Nat) (hr : ∀ c ∈ r, c ∈ AL) (hL : i + r.length = L) :
    goX (if vb = [88] then .rn else .en) ⟨sh, ct, vb, tg, []⟩ i r = finR L ⟨sh, cnt ct, vb, tg, (rdTy vb (r, false)).1⟩ (rdTy vb (r, false)).2 := by
  by_cases h : vb = [88]
  · rw [if_pos h]
    exact go_run (.inl h) r i hr hL
  · rw [if_neg h]
    have e : rdTy vb (r, false) = ([], (r, false)) := by
      rcases hv with rfl | ⟨v, rfl, hv⟩
      · rfl
      · have hne : ¬ v = 88 := fun z => h (by rw [z])
        have : ∀ v ∈ lit_WITH_TARGET, ¬ v = 88 → ∀ s : RS, rdTy [v] s = ([], s) := by
          intro v hv hne s
          have hl : v = 67 ∨ v = 89 ∨ v = 71 ∨ v = 83 ∨ v = 68 ∨ v = 70 ∨ v = 74 := by
            have := (by decide : ∀ v ∈ lit_WITH_TARGET, ¬ v = 88 → (v = 67 ∨ v = 89 ∨ v = 71 ∨ v = 83 ∨ v = 68 ∨ v = 70 ∨ v = 74)) v hv hne
            exact this
          rcases hl with rfl | rfl | rfl | rfl | rfl | rfl | rfl <;> rfl
        exact this v hv hne _
    rw [e]
    exact (fin_phr hL rfl).symm
theorem go_aimed {L : Nat} {n : Nw} {W : List Nat} (hn : n = .sg ∨ n = .mk) {sh ct vb tg : List Nat} (hW : ∀ c ∈ AL, aimS n c = if c ∈ W then .ai else .bd) (hv : vb = [] ∨ ∃ v, vb = [v] ∧ v ∈ lit_WITH_TARGET) (r : List Nat) (i : Nat) (hr : ∀ c ∈ r, c ∈ AL) (hL : i + r.length = L) :
    goN n ⟨sh, ct, vb, tg, []⟩ i r = finR L ⟨sh, cnt ct, vb, tg ++ (tk W (r, false)).1, (rdTy vb (tk W (r, false)).2).1⟩ (rdTy vb (tk W (r, false)).2).2 := by
  cases r with
  | nil =>
    rw [tk_nil]
    exact (fin_half (rdTy_stk vb [])).symm
  | cons c u =>
    have hx : nextN n ⟨sh, ct, vb, tg, []⟩ c = (if aimS n c = .ai then (if vb = [88] then .rn else .en) else aimS n c, ⟨sh, ct, vb, tg ++ [c], []⟩) := by rcases hn with rfl | rfl <;> rfl
    have hL' : i + (u.length + 1) = L := hL
    rw [go_cons, hx, hW c (hr c List.mem_cons_self)]
    by_cases h : c ∈ W
    · rw [if_pos h, if_pos rfl, tk_yes h]
      exact go_aft hv u (i + 1) (fun x hx => hr x (List.mem_cons_of_mem _ hx)) (by omega)
    · rw [if_neg h, if_neg (by decide), tk_no h]
      exact (fin_non hL' (rdTy_stk vb _)).symm
theorem aim_sg : ∀ c ∈ AL, aimS .sg c = if c ∈ lit_SIGNS then .ai else .bd := by
  intro c hc
  show (if c ∈ [10, 126] then Nw.bd else .ai) = _
  by_cases h : c ∈ lit_SIGNS
  · rw [if_pos h, if_neg ((by decide +kernel : ∀ c ∈ lit_SIGNS, ¬ c ∈ [10, 126]) c h)]
  · rw [if_neg h, if_pos ((by decide +kernel : ∀ c ∈ AL, ¬ c ∈ lit_SIGNS → c ∈ [10, 126]) c hc h)]
theorem aim_mk : ∀ c ∈ AL, aimS .mk c = if c ∈ lit_LETTERS then .ai else .bd := fun c _ => rfl
theorem go_ftm {L : Nat} {x : Nw} {W : List Nat} {sh ct vb : List Nat} {c : Nat} (hW : c ∈ W) (hx : x = if c = 102 ∨ c = 116 then .sg else if c = 109 then .mk else if vb = [88] then .rn else .en) (hv : vb = [] ∨ ∃ v, vb = [v] ∧ v ∈ lit_WITH_TARGET) (u : List Nat) (i : Nat) (hr : ∀ c ∈ u, c ∈ AL) (hL : i + (u.length + 1) = L) :
    goX x ⟨sh, ct, vb, [c], []⟩ (i + 1) u = finR L ⟨sh, cnt ct, vb, (rdAim W (c :: u, false)).1, (rdTy vb (rdAim W (c :: u, false)).2).1⟩ (rdTy vb (rdAim W (c :: u, false)).2).2 := by
  subst hx
  unfold rdAim
  rw [tk_yes hW]
  by_cases h1 : c = 102 ∨ c = 116
  · have h1' : [c] = [102] ∨ [c] = [116] := by rcases h1 with z | z; exact .inl (by rw [z]); exact .inr (by rw [z])
    rw [if_pos h1, if_pos h1']
    exact go_aimed (.inl rfl) aim_sg hv u (i + 1) hr (by omega)
  · have h1' : ¬ ([c] = [102] ∨ [c] = [116]) := fun z => h1 (by rcases z with z | z; exact .inl (List.cons.inj z).1; exact .inr (List.cons.inj z).1)
    rw [if_neg h1, if_neg h1']
    by_cases h2 : c = 109
    · rw [if_pos h2, if_pos (by rw [h2])]
      exact go_aimed (.inr rfl) aim_mk hv u (i + 1) hr (by omega)
    · rw [if_neg h2, if_neg (fun z => h2 (List.cons.inj z).1)]
      exact go_aft hv u (i + 1) hr (by omega)
theorem go_tg {L : Nat} {sh ct : List Nat} {v : Nat} (hv : v ∈ lit_WITH_TARGET) (r : List Nat) (i : Nat) (hr : ∀ c ∈ r, c ∈ AL) (hL : i + r.length = L) :
    goN .tg ⟨sh, ct, [v], [], []⟩ i r = finR L ⟨sh, cnt ct, [v], (rdAim (lit_MOVES ++ lit_THINGS) (r, false)).1, (rdTy [v] (rdAim (lit_MOVES ++ lit_THINGS) (r, false)).2).1⟩ (rdTy [v] (rdAim (lit_MOVES ++ lit_THINGS) (r, false)).2).2 := by
  cases r with
  | nil => exact (fin_half (show (rdTy [v] (rdAim (lit_MOVES ++ lit_THINGS) ([], false)).2).2 = ([], true) from rdTy_stk [v] [])).symm
  | cons c u =>
    have hL' : i + (u.length + 1) = L := hL
    have hu : ∀ c ∈ u, c ∈ AL := fun x hx => hr x (List.mem_cons_of_mem _ hx)
    have hx : nextN .tg ⟨sh, ct, [v], [], []⟩ c = (if aimedN c = .ai then (if [v] = [88] then .rn else .en) else aimedN c, ⟨sh, ct, [v], [c], []⟩) := rfl
    rw [go_cons, hx]
    by_cases h : c ∈ lit_MOVES ++ lit_THINGS
    · refine go_ftm h ?_ (.inr ⟨v, rfl, hv⟩) u i hu hL'
      by_cases h1 : c = 102 ∨ c = 116
      · rw [if_pos h1]
        rcases h1 with rfl | rfl <;> rfl
      · rw [if_neg h1]
        by_cases h2 : c = 109
        · rw [if_pos h2, h2]
          rfl
        · rw [if_neg h2]
          have : aimedN c = .ai := by
            unfold aimedN
            exact if_pos ((by decide : ∀ c ∈ lit_MOVES ++ lit_THINGS, ¬ (c = 102 ∨ c = 116) → ¬ c = 109 → c ∈ lAim) c h h1 h2)
          rw [this, if_pos rfl]
    · have e : aimedN c = .bd := by
        unfold aimedN
        rw [if_neg (fun z => h ((by decide : ∀ c ∈ lAim, c ∈ lit_MOVES ++ lit_THINGS) c z))]
        unfold ftm
        rw [if_neg (fun z => h (by rw [z]; decide)), if_neg (fun z => h (by rw [z]; decide)), if_neg (fun z => h (by rw [z]; decide))]
      rw [e, if_neg (by decide)]
      have er : rdAim (lit_MOVES ++ lit_THINGS) (c :: u, false) = ([], (c :: u, true)) := by
        unfold rdAim
        rw [tk_no h]
        rfl
      rw [er]
      exact (fin_non hL' (rdTy_stk [v] _)).symm
theorem op_move : ∀ c ∈ lit_MOVES, ∀ b : Bool, opened c false b = if c = 102 ∨ c = 116 then .sg else if c = 109 then .mk else .en := by decide +kernel
theorem op_with : ∀ c ∈ lit_WITH_COUNT, ∀ b : Bool, opened c false b = if c ∈ lit_WITH_TARGET then .tg else if c = 84 then .rn else if c ∈ [82, 64] then .on else .en := by decide +kernel
theorem op_less : ∀ c ∈ lit_WITHOUT_COUNT, opened c false true = .bd ∧ opened c false false = if c = 58 then .rn else .on := by decide +kernel
theorem op_none : ∀ c ∈ AL, ¬ c ∈ lit_MOVES → ¬ c ∈ lit_WITH_COUNT ++ lit_WITHOUT_COUNT → ∀ b : Bool, opened c false b = .bd := by decide +kernel
theorem op_shelf : ∀ c ∈ AL, ∀ b : Bool, opened c true b = if c ∈ [67, 89, 88] then .tg else if c = 80 then .en else .bd := by decide +kernel
theorem mv_moves : ∀ c ∈ AL, c ∈ lMV ↔ c ∈ lit_MOVES := by decide +kernel
theorem verbs_no : ∀ c ∈ lit_WITH_COUNT ++ lit_WITHOUT_COUNT, ¬ c ∈ lMV := by decide +kernel
theorem ty_none : ∀ c ∈ lit_WITH_COUNT, ¬ c ∈ lit_WITH_TARGET → ¬ c = 84 → ¬ c ∈ [82, 64] → ∀ s : RS, rdTy [c] s = ([], s) := by
  intro c h1 h2 h3 h4 s
  have := (by decide +kernel : ∀ c ∈ lit_WITH_COUNT, ¬ c ∈ lit_WITH_TARGET → ¬ c = 84 → ¬ c ∈ [82, 64] → (c = 80 ∨ c = 90 ∨ c = 65 ∨ c = 78 ∨ c = 69 ∨ c = 76 ∨ c = 46)) c h1 h2 h3 h4
  rcases this with rfl | rfl | rfl | rfl | rfl | rfl | rfl <;> rfl
theorem go_verb {L : Nat} {sh ct : List Nat} {c : Nat} {u : List Nat} {i : Nat} {x : Nw} (hx : x = if c ∈ lit_WITH_TARGET then .tg else if c = 84 ∨ c = 58 then .rn else if c ∈ [82, 64, 77, 75, 86] then .on else .en) (hc : c ∈ lit_WITH_COUNT ++ lit_WITHOUT_COUNT) (hu : ∀ c ∈ u, c ∈ AL) (hL : i + (u.length + 1) = L) :
    goX x ⟨sh, ct, [c], [], []⟩ (i + 1) u = finR L ⟨sh, cnt ct, [c], (rdTg [c] (u, false)).1, (rdTy [c] (rdTg [c] (u, false)).2).1⟩ (rdTy [c] (rdTg [c] (u, false)).2).2 := by
  subst hx
  by_cases h1 : c ∈ lit_WITH_TARGET
  · have e : rdTg [c] (u, false) = rdAim (lit_MOVES ++ lit_THINGS) (u, false) := by
      show (if c ∈ lit_WITH_TARGET then _ else _) = _
      rw [if_pos h1]
    rw [if_pos h1, e]
    exact go_tg h1 u (i + 1) hu (by omega)
  have e : rdTg [c] (u, false) = ([], (u, false)) := by
    show (if c ∈ lit_WITH_TARGET then _ else _) = _
    rw [if_neg h1]
  rw [if_neg h1, e]
  by_cases h2 : c = 84 ∨ c = 58
  · rw [if_pos h2]
    exact go_run (by rcases h2 with z | z; exact .inr (.inl (by rw [z])); exact .inr (.inr (by rw [z]))) u (i + 1) hu (by omega)
  rw [if_neg h2]
  by_cases h3 : c ∈ [82, 64, 77, 75, 86]
  · rw [if_pos h3]
    refine go_on ?_ u (i + 1) hu (by omega)
    have := (by decide : ∀ c ∈ [82, 64, 77, 75, 86], ([c] = [82] ∨ [c] = [77] ∨ [c] = [75] ∨ [c] = [64] ∨ [c] = [86])) c h3
    exact this
  rw [if_neg h3]
  have hw : c ∈ lit_WITH_COUNT := by
    rcases List.mem_append.mp hc with z | z
    · exact z
    · exact ((by decide : ∀ c ∈ lit_WITHOUT_COUNT, (c = 84 ∨ c = 58) ∨ c ∈ [82, 64, 77, 75, 86]) c z).elim (fun y => absurd y h2) (fun y => absurd y h3)
  rw [ty_none c hw h1 (fun z => h2 (.inl z)) (fun z => h3 ((by decide : ∀ c ∈ [82, 64], c ∈ [82, 64, 77, 75, 86]) c z))]
  exact (fin_phr (by omega) rfl).symm
theorem isSome_cnt (ct : List Nat) : (cnt ct).isSome = decide (¬ ct = []) := by
  unfold cnt
  by_cases h : ct = []
  · rw [if_pos h, decide_eq_false (fun z => z h)]; rfl
  · rw [if_neg h, decide_eq_true h]; rfl
theorem go_vb {L : Nat} {sh ct : List Nat} {c : Nat} {u : List Nat} {i : Nat} (hc : c ∈ AL) (hu : ∀ c ∈ u, c ∈ AL) (hL : i + (u.length + 1) = L) :
    goX (opened c (decide (¬ sh = [])) (decide (¬ ct = []))) (if c ∈ lMV then ⟨sh, ct, [], [c], []⟩ else ⟨sh, ct, [c], [], []⟩) (i + 1) u = finR L (restR sh (cnt ct) (c :: u, false)).1 (restR sh (cnt ct) (c :: u, false)).2 := by
  have stuck : rdVb sh (cnt ct) (c :: u, false) = ([], (c :: u, true)) → ∀ m, goX .bd m (i + 1) u = finR L (restR sh (cnt ct) (c :: u, false)).1 (restR sh (cnt ct) (c :: u, false)).2 := fun h m => (fin_non hL (rest_stk (by rw [h]))).symm
  have taken : ∀ x, rdVb sh (cnt ct) (c :: u, false) = ([c], (u, false)) → c ∈ lit_WITH_COUNT ++ lit_WITHOUT_COUNT → (x = if c ∈ lit_WITH_TARGET then .tg else if c = 84 ∨ c = 58 then .rn else if c ∈ [82, 64, 77, 75, 86] then .on else .en) → goX x (if c ∈ lMV then ⟨sh, ct, [], [c], []⟩ else ⟨sh, ct, [c], [], []⟩) (i + 1) u = finR L (restR sh (cnt ct) (c :: u, false)).1 (restR sh (cnt ct) (c :: u, false)).2 := fun x h hw hx => by
    rw [if_neg (verbs_no c hw)]
    unfold restR
    rw [h]
    exact go_verb hx hw hu hL
  by_cases hs : sh = []
  · have e0 : rdVb sh (cnt ct) (c :: u, false) = if mt lit_MOVES (c :: u, false) = true then ([], (c :: u, false)) else if (cnt ct).isSome = true then tk lit_WITH_COUNT (c :: u, false) else tk (lit_WITH_COUNT ++ lit_WITHOUT_COUNT) (c :: u, false) := by
      unfold rdVb
      rw [if_neg (fun z => z hs)]
    rw [mt_c, isSome_cnt] at e0
    rw [decide_eq_false (fun z => z hs)]
    by_cases hm : c ∈ lit_MOVES
    · rw [decide_eq_true hm, if_pos rfl] at e0
      rw [op_move c hm, if_pos ((mv_moves c hc).mpr hm)]
      unfold restR
      rw [e0]
      exact go_ftm (vb := []) hm (by rfl) (.inl rfl) u i hu hL
    · rw [decide_eq_false hm, if_neg (by decide)] at e0
      by_cases hw : c ∈ lit_WITH_COUNT ++ lit_WITHOUT_COUNT
      · rcases List.mem_append.mp hw with z | z
        · refine taken _ ?_ hw ?_
          · rw [e0, tk_yes z, tk_yes hw]
            split <;> rfl
          · rw [op_with c z]
            exact (by decide +kernel : ∀ c ∈ lit_WITH_COUNT, (if c ∈ lit_WITH_TARGET then Nw.tg else if c = 84 then .rn else if c ∈ [82, 64] then .on else .en) = if c ∈ lit_WITH_TARGET then .tg else if c = 84 ∨ c = 58 then .rn else if c ∈ [82, 64, 77, 75, 86] then .on else .en) c z
        · by_cases hct : ct = []
          · rw [decide_eq_false (fun y => y hct)] at e0 ⊢
            refine taken _ ?_ hw ?_
            · rw [e0, if_neg (by decide), tk_yes hw]
            · rw [(op_less c z).2]
              exact (by decide +kernel : ∀ c ∈ lit_WITHOUT_COUNT, (if c = 58 then Nw.rn else .on) = if c ∈ lit_WITH_TARGET then .tg else if c = 84 ∨ c = 58 then .rn else if c ∈ [82, 64, 77, 75, 86] then .on else .en) c z
          · rw [decide_eq_true hct] at e0 ⊢
            rw [(op_less c z).1]
            refine stuck ?_ _
            rw [e0, if_pos rfl]
            exact tk_no ((by decide : ∀ c ∈ lit_WITHOUT_COUNT, ¬ c ∈ lit_WITH_COUNT) c z)
      · rw [op_none c hc hm hw]
        refine stuck ?_ _
        rw [e0, tk_no hw, tk_no (fun y => hw (List.mem_append_left _ y))]
        split <;> rfl
  · have e0 : rdVb sh (cnt ct) (c :: u, false) = tk lit_WITH_SHELF (c :: u, false) := by
      unfold rdVb
      rw [if_pos hs]
    rw [decide_eq_true hs, op_shelf c hc]
    by_cases h1 : c ∈ [67, 89, 88]
    · rw [if_pos h1]
      refine taken _ (by rw [e0]; exact tk_yes ((by decide : ∀ c ∈ [67, 89, 88], c ∈ lit_WITH_SHELF) c h1)) ((by decide : ∀ c ∈ [67, 89, 88], c ∈ lit_WITH_COUNT ++ lit_WITHOUT_COUNT) c h1) ?_
      rw [if_pos ((by decide : ∀ c ∈ [67, 89, 88], c ∈ lit_WITH_TARGET) c h1)]
    · rw [if_neg h1]
      by_cases h2 : c = 80
      · rw [if_pos h2]
        subst h2
        exact taken _ (by rw [e0]; rfl) (by decide) (by decide)
      · rw [if_neg h2]
        refine stuck ?_ _
        rw [e0]
        exact tk_no (fun z => (by decide : ∀ c ∈ lit_WITH_SHELF, c ∈ [67, 89, 88] ∨ c = 80) c z |>.elim h1 h2)
theorem dg_none : ∀ c ∈ d09, c ∈ AL ∧ ¬ c ∈ lit_MOVES ∧ ¬ c ∈ lit_WITH_COUNT ++ lit_WITHOUT_COUNT ∧ ¬ c ∈ lit_WITH_SHELF := by decide +kernel
theorem rest_dg {sh : List Nat} {ct : Option Nat} {c : Nat} {u : List Nat} (h : c ∈ d09) : (restR sh ct (c :: u, false)).2 = (c :: u, true) := by
  refine rest_stk ?_
  obtain ⟨_, h1, h2, h3⟩ := dg_none c h
  unfold rdVb
  split
  · rw [tk_no h3]
  rw [mt_c, decide_eq_false h1, if_neg (by decide)]
  split
  · rw [tk_no (fun y => h2 (List.mem_append_left _ y))]
  · rw [tk_no h2]
theorem ct_no {k : Nat} {f : List Nat} {c : Nat} {u : List Nat} (h : ¬ c ∈ d09) : ctLoop k f (c :: u, false) = (f, (c :: u, false)) := by
  cases k with
  | zero => rfl
  | succ k => rw [ct_succ, mt_c, decide_eq_false h, if_neg (by decide)]
theorem ct_nil (k : Nat) (f : List Nat) : ctLoop k f ([], false) = (f, ([], false)) := by cases k <;> rfl
theorem go_ct {L : Nat} {sh : List Nat} : ∀ (k : Nat) (f : List Nat) (r : List Nat) (i : Nat), f.length + k = 3 → 1 ≤ f.length → ¬ f.head? = some 48 → (∀ c ∈ r, c ∈ AL) → i + r.length = L →
    goN .ct ⟨sh, f, [], [], []⟩ i r = finR L (restR sh (some (numL (ctLoop k f (r, false)).1)) (ctLoop k f (r, false)).2).1 (restR sh (some (numL (ctLoop k f (r, false)).1)) (ctLoop k f (r, false)).2).2 := by
  intro k f r i hk hf h0 hr hL
  cases r with
  | nil =>
    rw [ct_nil]
    exact (fin_half (rest_nil sh _)).symm
  | cons c u =>
    have hL' : i + (u.length + 1) = L := hL
    have hu : ∀ c ∈ u, c ∈ AL := fun x hx => hr x (List.mem_cons_of_mem _ hx)
    have fne : ¬ f = [] := fun z => by rw [z] at hf; cases hf
    by_cases h : c ∈ d09
    · have hx : nextN .ct ⟨sh, f, [], [], []⟩ c = (if (f ++ [c]).head? = some 48 ∨ (f ++ [c]).length > 3 then .bd else .ct, ⟨sh, f ++ [c], [], [], []⟩) := by
        show begunN .ct ⟨sh, f, [], [], []⟩ c = _
        unfold begunN
        rw [if_neg (fun z => by cases z.1), if_neg (by decide), if_pos h]
      have hh : ¬ (f ++ [c]).head? = some 48 := by
        cases f with
        | nil => exact absurd rfl fne
        | cons a f => exact h0
      rw [go_cons, hx]
      cases k with
      | zero =>
        rw [if_pos (.inr (by rw [List.length_append]; show f.length + 1 > 3; omega))]
        exact (fin_non hL' (rest_dg h)).symm
      | succ k =>
        rw [if_neg (fun z => z.elim hh (fun y => by rw [List.length_append] at y; have : f.length + 1 > 3 := y; omega)), ct_succ, mt_c, decide_eq_true h, if_pos rfl, tk_yes h]
        exact go_ct k (f ++ [c]) u (i + 1) (by rw [List.length_append]; show f.length + 1 + k = 3; omega) (by rw [List.length_append]; omega) hh hu (by omega)
    · have hx : nextN .ct ⟨sh, f, [], [], []⟩ c = (opened c (decide (¬ sh = [])) (decide (¬ f = [])), if c ∈ lMV then ⟨sh, f, [], [c], []⟩ else ⟨sh, f, [c], [], []⟩) := by
        show begunN .ct ⟨sh, f, [], [], []⟩ c = _
        unfold begunN
        rw [if_neg (fun z => by cases z.1), if_neg (by decide), if_neg h]
      rw [go_cons, hx, ct_no h]
      have e : cnt f = some (numL f) := by unfold cnt; rw [if_neg fne]
      have := go_vb (sh := sh) (ct := f) (hr c List.mem_cons_self) hu hL'
      rw [e] at this
      exact this
  termination_by k => k
theorem go_bh {L : Nat} {n : Nw} {sh : List Nat} (r : List Nat) (i : Nat) (hn : n = .bh ∨ (n = .st ∧ ¬ r.head? = some 34)) (hr : ∀ c ∈ r, c ∈ AL) (hL : i + r.length = L) :
    goN n ⟨sh, [], [], [], []⟩ i r = finR L (restR sh (rdCt (r, false)).1 (rdCt (r, false)).2).1 (restR sh (rdCt (r, false)).1 (rdCt (r, false)).2).2 := by
  cases r with
  | nil => exact (fin_half (rest_nil sh _)).symm
  | cons c u =>
    have hL' : i + (u.length + 1) = L := hL
    have hu : ∀ c ∈ u, c ∈ AL := fun x hx => hr x (List.mem_cons_of_mem _ hx)
    have hx0 : nextN n ⟨sh, [], [], [], []⟩ c = if c ∈ d09 then (if ([c] : List Nat).head? = some 48 ∨ ([c] : List Nat).length > 3 then .bd else .ct, ⟨sh, [c], [], [], []⟩) else (opened c (decide (¬ sh = [])) (decide (¬ ([] : List Nat) = [])), if c ∈ lMV then ⟨sh, [], [], [c], []⟩ else ⟨sh, [], [c], [], []⟩) := by
      rcases hn with rfl | ⟨rfl, h34⟩
      · show begunN .bh ⟨sh, [], [], [], []⟩ c = _
        unfold begunN
        rw [if_neg (fun z => by cases z.1), if_neg (by decide)]
        rfl
      · show begunN .st ⟨sh, [], [], [], []⟩ c = _
        unfold begunN
        rw [if_neg (fun z => h34 (by rw [z.2]; rfl)), if_neg (by decide)]
        rfl
    rw [go_cons, hx0]
    by_cases h : c ∈ d09
    · rw [if_pos h]
      by_cases h48 : c = 48
      · subst h48
        have e : rdCt (48 :: u, false) = (none, (48 :: u, false)) := rfl
        rw [e]
        exact (fin_non hL' (rest_dg h)).symm
      · have h19 : c ∈ d19 := (by decide : ∀ c ∈ d09, ¬ c = 48 → c ∈ d19) c h h48
        have e : rdCt (c :: u, false) = (some (numL (ctLoop 2 [c] (u, false)).1), (ctLoop 2 [c] (u, false)).2) := by
          unfold rdCt
          rw [mt_c, decide_eq_true h19, if_pos rfl, tk_yes h19]
        rw [e, if_neg (fun z => z.elim (fun y => h48 (Option.some.inj y)) (fun y => by have : 1 > 3 := y; omega))]
        exact go_ct 2 [c] u (i + 1) rfl (Nat.le_refl 1) (fun y => h48 (Option.some.inj y)) hu (by omega)
    · rw [if_neg h]
      have e : rdCt (c :: u, false) = (none, (c :: u, false)) := by
        unfold rdCt
        rw [mt_c, decide_eq_false (fun z => h ((by decide : ∀ c ∈ d19, c ∈ d09) c z)), if_neg (by decide)]
      rw [e]
      exact go_vb (sh := sh) (ct := []) (hr c List.mem_cons_self) hu hL'
theorem machine (r : List Nat) (hr : ∀ c ∈ r, c ∈ AL) : goN .st ⟨[], [], [], [], []⟩ 0 r = finR r.length (rdPh (r, false)).1 (rdPh (r, false)).2 := by
  rw [rdPh_rest]
  by_cases h : r.head? = some 34
  · cases r with
    | nil => cases h
    | cons c u =>
      cases h
      have e : rdSh (34 :: u, false) = tk lit_LETTERS (u, false) := rfl
      have hx : nextN .st ⟨[], [], [], [], []⟩ 34 = (.sh, ⟨[], [], [], [], []⟩) := rfl
      rw [go_cons, hx, e]
      show goN .sh ⟨[], [], [], [], []⟩ 1 u = _
      cases u with
      | nil => exact (fin_half (rest_stk (rdVb_stk _ _ _))).symm
      | cons c2 u2 =>
        have hx2 : nextN .sh ⟨[], [], [], [], []⟩ c2 = if c2 ∈ lit_LETTERS then (.bh, ⟨[c2], [], [], [], []⟩) else (.bd, ⟨[], [], [], [], []⟩) := by
          show begunN .sh ⟨[], [], [], [], []⟩ c2 = _
          unfold begunN
          rw [if_neg (fun z => by cases z.1), if_pos rfl]
        rw [go_cons, hx2]
        by_cases hl : c2 ∈ lit_LETTERS
        · rw [if_pos hl, tk_yes hl]
          exact go_bh u2 2 (.inl rfl) (fun x hx => hr x (List.mem_cons_of_mem _ (List.mem_cons_of_mem _ hx))) (by show 2 + u2.length = u2.length + 1 + 1; omega)
        · rw [if_neg hl, tk_no hl]
          exact (fin_non (by show 1 + (u2.length + 1) = u2.length + 1 + 1; omega) (rest_stk (rdVb_stk _ _ _))).symm
  · have e : rdSh (r, false) = ([], (r, false)) := by
      unfold rdSh
      cases r with
      | nil => rfl
      | cons c u =>
        rw [mt_c, decide_eq_false (fun z => h (by rw [List.mem_singleton.mp z]; rfl)), if_neg (by decide)]
    rw [e]
    exact go_bh r 0 (.inr ⟨rfl, h⟩) hr (Nat.zero_add _)

end My

set_option Elab.async false
set_option linter.all false
set_option maxRecDepth 100000
set_option maxHeartbeats 4000000
namespace My
open PySem L2

abbrev lit1 : List Nat := [32, 33, 34, 35, 36, 38, 39, 40, 41, 42, 43, 44, 45, 46, 47, 48, 49, 50, 51, 52, 53, 54, 55, 56, 57, 58, 59, 60, 61, 62, 63, 64, 65, 66, 67, 68, 69, 70, 71, 72, 73, 74, 75, 76, 77, 78, 79, 80, 81, 82, 83, 84, 85, 86, 87, 88, 89, 90, 91, 92, 93, 94, 95, 96]
abbrev lit2 : List Nat := [97, 98, 99, 100, 101, 102, 103, 104, 105, 106, 107, 108, 109, 110, 111, 112, 113, 114, 115, 116, 117, 118, 119, 120, 121, 122, 123, 124, 125]
theorem lits_len : (lit1 ++ lit2).length = 93 := by decide


def nwT : Nw → List Nat
  | .st => [115, 116, 97, 114, 116]
  | .sh => [115, 104, 101, 108, 102]
  | .bh => [98, 101, 104, 105, 110, 100]
  | .ct => [99, 111, 117, 110, 116]
  | .tg => [116, 97, 114, 103, 101, 116]
  | .sg => [115, 105, 103, 110]
  | .mk => [109, 97, 114, 107]
  | .on => [111, 110, 101]
  | .rn => [114, 117, 110]
  | .en => [101, 110, 100]
  | .rd => [114, 97, 110]
  | .bd => [98, 97, 100]
  | .ai => [97, 105, 109, 101, 100]
theorem nwT_inj : ∀ {a b : Nw}, nwT a = nwT b → a = b := by
  intro a b
  cases a <;> cases b <;> first | (intro _; rfl) | (intro h; exact absurd h (by decide))
def mD (n : List Nat) (m : MS) : List (Key × V) := [(.inr "now", .str (S n)), (.inr "shelf", .str (S m.sh)), (.inr "count", .str (S m.ct)), (.inr "verb", .str (S m.vb)), (.inr "target", .str (S m.tg)), (.inr "typed", .str (S m.ty))]
section
variable {H : Hp} {d : Addr} {n : List Nat} {m : MS}
theorem md_now (h : H d = some (.dK (mD n m))) : DGet H d (.str "now") (some (.str (S n))) := DGet.k (k := .inr "now") h
theorem md_sh (h : H d = some (.dK (mD n m))) : DGet H d (.str "shelf") (some (.str (S m.sh))) := DGet.k (k := .inr "shelf") h
theorem md_ct (h : H d = some (.dK (mD n m))) : DGet H d (.str "count") (some (.str (S m.ct))) := DGet.k (k := .inr "count") h
theorem md_vb (h : H d = some (.dK (mD n m))) : DGet H d (.str "verb") (some (.str (S m.vb))) := DGet.k (k := .inr "verb") h
theorem md_tg (h : H d = some (.dK (mD n m))) : DGet H d (.str "target") (some (.str (S m.tg))) := DGet.k (k := .inr "target") h
theorem md_ty (h : H d = some (.dK (mD n m))) : DGet H d (.str "typed") (some (.str (S m.ty))) := DGet.k (k := .inr "typed") h
theorem six : (mD n m).length < sizeLine := by show 6 < sizeLine; decide
theorem mp_now (x : List Nat) (h : H d = some (.dK (mD n m))) : DPut H d (.str "now") (.str (S x)) (upd H d (.dK (mD x m))) := DPut.k (k := .inr "now") h six
theorem mp_sh (x : List Nat) (h : H d = some (.dK (mD n m))) : DPut H d (.str "shelf") (.str (S x)) (upd H d (.dK (mD n { m with sh := x }))) := DPut.k (k := .inr "shelf") h six
theorem mp_ct (x : List Nat) (h : H d = some (.dK (mD n m))) : DPut H d (.str "count") (.str (S x)) (upd H d (.dK (mD n { m with ct := x }))) := DPut.k (k := .inr "count") h six
theorem mp_vb (x : List Nat) (h : H d = some (.dK (mD n m))) : DPut H d (.str "verb") (.str (S x)) (upd H d (.dK (mD n { m with vb := x }))) := DPut.k (k := .inr "verb") h six
theorem mp_tg (x : List Nat) (h : H d = some (.dK (mD n m))) : DPut H d (.str "target") (.str (S x)) (upd H d (.dK (mD n { m with tg := x }))) := DPut.k (k := .inr "target") h six
theorem mp_ty (x : List Nat) (h : H d = some (.dK (mD n m))) : DPut H d (.str "typed") (.str (S x)) (upd H d (.dK (mD n { m with ty := x }))) := DPut.k (k := .inr "typed") h six
end
def sp_sg44 : Sp := fun vs H Q _ => ∃ n : Int, vs = [.int n] ∧ ∀ c, c ∈ AL → Q (.str (S [c])) H
def sp_opened : Sp := fun vs H Q _ => ∃ (c : Nat) (sh ct : List Nat), vs = [.str (S [c]), .str (S sh), .str (S ct)] ∧ ∀ H', Same H H' → Q (.str (S (nwT (opened c (decide (¬ sh = [])) (decide (¬ ct = [])))))) H'
def sp_aimed : Sp := fun vs H Q _ => ∃ c : Nat, vs = [.str (S [c])] ∧ ∀ H', Same H H' → Q (.str (S (nwT (aimedN c)))) H'
def sp_small : Sp := fun vs H Q _ => ∃ c : Nat, vs = [.str (S [c])] ∧ Q (.bl (decide (c ∈ lit_LETTERS))) H
def sp_one44 : Sp := fun vs H Q _ => ∃ (vb : List Nat) (c : Nat), vs = [.str (S vb), .str (S [c])] ∧ ∀ H', Same H H' → Q (.str (S (nwT (oneN vb c)))) H'
def sp_run44 : Sp := fun vs H Q _ => ∃ (vb : List Nat) (c : Nat), vs = [.str (S vb), .str (S [c])] ∧ ∀ H', Same H H' → Q (.str (S (nwT (runN vb c)))) H'
section
variable {P : Program} {w : World} {K : PySem.W.Frag} {mg : Str → Option Value} {base : Heap} {f : Addr} {fd : FuncData}
theorem sc__law_small : FnScope ["_law_key"] ["_law_key"] (defScope s__law_small) := ⟨rfl, rfl, rfl, by decide +kernel, rfl, by decide +kernel, by decide +kernel⟩
theorem ok_small44 (F : Fun K "_law_small" "_law_small" s__law_small f fd) : FnOk P w K mg base CX0 1 f fd ["_law_key"] sp_small := by
  refine F.ok sc__law_small (fun vs H Q E h => ?_) (fun cdv A outer s H vs Q E hr h => ?_)
  · obtain ⟨c, rfl, _⟩ := h
    rfl
  obtain ⟨c, rfl, q⟩ := h
  refine ⟨_, (pss_one (ps_ret (pe_cmpR op_in1 (pv 0) pe_str rfl))), ?_⟩
  exact ⟨_, rfl, c, lit_LETTERS, rfl, rfl, q⟩
theorem disp3 {σ : St} {H : Hp} {Q : VK} {c : Nat} (q : ∀ H', Same H H' → Q (.str (S (nwT (ftm c)))) H') : ∀ p, H p = none → ∀ H2, H2 = upd (upd H p (.dK [])) p (.dK (mergeK [] [(.inr "f", .str "sign"), (.inr "t", .str "sign"), (.inr "m", .str "mark")])) → ∃ o, DGet H2 p (.str (S [c])) o ∧ Q (o.getD (.str "bad")) H2 := by
  intro p hp H2 e
  have hd : H2 p = some (.dK (mergeK [] [(.inr "f", .str "sign"), (.inr "t", .str "sign"), (.inr "m", .str "mark")])) := by rw [e, upd_same]
  have SS : Same H H2 := by rw [e]; exact same_upd (same_new hp _) hp
  refine ⟨_, DGet.k (k := .inr (S [c])) hd, ?_⟩
  have := q H2 SS
  have em : mergeK [] [((.inr "f" : Key), (.str "sign" : V)), (.inr "t", .str "sign"), (.inr "m", .str "mark")] = [(.inr (S [102]), .str "sign"), (.inr (S [116]), .str "sign"), (.inr (S [109]), .str "mark")] := rfl
  rw [em]
  unfold ftm at this
  have hne : ∀ a : Nat, ¬ c = a → ¬ (Sum.inr (S [a]) : Key) = Sum.inr (S [c]) := fun a h z => h (List.cons.inj (S_inj (Sum.inr.inj z))).1.symm
  by_cases h1 : c = 102
  · rw [if_pos h1] at this
    rw [valV_pos (by rw [h1])]
    exact this
  rw [if_neg h1] at this
  rw [valV_neg (hne _ h1)]
  by_cases h2 : c = 116
  · rw [if_pos h2] at this
    rw [valV_pos (by rw [h2])]
    exact this
  rw [if_neg h2] at this
  rw [valV_neg (hne _ h2)]
  by_cases h3 : c = 109
  · rw [if_pos h3] at this
    rw [valV_pos (by rw [h3])]
    exact this
  rw [if_neg h3] at this
  rw [valV_neg (hne _ h3), valV_nil]
  exact this
theorem sc__law_aimed : FnScope ["_law_key"] ["_law_key"] (defScope s__law_aimed) := ⟨rfl, rfl, rfl, by decide +kernel, rfl, by decide +kernel, by decide +kernel⟩
theorem ok_aimed (F : Fun K "_law_aimed" "_law_aimed" s__law_aimed f fd) : FnOk P w K mg base CX0 1 f fd ["_law_key"] sp_aimed := by
  refine F.ok sc__law_aimed (fun vs H Q E h => ?_) (fun cdv A outer s H vs Q E hr h => ?_)
  · obtain ⟨c, rfl, _⟩ := h
    rfl
  obtain ⟨c, rfl, q⟩ := h
  refine ⟨_, (pss_cons (ps_if (pt_cmpR op_in1 (pv 0) pe_str rfl) (pss_one (ps_ret pe_str)) pss_nil)
      (pss_one (ps_ret (pe_dget2 hr.u1 (pe_disp (pps_cons pe_str pe_str (pps_cons pe_str pe_str (pps_cons pe_str pe_str pps_nil))) rfl rfl (by intro h; cases h) (by decide)) (pv 0) pe_str ⟨base_disp, rfl, rfl, rfl⟩)))), ?_⟩
  unfold aimedN at q
  refine ⟨_, rfl, c, lAim, rfl, rfl, _, rfl, ?_⟩
  by_cases h : c ∈ lAim
  · rw [if_pos h] at q
    exact iteDT h (q _ (Same.refl _))
  rw [if_neg h] at q
  refine iteDF h fun p hp => ⟨upd_same, [(.inr "f", .str "sign"), (.inr "t", .str "sign"), (.inr "m", .str "mark")], rfl, (by decide), p, rfl, .inl ⟨_, .inl upd_same⟩, _, rfl, disp3 (σ := []) q p hp _ rfl⟩
end
end My

set_option Elab.async false
set_option linter.all false
set_option maxRecDepth 100000
set_option maxHeartbeats 4000000
namespace My
open PySem L2


section
variable {P : Program} {w : World} {K : PySem.W.Frag} {mg : Str → Option Value} {base : Heap} {f : Addr} {fd : FuncData}
theorem sc__law_opened : FnScope ["_law_key", "_law_shelf", "_law_count"] ["_law_key", "_law_shelf", "_law_count"] (defScope s__law_opened) := ⟨rfl, rfl, rfl, by decide +kernel, rfl, by decide +kernel, by decide +kernel⟩
theorem ok_opened (F : Fun K "_law_opened" "_law_opened" s__law_opened f fd) : FnOk P w K mg base CX0 1 f fd ["_law_key", "_law_shelf", "_law_count"] sp_opened := by
  refine F.ok sc__law_opened (fun vs H Q E h => ?_) (fun cdv A outer s H vs Q E hr h => ?_)
  · obtain ⟨c, sh, ct, rfl, _⟩ := h
    rfl
  obtain ⟨c, sh, ct, rfl, q⟩ := h
  refine ⟨_, (pss_cons (ps_if (pt_cmpR op_in1 (pv 0) pe_str rfl) (pss_one (ps_ret pe_str)) pss_nil)
      (pss_cons (ps_if (pt_cmpR op_eq (pv 0) pe_str (nomark _)) (pss_one (ps_ret pe_str)) pss_nil)
      (pss_cons (ps_if (PW.pt (pw_or (pt_cmpR op_ne (pv 1) pe_str (nomark _)) (pw_or1 (PW.pt (pw_and (pt_cmpR op_in1 (pv 0) pe_str rfl) (pw_and1 (pt_cmpR op_ne (pv 2) pe_str (nomark _)))))))) (pss_one (ps_ret pe_str)) pss_nil)
      (pss_cons (ps_if (pt_cmpR op_in1 (pv 0) pe_str rfl) (pss_one (ps_ret pe_str)) pss_nil)
      (pss_cons (ps_if (pt_cmpR op_in1 (pv 0) pe_str rfl) (pss_one (ps_ret pe_str)) pss_nil)
      (pss_cons (ps_if (pt_cmpR op_in1 (pv 0) pe_str rfl) (pss_one (ps_ret pe_str)) pss_nil)
      (pss_cons (ps_if (pt_cmpR op_in1 (pv 0) pe_str rfl) (pss_one (ps_ret pe_str)) pss_nil)
      (pss_one (ps_ret (pe_dget2 hr.u1 (pe_disp (pps_cons pe_str pe_str (pps_cons pe_str pe_str (pps_cons pe_str pe_str pps_nil))) rfl rfl (by intro h; cases h) (by decide)) (pv 0) pe_str ⟨base_disp, rfl, rfl, rfl⟩)))))))))), ?_⟩
  unfold opened at q
  refine ⟨_, rfl, c, [67, 89, 88], rfl, rfl, _, rfl, ?_⟩
  by_cases h1 : c ∈ [67, 89, 88]
  · rw [if_pos h1] at q
    exact iteDT h1 (q _ (Same.refl _))
  rw [if_neg h1] at q
  refine iteDF h1 ⟨_, rfl, rfl, _, rfl, ?_⟩
  by_cases h2 : c = 80
  · rw [if_pos h2] at q
    exact iteDT (by rw [h2]; rfl) (q _ (Same.refl _))
  rw [if_neg h2] at q
  refine iteDF (fun z => h2 (List.cons.inj (S_inj (V.str.inj z))).1) ?_
  refine seq_at (seq_to (fun σ H' => H = H' ∧ ¬ (decide (¬ sh = []) = true ∨ (c ∈ [77, 75, 86, 58] ∧ decide (¬ ct = []) = true)) ∧ σ = [some (.str (S [c])), some (.str (S sh)), some (.str (S ct))]) (fun nx fin => ?_) ?_)
  · refine ⟨_, rfl, rfl, _, rfl, ?_⟩
    have hS : ∀ l : List Nat, ¬ l = [] → ¬ V.str (S l) = V.str (S []) := fun l h z => h (S_inj (V.str.inj z))
    by_cases hs : sh = []
    · refine iteNS (by rw [hs]; rfl) ⟨_, rfl, c, [77, 75, 86, 58], rfl, rfl, _, rfl, ?_⟩
      by_cases h3 : c ∈ [77, 75, 86, 58]
      · refine iteDT h3 ⟨_, rfl, rfl, _, rfl, ?_⟩
        by_cases hc : ct = []
        · exact iteNS (by rw [hc]; rfl) (fin _ _ ⟨rfl, fun z => z.elim (fun y => (of_decide_eq_true y) hs) (fun y => (of_decide_eq_true y.2) hc), rfl⟩)
        · rw [if_pos (.inr ⟨h3, decide_eq_true hc⟩)] at q
          exact iteNF (hS ct hc) (q _ (Same.refl _))
      · exact iteDF h3 (iteF (fin _ _ ⟨rfl, fun z => z.elim (fun y => (of_decide_eq_true y) hs) (fun y => h3 y.1), rfl⟩))
    · rw [if_pos (.inl (decide_eq_true hs))] at q
      exact iteNF (hS sh hs) (iteT (q _ (Same.refl _)))
  rintro σ H' ⟨rfl, h3, rfl⟩
  rw [if_neg h3] at q
  refine ⟨_, rfl, c, [71, 83, 68, 70, 74], rfl, rfl, _, rfl, ?_⟩
  by_cases h4 : c ∈ [71, 83, 68, 70, 74]
  · rw [if_pos h4] at q
    exact iteDT h4 (q _ (Same.refl _))
  rw [if_neg h4] at q
  refine iteDF h4 ⟨_, rfl, c, lEnd, rfl, rfl, _, rfl, ?_⟩
  by_cases h5 : c ∈ lEnd
  · rw [if_pos h5] at q
    exact iteDT h5 (q _ (Same.refl _))
  rw [if_neg h5] at q
  refine iteDF h5 ⟨_, rfl, c, [82, 77, 75, 86, 64], rfl, rfl, _, rfl, ?_⟩
  by_cases h6 : c ∈ [82, 77, 75, 86, 64]
  · rw [if_pos h6] at q
    exact iteDT h6 (q _ (Same.refl _))
  rw [if_neg h6] at q
  refine iteDF h6 ⟨_, rfl, c, [84, 58], rfl, rfl, _, rfl, ?_⟩
  by_cases h7 : c ∈ [84, 58]
  · rw [if_pos h7] at q
    exact iteDT h7 (q _ (Same.refl _))
  rw [if_neg h7] at q
  exact iteDF h7 fun p hp => ⟨upd_same, [(.inr "f", .str "sign"), (.inr "t", .str "sign"), (.inr "m", .str "mark")], rfl, (by decide), p, rfl, .inl ⟨_, .inl upd_same⟩, _, rfl, disp3 (σ := []) q p hp _ rfl⟩
end
end My

set_option Elab.async false
set_option linter.all false
set_option maxRecDepth 100000
set_option maxHeartbeats 4000000
namespace My
open PySem L2


abbrev lit93 : List Nat := lit1 ++ lit2
abbrev lKeys : List Nat := [67, 89, 88, 71, 83, 68, 70, 74, 84, 82, 80, 77, 75, 86, 90, 65, 78, 69, 76, 46, 64, 58, 104, 108, 106, 107, 98, 101, 119, 118, 111, 103, 122, 112, 102, 116, 109, 99, 97, 105, 114, 40, 91, 123, 41, 93, 125, 39, 34, 115, 49, 50]
theorem at_of (L : List Nat) {m : Nat} (n : Int) (hm : L.length = m) (h0 : 0 < m) : ∃ k, k ∈ L ∧ atI L (n % (m : Int)) = some k := by
  have k0 : 0 ≤ n % (m : Int) := Int.emod_nonneg _ (by omega)
  have k1 : n % (m : Int) < (m : Int) := Int.emod_lt_of_pos _ (by omega)
  obtain ⟨j, hj⟩ : ∃ j : Nat, n % (m : Int) = (j : Int) := ⟨_, (Int.toNat_of_nonneg k0).symm⟩
  rw [hj] at k1 ⊢
  have hlen : j < L.length := by omega
  have e : L[j]? = some L[j] := List.getElem?_eq_getElem hlen
  exact ⟨_, List.mem_of_getElem? e, atI_nat e⟩
theorem int_tr (b : Bool) (x y : V) : atI [x, y] (if b = true then 1 else 0) = some (if b = true then y else x) := by cases b <;> rfl
section
variable {P : Program} {w : World} {K : PySem.W.Frag} {mg : Str → Option Value} {base : Heap} {f : Addr} {fd : FuncData}
theorem sc__law_sign_by : FnScope ["_law_cell", "_law_some"] ["_law_cell"] (defScope s__law_sign_by) := ⟨rfl, rfl, rfl, by decide +kernel, rfl, by decide +kernel, by decide +kernel⟩
theorem ok_sg44 (F : Fun K "_law_sign_by" "_law_sign_by" s__law_sign_by f fd) : FnOk P w K mg base CX0 1 f fd ["_law_cell"] sp_sg44 := by
  refine F.ok sc__law_sign_by (fun vs H Q E h => ?_) (fun cdv A outer s H vs Q E hr h => ?_)
  · obtain ⟨n, rfl, _⟩ := h
    rfl
  obtain ⟨n, rfl, q⟩ := h
  refine ⟨_, (pss_cons (ps_set (i := 1) sc__law_sign_by.nd rfl (Or.inl rfl) pe_str)
      (pss_cons (ps_set (i := 1) sc__law_sign_by.nd rfl (Or.inl rfl) (pe_op op_adS (pv 1) pe_str))
      (pss_one (ps_ret (pe_ix ix_S (pv 1) (pe_op op_mod (pv 0) pe_int) (fun _ _ => rfl)))))), ?_⟩
  obtain ⟨k, hk, hat⟩ := at_of lit93 (m := 93) n lits_len (by decide)
  refine ⟨_, rfl, lit1, lit2, rfl, rfl, small (by decide), ?_⟩
  exact ⟨_, rfl, _, rfl, _, _, rfl, rfl, (by show (0 : Int) < 93; decide), lit93, _, _, rfl, rfl, small (by decide), hat, q k ((by decide +kernel : ∀ c ∈ lit93, c ∈ AL) k hk)⟩
theorem sc__law_key_by : FnScope ["_law_cell"] ["_law_cell"] (defScope s__law_key_by) := ⟨rfl, rfl, rfl, by decide +kernel, rfl, by decide +kernel, by decide +kernel⟩
theorem ok_key44 (F : Fun K "_law_key_by" "_law_key_by" s__law_key_by f fd) (O__law_sign_by : Own P w K mg base CX0 1 "_law_sign_by" ["_law_cell"] sp_sg44) : FnOk P w K mg base CX0 2 f fd ["_law_cell"] sp_sg44 := by
  refine F.ok sc__law_key_by (fun vs H Q E h => ?_) (fun cdv A outer s H vs Q E hr h => ?_)
  · obtain ⟨n, rfl, _⟩ := h
    rfl
  obtain ⟨n, rfl, q⟩ := h
  refine ⟨_, (pss_cons (ps_if (pt_cmpR op_lt (pe_op op_mod (pv 0) pe_int) pe_int (nomark _)) (pss_one (ps_ret (pe_ix ix_S pe_str (pe_op op_mod (pe_op op_fdiv (pv 0) pe_int) pe_int) (fun _ _ => rfl)))) pss_nil)
      (pss_cons (ps_if (pt_cmpR op_lt (pe_op op_mod (pv 0) pe_int) pe_int (nomark _)) (pss_one (ps_ret (pe_own O__law_sign_by hr (by rfl) pass0 (pa_cons (pe_op op_fdiv (pv 0) pe_int) pa_nil)))) pss_nil)
      (pss_one (ps_ret (pe_ix ix_S pe_str (pe_op op_mod (pe_op op_fdiv (pv 0) pe_int) pe_int) (fun _ _ => rfl)))))), ?_⟩
  refine ⟨_, rfl, _, _, rfl, rfl, (by show (0 : Int) < 6; decide), _, _, rfl, rfl, _, rfl, ite2 (fun _ => ?_) (fun _ => ?_)⟩
  · obtain ⟨k, hk, hat⟩ := at_of lKeys (m := 52) (n / 6) (by decide) (by decide)
    exact ⟨_, rfl, _, _, rfl, rfl, ⟨by decide, by decide⟩, _, _, rfl, rfl, (by show (0 : Int) < 52; decide), lKeys, _, _, rfl, rfl, small (by decide), hat, q k ((by decide +kernel : ∀ c ∈ lKeys, c ∈ AL) k hk)⟩
  refine ⟨_, rfl, _, _, rfl, rfl, (by show (0 : Int) < 6; decide), _, _, rfl, rfl, _, rfl, ite2 (fun _ => ?_) (fun _ => ?_)⟩
  · exact ⟨_, rfl, _, _, rfl, rfl, ⟨by decide, by decide⟩, _, rfl, q⟩
  · obtain ⟨k, hk, hat⟩ := at_of [48, 49, 50, 51, 52, 53, 54, 55, 56, 57, 10, 126] (m := 12) (n / 6) (by decide) (by decide)
    exact ⟨_, rfl, _, _, rfl, rfl, ⟨by decide, by decide⟩, _, _, rfl, rfl, (by show (0 : Int) < 12; decide), [48, 49, 50, 51, 52, 53, 54, 55, 56, 57, 10, 126], _, _, rfl, rfl, small (by decide), hat, q k ((by decide +kernel : ∀ c ∈ [48, 49, 50, 51, 52, 53, 54, 55, 56, 57, 10, 126], c ∈ AL) k hk)⟩
theorem sc__law_one : FnScope ["_law_verb", "_law_key", "_law_good"] ["_law_verb", "_law_key"] (defScope s__law_one) := ⟨rfl, rfl, rfl, by decide +kernel, rfl, by decide +kernel, by decide +kernel⟩
theorem ok_one44 (F : Fun K "_law_one" "_law_one" s__law_one f fd) (O__law_small : Own P w K mg base CX0 1 "_law_small" ["_law_key"] sp_small) (m_int : mg "int" = none) : FnOk P w K mg base CX0 2 f fd ["_law_verb", "_law_key"] sp_one44 := by
  refine F.ok sc__law_one (fun vs H Q E h => ?_) (fun cdv A outer s H vs Q E hr h => ?_)
  · obtain ⟨vb, c, rfl, _⟩ := h
    rfl
  obtain ⟨vb, c, rfl, q⟩ := h
  refine ⟨_, (pss_cons (ps_set (i := 2) sc__law_one.nd rfl (Or.inl rfl) (pe_own O__law_small hr (by rfl) pass0 (pa_cons (pv 1) pa_nil)))
      (pss_cons (ps_if (pt_cmpR op_eq (pv 0) pe_str (nomark _)) (pss_one (ps_set (i := 2) sc__law_one.nd rfl (Or.inl rfl) (pe_and (pe_cmpR op_ne (pv 1) pe_str (nomark _)) (pe_one (pe_cmpR op_ne (pv 1) pe_str (nomark _)))))) pss_nil)
      (pss_cons (ps_if (pt_cmpR op_eq (pv 0) pe_str (nomark _)) (pss_one (ps_set (i := 2) sc__law_one.nd rfl (Or.inl rfl) (pe_cmpR op_in1 (pv 1) pe_str rfl))) pss_nil)
      (pss_one (ps_ret (pe_ix ix_list (pe_lst (pa_cons pe_str (pa_cons pe_str pa_nil))) (pe_callTy call_intB (by rfl) m_int boot_int (pa_cons (pv 2) pa_nil)) (fun _ _ => rfl))))))), ?_⟩
  refine ⟨_, rfl, c, rfl, ?_⟩
  refine gname_go (seq_at (seq_to (fun σ H' => H = H' ∧ ∃ b : Bool, (b = if vb = [82] then decide (¬ c = 10 ∧ ¬ c = 126) else decide (c ∈ lit_LETTERS)) ∧ σ = [some (.str (S vb)), some (.str (S [c])), some (.bl b)]) (fun nx fin => ?_) ?_))
  · have h1 : ∀ a : Nat, ¬ c = a → ¬ V.str (S [c]) = V.str (S [a]) := fun a h z => h (List.cons.inj (S_inj (V.str.inj z))).1
    refine ⟨_, rfl, rfl, _, rfl, ?_⟩
    by_cases hv : vb = [82]
    · refine iteDT (by rw [hv]; rfl) ⟨_, rfl, rfl, _, rfl, ?_⟩
      by_cases e1 : c = 10
      · exact iteNS (by rw [e1]; rfl) (fin _ _ ⟨rfl, false, by rw [if_pos hv, decide_eq_false (fun z => z.1 e1)], by subst e1; rfl⟩)
      · refine iteNF (h1 10 e1) ⟨_, rfl, rfl, ?_⟩
        refine fin _ _ ⟨rfl, decide (¬ c = 126), ?_, ?_⟩
        · rw [if_pos hv]
          by_cases e2 : c = 126
          · rw [decide_eq_false (fun z => z e2), decide_eq_false (fun z => z.2 e2)]
          · rw [decide_eq_true e2, decide_eq_true ⟨e1, e2⟩]
        · by_cases e2 : c = 126
          · subst e2
            rfl
          · show [_, _, some (V.bl (!decide (V.str (S [c]) = V.str (S [126]))))] = _
            rw [decide_eq_false (h1 126 e2), decide_eq_true e2]
            rfl
    · exact iteDF (fun z => hv (S_inj (V.str.inj z))) (fin _ _ ⟨rfl, _, by rw [if_neg hv], rfl⟩)
  rintro σ H' ⟨rfl, b, hb, rfl⟩
  refine seq_to (fun σ H' => H = H' ∧ ∃ b : Bool, (b = if vb = [86] then decide (c ∈ [115, 114, 98]) else if vb = [82] then decide (¬ c = 10 ∧ ¬ c = 126) else decide (c ∈ lit_LETTERS)) ∧ σ = [some (.str (S vb)), some (.str (S [c])), some (.bl b)]) (fun nx fin => ?_) ?_
  · refine ⟨_, rfl, rfl, _, rfl, ?_⟩
    by_cases hv : vb = [86]
    · exact iteDT (by rw [hv]; rfl) ⟨_, rfl, c, [115, 114, 98], rfl, rfl, fin _ _ ⟨rfl, _, by rw [if_pos hv], rfl⟩⟩
    · exact iteDF (fun z => hv (S_inj (V.str.inj z))) (fin _ _ ⟨rfl, b, by rw [if_neg hv]; exact hb, rfl⟩)
  rintro σ H' ⟨rfl, b, hb, rfl⟩
  have eq : nwT (oneN vb c) = if b = true then nwT .en else nwT .bd := by
    unfold oneN
    rw [hb]
    by_cases h1 : vb = [86]
    · rw [if_pos h1, if_pos h1]
      by_cases h2 : c ∈ [115, 114, 98]
      · rw [if_pos h2, decide_eq_true h2]; rfl
      · rw [if_neg h2, decide_eq_false h2]; rfl
    · rw [if_neg h1, if_neg h1]
      by_cases h3 : vb = [82]
      · rw [if_pos h3, if_pos h3]
        by_cases h2 : ¬ c = 10 ∧ ¬ c = 126
        · rw [if_pos h2, decide_eq_true h2]; rfl
        · rw [if_neg h2, decide_eq_false h2]; rfl
      · rw [if_neg h3, if_neg h3]
        by_cases h2 : c ∈ lit_LETTERS
        · rw [if_pos h2, decide_eq_true h2]; rfl
        · rw [if_neg h2, decide_eq_false h2]; rfl
  rw [eq] at q
  refine ⟨(by show 2 ≤ sizeLine; decide), fun p hp => ⟨_, rfl, b, rfl, p, _, _, _, rfl, rfl, SqL.of upd_same, int_tr b _ _, ?_⟩⟩
  have := q _ (same_new hp (.lst [.str "bad", .str "end"]))
  cases b
  · exact this
  · exact this
theorem sc__law_run : FnScope ["_law_verb", "_law_key"] ["_law_verb", "_law_key"] (defScope s__law_run) := ⟨rfl, rfl, rfl, by decide +kernel, rfl, by decide +kernel, by decide +kernel⟩
theorem ok_run44 (F : Fun K "_law_run" "_law_run" s__law_run f fd) (m_int : mg "int" = none) : FnOk P w K mg base CX0 2 f fd ["_law_verb", "_law_key"] sp_run44 := by
  refine F.ok sc__law_run (fun vs H Q E h => ?_) (fun cdv A outer s H vs Q E hr h => ?_)
  · obtain ⟨vb, c, rfl, _⟩ := h
    rfl
  obtain ⟨vb, c, rfl, q⟩ := h
  refine ⟨_, (pss_cons (ps_if (pt_cmpR op_eq (pv 1) (pe_ix ix_list (pe_lst (pa_cons pe_str (pa_cons pe_str pa_nil))) (pe_callTy call_intB (by rfl) m_int boot_int (pa_cons (pe_cmpR op_eq (pv 0) pe_str (nomark _)) pa_nil)) (fun _ _ => rfl)) (nomark _)) (pss_one (ps_ret pe_str)) pss_nil)
      (pss_cons (ps_if (PW.pt (pw_and (pt_cmpR op_in1 (pv 1) pe_str rfl) (pw_and1 (pt_cmpR op_ne (pv 1) (pe_ix ix_list (pe_lst (pa_cons pe_str (pa_cons pe_str pa_nil))) (pe_callTy call_intB (by rfl) m_int boot_int (pa_cons (pe_cmpR op_eq (pv 0) pe_str (nomark _)) pa_nil)) (fun _ _ => rfl)) (nomark _))))) (pss_one (ps_ret pe_str)) pss_nil)
      (pss_one (ps_ret pe_str)))), ?_⟩
  have h1 : ∀ a : Nat, ¬ c = a → ¬ V.str (S [c]) = V.str (S [a]) := fun a h z => h (List.cons.inj (S_inj (V.str.inj z))).1
  by_cases hv : vb = [58]
  · have e0 : decide (V.str (S vb) = V.str (S [58])) = true := decide_eq_true (by rw [hv])
    rw [hv, run_c] at q
    refine ⟨_, rfl, (by show 2 ≤ sizeLine; decide), fun p hp => ⟨_, rfl, rfl, true, (by show [V.bl (decide (V.str (S vb) = V.str (S [58])))] = _; rw [e0]), p, _, _, _, rfl, rfl, SqL.of upd_same, (show atI _ _ = some (V.str (S [10])) from int_tr true _ _), rfl, _, rfl, ?_⟩⟩
    have S1 := same_new hp (.lst [.str "~", .str "\n"])
    by_cases h2 : c = 10
    · rw [if_pos h2] at q
      exact iteDT (by rw [h2]) (q _ S1)
    rw [if_neg h2] at q
    refine iteDF (h1 10 h2) ⟨_, rfl, c, [10, 126], rfl, rfl, _, rfl, ?_⟩
    by_cases h3 : c ∈ [10, 126]
    · refine iteDT h3 ⟨_, rfl, (by show 2 ≤ sizeLine; decide), fun p2 hp2 => ⟨_, rfl, rfl, true, (by show [V.bl (decide (V.str (S vb) = V.str (S [58])))] = _; rw [e0]), p2, _, _, _, rfl, rfl, SqL.of upd_same, (show atI _ _ = some (V.str (S [126])) from int_tr true _ _), rfl, _, rfl, ?_⟩⟩
      have h4 : c = 126 := by
        rcases List.mem_cons.mp h3 with z | z
        · exact absurd z h2
        · exact List.mem_singleton.mp z
      exact iteNS (by rw [h4]) (q _ (S1.trans (same_new hp2 _)))
    · exact iteDF h3 (iteF (q _ S1))
  · have e0 : decide (V.str (S vb) = V.str (S [58])) = false := decide_eq_false (fun z => hv (S_inj (V.str.inj z)))
    rw [run_x vb hv] at q
    refine ⟨_, rfl, (by show 2 ≤ sizeLine; decide), fun p hp => ⟨_, rfl, rfl, false, (by show [V.bl (decide (V.str (S vb) = V.str (S [58])))] = _; rw [e0]), p, _, _, _, rfl, rfl, SqL.of upd_same, (show atI _ _ = some (V.str (S [126])) from int_tr false _ _), rfl, _, rfl, ?_⟩⟩
    have S1 := same_new hp (.lst [.str "~", .str "\n"])
    by_cases h2 : c = 126
    · rw [if_pos h2] at q
      exact iteDT (by rw [h2]) (q _ S1)
    rw [if_neg h2] at q
    refine iteDF (h1 126 h2) ⟨_, rfl, c, [10, 126], rfl, rfl, _, rfl, ?_⟩
    by_cases h3 : c ∈ [10, 126]
    · refine iteDT h3 ⟨_, rfl, (by show 2 ≤ sizeLine; decide), fun p2 hp2 => ⟨_, rfl, rfl, false, (by show [V.bl (decide (V.str (S vb) = V.str (S [58])))] = _; rw [e0]), p2, _, _, _, rfl, rfl, SqL.of upd_same, (show atI _ _ = some (V.str (S [10])) from int_tr false _ _), rfl, _, rfl, ?_⟩⟩
      have h4 : c = 10 := by
        rcases List.mem_cons.mp h3 with z | z
        · exact z
        · exact absurd (List.mem_singleton.mp z) h2
      exact iteNS (by rw [h4]) (q _ (S1.trans (same_new hp2 _)))
    · exact iteDF h3 (iteF (q _ S1))
end
end My

set_option Elab.async false
set_option linter.all false
set_option maxRecDepth 100000
set_option maxHeartbeats 4000000
namespace My
open PySem L2


def isB (n : Nw) : Prop := n = .st ∨ n = .sh ∨ n = .bh ∨ n = .ct
theorem in_four (n : Nw) : inV (.str (S (nwT n))) [.str "start", .str "shelf", .str "behind", .str "count"] = decide (n = .st ∨ n = .sh ∨ n = .bh ∨ n = .ct) := by cases n <;> decide +kernel
def sp_begun : Sp := fun vs H Q _ => ∃ (d : Addr) (n : Nw) (m : MS) (c : Nat), vs = [.ref d, .str (S [c])] ∧ isB n ∧ m.ct.length ≤ 100 ∧ H d = some (.dK (mD (nwT n) m)) ∧ ∀ H', Upto d H H' → H' d = some (.dK (mD (nwT n) (begunN n m c).2)) → Q (.str (S (nwT (begunN n m c).1))) H'
def sp_next : Sp := fun vs H Q _ => ∃ (d : Addr) (n : Nw) (m : MS) (c : Nat), vs = [.ref d, .str (S [c])] ∧ ¬ n = .ai ∧ ¬ n = .en ∧ ¬ n = .rd ∧ ¬ n = .bd ∧ m.ct.length ≤ 100 ∧ m.tg.length ≤ 100 ∧ m.ty.length ≤ 100 ∧ H d = some (.dK (mD (nwT n) m)) ∧ ∀ H', Upto d H H' → H' d = some (.dK (mD (nwT n) (nextN n m c).2)) → Q (.str (S (nwT (nextN n m c).1))) H'
section
variable {P : Program} {w : World} {K : PySem.W.Frag} {mg : Str → Option Value} {base : Heap} {f : Addr} {fd : FuncData}
theorem sc__law_begun : FnScope ["_law_told", "_law_key", "_law_now"] ["_law_told", "_law_key"] (defScope s__law_begun) := ⟨rfl, rfl, rfl, by decide +kernel, rfl, by decide +kernel, by decide +kernel⟩
theorem ok_begun (F : Fun K "_law_begun" "_law_begun" s__law_begun f fd) (O__law_small : Own P w K mg base CX0 1 "_law_small" ["_law_key"] sp_small) (O__law_opened : Own P w K mg base CX0 1 "_law_opened" ["_law_key", "_law_shelf", "_law_count"] sp_opened) (m_len : mg "len" = none) : FnOk P w K mg base CX0 2 f fd ["_law_told", "_law_key"] sp_begun := by
  refine F.ok sc__law_begun (fun vs H Q E h => ?_) (fun cdv A outer s H vs Q E hr h => ?_)
  · obtain ⟨d, n, m, c, rfl, _⟩ := h
    rfl
  obtain ⟨d, n, m, c, rfl, hn, hct, hd, q⟩ := h
  refine ⟨_, (pss_cons (ps_if (PW.pt (pw_and (pt_cmpR op_eq (pe_dget hr.u1 (pv 0) pe_str (fun _ _ => rfl)) pe_str (nomark _)) (pw_and1 (pt_cmpR op_eq (pv 1) pe_str (nomark _))))) (pss_one (ps_ret pe_str)) pss_nil)
      (pss_cons (ps_if (pt_cmpR op_eq (pe_dget hr.u1 (pv 0) pe_str (fun _ _ => rfl)) pe_str (nomark _)) (pss_cons (ps_if (pt_not (pt_val (pe_own O__law_small hr (by rfl) pass0 (pa_cons (pv 1) pa_nil)))) (pss_one (ps_ret pe_str)) pss_nil)
      (pss_cons (ps_dput hr.u1 (pv 0) pe_str (pv 1) rfl)
      (pss_one (ps_ret pe_str)))) pss_nil)
      (pss_cons (ps_if (pt_cmpR op_in1 (pv 1) pe_str rfl) (pss_cons (ps_dput hr.u1 (pv 0) pe_str (pe_op op_adS (pe_dget hr.u1 (pv 0) pe_str (fun _ _ => rfl)) (pv 1)) rfl)
      (pss_cons (ps_if (PW.pt (pw_or (pt_cmpR op_eq (pe_ix ix_S (pe_dget hr.u1 (pv 0) pe_str (fun _ _ => rfl)) pe_int (fun _ _ => rfl)) pe_str (nomark _)) (pw_or1 (pt_cmpR op_gt (pe_callB call_lenS (by rfl) m_len PySem.boot_len (pa_cons (pe_dget hr.u1 (pv 0) pe_str (fun _ _ => rfl)) pa_nil)) pe_int (nomark _))))) (pss_one (ps_ret pe_str)) pss_nil)
      (pss_one (ps_ret pe_str)))) pss_nil)
      (pss_cons (ps_set (i := 2) sc__law_begun.nd rfl (Or.inl rfl) (pe_own O__law_opened hr (by rfl) pass0 (pa_cons (pv 1) (pa_cons (pe_dget hr.u1 (pv 0) pe_str (fun _ _ => rfl)) (pa_cons (pe_dget hr.u1 (pv 0) pe_str (fun _ _ => rfl)) pa_nil)))))
      (pss_cons (ps_if (pt_cmpR op_in1 (pv 1) pe_str rfl) (pss_one (ps_dput hr.u1 (pv 0) pe_str (pv 1) rfl)) (pss_one (ps_dput hr.u1 (pv 0) pe_str (pv 1) rfl)))
      (pss_one (ps_ret (pv 2)))))))), ?_⟩
  have hS : ∀ a : Nat, ¬ c = a → ¬ V.str (S [c]) = V.str (S [a]) := fun a h z => h (List.cons.inj (S_inj (V.str.inj z))).1
  unfold begunN at q
  have nS : ∀ a : Nw, ¬ n = a → ¬ V.str (S (nwT n)) = V.str (S (nwT a)) := fun a h z => h (nwT_inj (S_inj (V.str.inj z)))
  refine seq_to (fun σ H' => H = H' ∧ ¬ (n = .st ∧ c = 34) ∧ σ = [some (.ref d), some (.str (S [c])), none]) (fun nx fin => ?_) ?_
  · refine ⟨_, rfl, d, _, rfl, md_now hd, rfl, _, rfl, ?_⟩
    by_cases h1 : n = .st
    · refine iteDT (by rw [h1]; rfl) ⟨_, rfl, rfl, _, rfl, ?_⟩
      by_cases h2 : c = 34
      · rw [if_pos ⟨h1, h2⟩] at q
        exact iteDT (by rw [h2]; rfl) (q _ (Upto.refl _ _) hd)
      · exact iteDF (hS 34 h2) (fin _ _ ⟨rfl, fun z => h2 z.2, rfl⟩)
    · exact iteDF (nS .st h1) (iteF (fin _ _ ⟨rfl, fun z => h1 z.1, rfl⟩))
  rintro σ H' ⟨rfl, h1, rfl⟩
  rw [if_neg h1] at q
  refine seq_to (fun σ H' => H = H' ∧ ¬ n = .sh ∧ σ = [some (.ref d), some (.str (S [c])), none]) (fun nx fin => ?_) ?_
  · refine ⟨_, rfl, d, _, rfl, md_now hd, rfl, _, rfl, ?_⟩
    by_cases h2 : n = .sh
    · rw [if_pos h2] at q
      refine iteDT (by rw [h2]; rfl) ⟨_, rfl, c, rfl, _, rfl, ?_⟩
      by_cases h3 : c ∈ lit_LETTERS
      · rw [if_pos h3] at q
        refine iteNS h3 ⟨_, rfl, _, rfl, d, _, rfl, mp_sh _ hd, q _ (upto_upd _ _ _) upd_same⟩
      · rw [if_neg h3] at q
        exact iteNF h3 (q _ (Upto.refl _ _) hd)
    · exact iteDF (nS .sh h2) (fin _ _ ⟨rfl, h2, rfl⟩)
  rintro σ H' ⟨rfl, h2, rfl⟩
  rw [if_neg h2] at q
  refine seq_to (fun σ H' => H = H' ∧ ¬ c ∈ d09 ∧ σ = [some (.ref d), some (.str (S [c])), none]) (fun nx fin => ?_) ?_
  · refine ⟨_, rfl, c, d09, rfl, rfl, _, rfl, ?_⟩
    by_cases h3 : c ∈ d09
    · rw [if_pos h3] at q
      refine iteDT h3 ⟨_, rfl, d, _, rfl, md_ct hd, _, rfl, m.ct, [c], rfl, rfl, ?_, _, rfl, d, _, rfl, mp_ct _ hd, ?_⟩
      · exact Nat.le_trans (show _ ≤ 1000000 by show m.ct.length + 1 ≤ _; omega) (small (Nat.le_refl _))
      have hd2 : upd H d (.dK (mD (nwT n) { m with ct := m.ct ++ [c] })) d = some (.dK (mD (nwT n) { m with ct := m.ct ++ [c] })) := upd_same
      have U2 := upto_upd d H (.dK (mD (nwT n) { m with ct := m.ct ++ [c] }))
      generalize upd H d (.dK (mD (nwT n) { m with ct := m.ct ++ [c] })) = H2 at hd2 U2
      have q := q H2 U2 hd2
      obtain ⟨x, xs, ex⟩ : ∃ x xs, m.ct ++ [c] = x :: xs := by
        cases m.ct with
        | nil => exact ⟨c, [], rfl⟩
        | cons a as => exact ⟨a, as ++ [c], rfl⟩
      have hlen : (m.ct ++ [c]).length = m.ct.length + 1 := by rw [List.length_append]; rfl
      have hat : atI (m.ct ++ [c]) 0 = some x := by
        rw [ex]
        show atI (x :: xs) ((0 : Nat) : Int) = _
        exact atI_nat rfl
      have hh : (m.ct ++ [c]).head? = some x := by rw [ex]; rfl
      refine ⟨_, rfl, d, _, rfl, md_ct hd2, m.ct ++ [c], _, x, rfl, rfl, small (by omega), hat, rfl, _, rfl, ?_⟩
      by_cases h4 : x = 48
      · rw [if_pos (.inl (by rw [hh, h4]))] at q
        exact iteDT (by rw [h4]; rfl) (iteT q)
      · refine iteDF (fun z => h4 (List.cons.inj (S_inj (V.str.inj z))).1) ⟨_, rfl, d, _, rfl, md_ct hd2, m.ct ++ [c], rfl, small (by omega), _, _, rfl, rfl, _, rfl, ?_⟩
        by_cases h5 : (m.ct ++ [c]).length > 3
        · rw [if_pos (.inr h5)] at q
          exact iteDT (by omega) q
        · rw [if_neg (fun z => z.elim (fun y => h4 (by rw [hh] at y; exact Option.some.inj y)) h5)] at q
          exact iteDF (by omega) q
    · exact iteDF h3 (fin _ _ ⟨rfl, h3, rfl⟩)
  rintro σ H' ⟨rfl, h3, rfl⟩
  rw [if_neg h3] at q
  refine ⟨_, rfl, _, rfl, d, _, rfl, md_sh hd, _, rfl, d, _, rfl, md_ct hd, c, m.sh, m.ct, rfl, fun H1 S1 => ?_⟩
  have hd1 := S1 _ _ hd
  refine gname_go (seq_at (seq_to (fun σ H' => Upto d H H' ∧ H' d = some (.dK (mD (nwT n) (if c ∈ lMV then { m with tg := [c] } else { m with vb := [c] }))) ∧ ∃ x y : Option V, σ = [x, y, some (.str (S (nwT (opened c (decide (¬ m.sh = [])) (decide (¬ m.ct = []))))))]) (fun nx fin => ?_) ?_))
  · refine ⟨_, rfl, c, lMV, rfl, rfl, _, rfl, ?_⟩
    by_cases h4 : c ∈ lMV
    · rw [if_pos h4] at fin
      exact iteDT h4 ⟨_, rfl, _, rfl, d, _, rfl, mp_tg _ hd1, fin _ _ ⟨(S1.upto d).trans (upto_upd _ _ _), upd_same, _, _, rfl⟩⟩
    · rw [if_neg h4] at fin
      exact iteDF h4 ⟨_, rfl, _, rfl, d, _, rfl, mp_vb _ hd1, fin _ _ ⟨(S1.upto d).trans (upto_upd _ _ _), upd_same, _, _, rfl⟩⟩
  rintro σ H2 ⟨U2, hd2, x, y, rfl⟩
  exact ⟨_, rfl, q _ U2 hd2⟩
theorem sc__law_next : FnScope ["_law_told", "_law_key", "_law_now"] ["_law_told", "_law_key"] (defScope s__law_next) := ⟨rfl, rfl, rfl, by decide +kernel, rfl, by decide +kernel, by decide +kernel⟩
theorem ok_next (F : Fun K "_law_next" "_law_next" s__law_next f fd) (O__law_small : Own P w K mg base CX0 1 "_law_small" ["_law_key"] sp_small) (O__law_begun : Own P w K mg base CX0 2 "_law_begun" ["_law_told", "_law_key"] sp_begun) (O__law_aimed : Own P w K mg base CX0 1 "_law_aimed" ["_law_key"] sp_aimed) (O__law_one : Own P w K mg base CX0 2 "_law_one" ["_law_verb", "_law_key"] sp_one44) (O__law_run : Own P w K mg base CX0 2 "_law_run" ["_law_verb", "_law_key"] sp_run44) (m_int : mg "int" = none) : FnOk P w K mg base CX0 3 f fd ["_law_told", "_law_key"] sp_next := by
  refine F.ok sc__law_next (fun vs H Q E h => ?_) (fun cdv A outer s H vs Q E hr h => ?_)
  · obtain ⟨d, n, m, c, rfl, _⟩ := h
    rfl
  obtain ⟨d, n, m, c, rfl, n1, n2, n3, n4, l1, l2, l3, hd, q⟩ := h
  refine ⟨_, (pss_cons (ps_set (i := 2) sc__law_next.nd rfl (Or.inl rfl) (pe_dget hr.u1 (pv 0) pe_str (fun _ _ => rfl)))
      (pss_cons (ps_if (pt_cmpR op_in_seq (pv 2) (pe_lst (pa_cons pe_str (pa_cons pe_str (pa_cons pe_str (pa_cons pe_str pa_nil))))) rfl) (pss_one (ps_ret (pe_own O__law_begun hr (by rfl) pass0 (pa_cons (pv 0) (pa_cons (pv 1) pa_nil))))) pss_nil)
      (pss_cons (ps_if (PW.pt (pw_or (pt_cmpR op_eq (pv 2) pe_str (nomark _)) (pw_or (pt_cmpR op_eq (pv 2) pe_str (nomark _)) (pw_or1 (pt_cmpR op_eq (pv 2) pe_str (nomark _)))))) (pss_cons (ps_dput hr.u1 (pv 0) pe_str (pe_op op_adS (pe_dget hr.u1 (pv 0) pe_str (fun _ _ => rfl)) (pv 1)) rfl)
      (pss_cons (ps_if (pt_cmpR op_eq (pv 2) pe_str (nomark _)) (pss_one (ps_set (i := 2) sc__law_next.nd rfl (Or.inl rfl) (pe_own O__law_aimed hr (by rfl) pass0 (pa_cons (pv 1) pa_nil)))) (pss_one (ps_if (pt_cmpR op_eq (pv 2) pe_str (nomark _)) (pss_one (ps_set (i := 2) sc__law_next.nd rfl (Or.inl rfl) (pe_ix ix_list (pe_lst (pa_cons pe_str (pa_cons pe_str pa_nil))) (pe_callTy call_intB (by rfl) m_int boot_int (pa_cons (pe_cmpR op_in1 (pv 1) pe_str rfl) pa_nil)) (fun _ _ => rfl)))) (pss_one (ps_set (i := 2) sc__law_next.nd rfl (Or.inl rfl) (pe_ix ix_list (pe_lst (pa_cons pe_str (pa_cons pe_str pa_nil))) (pe_callTy call_intB (by rfl) m_int boot_int (pa_cons (pe_own O__law_small hr (by rfl) pass0 (pa_cons (pv 1) pa_nil)) pa_nil)) (fun _ _ => rfl)))))))
      (pss_cons (ps_if (pt_cmpR op_eq (pv 2) pe_str (nomark _)) (pss_one (ps_ret (pe_ix ix_list (pe_lst (pa_cons pe_str (pa_cons pe_str pa_nil))) (pe_callTy call_intB (by rfl) m_int boot_int (pa_cons (pe_cmpR op_eq (pe_dget hr.u1 (pv 0) pe_str (fun _ _ => rfl)) pe_str (nomark _)) pa_nil)) (fun _ _ => rfl)))) pss_nil)
      (pss_one (ps_ret (pv 2)))))) pss_nil)
      (pss_cons (ps_if (pt_cmpR op_eq (pv 2) pe_str (nomark _)) (pss_cons (ps_dput hr.u1 (pv 0) pe_str (pv 1) rfl)
      (pss_one (ps_ret (pe_own O__law_one hr (by rfl) pass0 (pa_cons (pe_dget hr.u1 (pv 0) pe_str (fun _ _ => rfl)) (pa_cons (pv 1) pa_nil)))))) pss_nil)
      (pss_cons (ps_set (i := 2) sc__law_next.nd rfl (Or.inl rfl) (pe_own O__law_run hr (by rfl) pass0 (pa_cons (pe_dget hr.u1 (pv 0) pe_str (fun _ _ => rfl)) (pa_cons (pv 1) pa_nil))))
      (pss_cons (ps_if (pt_cmpR op_eq (pv 2) pe_str (nomark _)) (pss_one (ps_dput hr.u1 (pv 0) pe_str (pe_op op_adS (pe_dget hr.u1 (pv 0) pe_str (fun _ _ => rfl)) (pv 1)) rfl)) pss_nil)
      (pss_one (ps_ret (pv 2))))))))), ?_⟩
  have nS : ∀ a : Nw, ¬ n = a → ¬ V.str (S (nwT n)) = V.str (S (nwT a)) := fun a h z => h (nwT_inj (S_inj (V.str.inj z)))
  unfold nextN at q
  refine ⟨_, rfl, d, _, rfl, md_now hd, ?_⟩
  refine ⟨_, rfl, (by show 4 ≤ sizeLine; decide), fun L hL => ⟨L, _, rfl, .inl (SqL.of upd_same), rfl, rfl, _, rfl, ?_⟩⟩
  have S1 := same_new hL (.lst [.str "start", .str "shelf", .str "behind", .str "count"])
  have hd1 := S1 _ _ hd
  show if inV (.str (S (nwT n))) [.str "start", .str "shelf", .str "behind", .str "count"] = true then _ else _
  rw [in_four]
  have U1 := S1.upto d
  by_cases hB : n = .st ∨ n = .sh ∨ n = .bh ∨ n = .ct
  · rw [if_pos hB] at q
    exact iteDT hB ⟨_, rfl, _, rfl, d, n, m, c, rfl, hB, l1, hd1, fun H2 U2 hd2 => q H2 (U1.trans U2) hd2⟩
  rw [if_neg hB] at q
  refine iteDF hB ?_
  generalize upd H L (.lst [.str "start", .str "shelf", .str "behind", .str "count"]) = H1 at S1 hd1 U1
  by_cases hT : n = .tg ∨ n = .sg ∨ n = .mk
  · rw [if_pos hT] at q
    rcases hT with rfl | rfl | rfl
    · skip
      refine ⟨_, rfl, rfl, _, rfl, iteDT rfl (iteT ?_)⟩
      refine ⟨_, rfl, d, _, rfl, md_tg hd1, _, rfl, m.tg, [c], rfl, rfl, ?_, _, rfl, d, _, rfl, mp_tg _ hd1, ?_⟩
      · exact Nat.le_trans (show _ ≤ 1000000 by show m.tg.length + 1 ≤ _; omega) (small (Nat.le_refl _))
      have hd2 : upd H1 d (.dK (mD (nwT .tg) { m with tg := m.tg ++ [c] })) d = some (.dK (mD (nwT .tg) { m with tg := m.tg ++ [c] })) := upd_same
      have U2 := U1.trans (upto_upd d H1 (.dK (mD (nwT .tg) { m with tg := m.tg ++ [c] })))
      generalize upd H1 d (.dK (mD (nwT .tg) { m with tg := m.tg ++ [c] })) = H2 at hd2 U2
      refine seq_at (seq_to (fun σ H' => Upto d H H' ∧ H' d = some (.dK (mD (nwT .tg) { m with tg := m.tg ++ [c] })) ∧ σ = [some (.ref d), some (.str (S [c])), some (.str (S (nwT (aimS .tg c))))]) (fun nx fin => ?_) ?_)
      · skip
        exact ⟨_, rfl, rfl, _, rfl, iteDT rfl ⟨_, rfl, c, rfl, fun H3 S3 => fin _ _ ⟨U2.trans (S3.upto d), S3 _ _ hd2, rfl⟩⟩⟩
      rintro σ H3 ⟨U3, hd3, rfl⟩
      refine ⟨_, rfl, rfl, _, rfl, ?_⟩
      by_cases ha : aimS .tg c = .ai
      · rw [if_pos ha] at q
        rw [ha]
        refine iteDT rfl ⟨(by show 2 ≤ sizeLine; decide), fun p hp => ⟨_, rfl, d, _, rfl, md_vb (same_new hp _ _ _ hd3), rfl, decide (V.str (S m.vb) = V.str (S [88])), rfl, p, _, _, _, rfl, rfl, SqL.of upd_same, int_tr _ _ _, ?_⟩⟩
        have := q _ (U3.trans ((same_new hp (.lst [.str "end", .str "run"])).upto d)) (same_new hp _ _ _ hd3)
        by_cases hx : m.vb = [88]
        · rw [if_pos hx] at this
          rw [decide_eq_true (by rw [hx])]
          exact this
        · rw [if_neg hx] at this
          rw [decide_eq_false (fun z => hx (S_inj (V.str.inj z)))]
          exact this
      · rw [if_neg ha] at q
        exact iteDF (fun z => ha (nwT_inj (S_inj (V.str.inj z)))) ⟨_, rfl, q _ U3 hd3⟩
    · skip
      refine ⟨_, rfl, rfl, _, rfl, iteDF (nS .tg (by decide)) ⟨_, rfl, rfl, _, rfl, iteDT rfl (iteT ?_)⟩⟩
      refine ⟨_, rfl, d, _, rfl, md_tg hd1, _, rfl, m.tg, [c], rfl, rfl, ?_, _, rfl, d, _, rfl, mp_tg _ hd1, ?_⟩
      · exact Nat.le_trans (show _ ≤ 1000000 by show m.tg.length + 1 ≤ _; omega) (small (Nat.le_refl _))
      have hd2 : upd H1 d (.dK (mD (nwT .sg) { m with tg := m.tg ++ [c] })) d = some (.dK (mD (nwT .sg) { m with tg := m.tg ++ [c] })) := upd_same
      have U2 := U1.trans (upto_upd d H1 (.dK (mD (nwT .sg) { m with tg := m.tg ++ [c] })))
      generalize upd H1 d (.dK (mD (nwT .sg) { m with tg := m.tg ++ [c] })) = H2 at hd2 U2
      refine seq_at (seq_to (fun σ H' => Upto d H H' ∧ H' d = some (.dK (mD (nwT .sg) { m with tg := m.tg ++ [c] })) ∧ σ = [some (.ref d), some (.str (S [c])), some (.str (S (nwT (aimS .sg c))))]) (fun nx fin => ?_) ?_)
      · skip
        refine ⟨_, rfl, rfl, _, rfl, iteDF (nS .tg (by decide)) ⟨_, rfl, rfl, _, rfl, iteDT rfl ⟨(by show 2 ≤ sizeLine; decide), fun p hp => ⟨_, rfl, c, [10, 126], rfl, rfl, decide (c ∈ [10, 126]), rfl, p, _, _, _, rfl, rfl, SqL.of upd_same, int_tr _ _ _, fin _ _ ⟨U2.trans ((same_new hp _).upto d), same_new hp _ _ _ hd2, ?_⟩⟩⟩⟩⟩
        show _ = [some (V.ref d), some (V.str (S [c])), some (V.str (S (nwT (if c ∈ [10, 126] then .bd else .ai))))]
        by_cases h : c ∈ [10, 126]
        · rw [if_pos h, decide_eq_true h]; rfl
        · rw [if_neg h, decide_eq_false h]; rfl
      rintro σ H3 ⟨U3, hd3, rfl⟩
      refine ⟨_, rfl, rfl, _, rfl, ?_⟩
      by_cases ha : aimS .sg c = .ai
      · rw [if_pos ha] at q
        rw [ha]
        refine iteDT rfl ⟨(by show 2 ≤ sizeLine; decide), fun p hp => ⟨_, rfl, d, _, rfl, md_vb (same_new hp _ _ _ hd3), rfl, decide (V.str (S m.vb) = V.str (S [88])), rfl, p, _, _, _, rfl, rfl, SqL.of upd_same, int_tr _ _ _, ?_⟩⟩
        have := q _ (U3.trans ((same_new hp (.lst [.str "end", .str "run"])).upto d)) (same_new hp _ _ _ hd3)
        by_cases hx : m.vb = [88]
        · rw [if_pos hx] at this
          rw [decide_eq_true (by rw [hx])]
          exact this
        · rw [if_neg hx] at this
          rw [decide_eq_false (fun z => hx (S_inj (V.str.inj z)))]
          exact this
      · rw [if_neg ha] at q
        exact iteDF (fun z => ha (nwT_inj (S_inj (V.str.inj z)))) ⟨_, rfl, q _ U3 hd3⟩
    · skip
      refine ⟨_, rfl, rfl, _, rfl, iteDF (nS .tg (by decide)) ⟨_, rfl, rfl, _, rfl, iteDF (nS .sg (by decide)) ⟨_, rfl, rfl, _, rfl, iteDT rfl ?_⟩⟩⟩
      refine ⟨_, rfl, d, _, rfl, md_tg hd1, _, rfl, m.tg, [c], rfl, rfl, ?_, _, rfl, d, _, rfl, mp_tg _ hd1, ?_⟩
      · exact Nat.le_trans (show _ ≤ 1000000 by show m.tg.length + 1 ≤ _; omega) (small (Nat.le_refl _))
      have hd2 : upd H1 d (.dK (mD (nwT .mk) { m with tg := m.tg ++ [c] })) d = some (.dK (mD (nwT .mk) { m with tg := m.tg ++ [c] })) := upd_same
      have U2 := U1.trans (upto_upd d H1 (.dK (mD (nwT .mk) { m with tg := m.tg ++ [c] })))
      generalize upd H1 d (.dK (mD (nwT .mk) { m with tg := m.tg ++ [c] })) = H2 at hd2 U2
      refine seq_at (seq_to (fun σ H' => Upto d H H' ∧ H' d = some (.dK (mD (nwT .mk) { m with tg := m.tg ++ [c] })) ∧ σ = [some (.ref d), some (.str (S [c])), some (.str (S (nwT (aimS .mk c))))]) (fun nx fin => ?_) ?_)
      · skip
        refine ⟨_, rfl, rfl, _, rfl, iteDF (nS .tg (by decide)) ⟨_, rfl, rfl, _, rfl, iteDF (nS .sg (by decide)) ⟨(by show 2 ≤ sizeLine; decide), fun p hp => ⟨_, rfl, c, rfl, decide (c ∈ lit_LETTERS), rfl, p, _, _, _, rfl, rfl, SqL.of upd_same, int_tr _ _ _, fin _ _ ⟨U2.trans ((same_new hp _).upto d), same_new hp _ _ _ hd2, ?_⟩⟩⟩⟩⟩
        show _ = [some (V.ref d), some (V.str (S [c])), some (V.str (S (nwT (if c ∈ lit_LETTERS then .ai else .bd))))]
        by_cases h : c ∈ lit_LETTERS
        · rw [if_pos h, decide_eq_true h]; rfl
        · rw [if_neg h, decide_eq_false h]; rfl
      rintro σ H3 ⟨U3, hd3, rfl⟩
      refine ⟨_, rfl, rfl, _, rfl, ?_⟩
      by_cases ha : aimS .mk c = .ai
      · rw [if_pos ha] at q
        rw [ha]
        refine iteDT rfl ⟨(by show 2 ≤ sizeLine; decide), fun p hp => ⟨_, rfl, d, _, rfl, md_vb (same_new hp _ _ _ hd3), rfl, decide (V.str (S m.vb) = V.str (S [88])), rfl, p, _, _, _, rfl, rfl, SqL.of upd_same, int_tr _ _ _, ?_⟩⟩
        have := q _ (U3.trans ((same_new hp (.lst [.str "end", .str "run"])).upto d)) (same_new hp _ _ _ hd3)
        by_cases hx : m.vb = [88]
        · rw [if_pos hx] at this
          rw [decide_eq_true (by rw [hx])]
          exact this
        · rw [if_neg hx] at this
          rw [decide_eq_false (fun z => hx (S_inj (V.str.inj z)))]
          exact this
      · rw [if_neg ha] at q
        exact iteDF (fun z => ha (nwT_inj (S_inj (V.str.inj z)))) ⟨_, rfl, q _ U3 hd3⟩
  · rw [if_neg hT] at q
    have t1 : ¬ n = .tg := fun z => hT (.inl z)
    have t2 : ¬ n = .sg := fun z => hT (.inr (.inl z))
    have t3 : ¬ n = .mk := fun z => hT (.inr (.inr z))
    refine ⟨_, rfl, rfl, _, rfl, iteDF (nS .tg t1) ⟨_, rfl, rfl, _, rfl, iteDF (nS .sg t2) ⟨_, rfl, rfl, _, rfl, iteDF (nS .mk t3) ⟨_, rfl, rfl, _, rfl, ?_⟩⟩⟩⟩
    by_cases ho : n = .on
    · rw [if_pos ho] at q
      refine iteDT (by rw [ho]; rfl) ⟨_, rfl, _, rfl, d, _, rfl, mp_ty _ hd1, ?_⟩
      have hd2 : upd H1 d (.dK (mD (nwT n) { m with ty := [c] })) d = some (.dK (mD (nwT n) { m with ty := [c] })) := upd_same
      have U2 := U1.trans (upto_upd d H1 (.dK (mD (nwT n) { m with ty := [c] })))
      generalize upd H1 d (.dK (mD (nwT n) { m with ty := [c] })) = H2 at hd2 U2
      exact ⟨_, rfl, d, _, rfl, md_vb hd2, _, rfl, m.vb, c, rfl, fun H3 S3 => q _ (U2.trans (S3.upto d)) (S3 _ _ hd2)⟩
    · rw [if_neg ho] at q
      refine iteDF (nS .on ho) ⟨_, rfl, d, _, rfl, md_vb hd1, _, rfl, m.vb, c, rfl, fun H3 S3 => ?_⟩
      have hd3 := S3 _ _ hd1
      have U3 := U1.trans (S3.upto d)
      refine gname_go (seq_at (seq_to (fun σ H' => Upto d H H' ∧ H' d = some (.dK (mD (nwT n) (if runN m.vb c = .rn then { m with ty := m.ty ++ [c] } else m))) ∧ ∃ x y : Option V, σ = [x, y, some (.str (S (nwT (runN m.vb c))))]) (fun nx fin => ?_) ?_))
      · refine ⟨_, rfl, rfl, _, rfl, ?_⟩
        by_cases hx : runN m.vb c = .rn
        · rw [if_pos hx] at fin
          rw [hx] at fin ⊢
          refine iteDT rfl ⟨_, rfl, d, _, rfl, md_ty hd3, _, rfl, m.ty, [c], rfl, rfl, ?_, _, rfl, d, _, rfl, mp_ty _ hd3, fin _ _ ⟨U3.trans (upto_upd _ _ _), upd_same, _, _, rfl⟩⟩
          exact Nat.le_trans (show _ ≤ 1000000 by show m.ty.length + 1 ≤ _; omega) (small (Nat.le_refl _))
        · rw [if_neg hx] at fin
          exact iteDF (fun z => hx (nwT_inj (S_inj (V.str.inj z)))) (fin _ _ ⟨U3, hd3, _, _, rfl⟩)
      rintro σ H4 ⟨U4, hd4, x, y, rfl⟩
      exact ⟨_, rfl, q _ U4 hd4⟩
end
end My

set_option Elab.async false
set_option linter.all false
set_option maxRecDepth 100000
set_option maxHeartbeats 4000000
namespace My
open PySem L2


theorem next_ct {n : Nw} {m : MS} {c : Nat} (h1 : m.ct.length ≤ 3) (h2 : ∀ x ∈ m.ct, Dg x) (hb : ¬ (nextN n m c).1 = .bd) : (nextN n m c).2.ct.length ≤ 3 ∧ ∀ x ∈ (nextN n m c).2.ct, Dg x := by
  have same : (nextN n m c).2.ct = m.ct → (nextN n m c).2.ct.length ≤ 3 ∧ ∀ x ∈ (nextN n m c).2.ct, Dg x := fun e => by rw [e]; exact ⟨h1, h2⟩
  by_cases hB : n = .st ∨ n = .sh ∨ n = .bh ∨ n = .ct
  · have e : nextN n m c = begunN n m c := by unfold nextN; rw [if_pos hB]
    rw [e] at same hb ⊢
    unfold begunN at same hb ⊢
    by_cases c1 : n = .st ∧ c = 34
    · rw [if_pos c1] at same ⊢; exact same rfl
    rw [if_neg c1] at same hb ⊢
    by_cases c2 : n = .sh
    · rw [if_pos c2] at same ⊢
      by_cases c3 : c ∈ lit_LETTERS
      · rw [if_pos c3] at same ⊢; exact same rfl
      · rw [if_neg c3] at same ⊢; exact same rfl
    rw [if_neg c2] at same hb ⊢
    by_cases c3 : c ∈ d09
    · rw [if_pos c3] at hb ⊢
      by_cases c4 : (m.ct ++ [c]).head? = some 48 ∨ (m.ct ++ [c]).length > 3
      · rw [if_pos c4] at hb; exact absurd rfl hb
      · refine ⟨Nat.le_of_not_lt (fun z => c4 (.inr z)), fun x hx => ?_⟩
        rcases List.mem_append.mp hx with z | z
        · exact h2 x z
        · rw [List.mem_singleton] at z; rw [z]; exact d09_dg c c3
    · rw [if_neg c3] at same ⊢
      refine same ?_
      show (if c ∈ lMV then ({ m with tg := [c] } : MS) else { m with vb := [c] }).ct = _
      split <;> rfl
  · refine same ?_
    unfold nextN
    rw [if_neg hB]
    split
    · rfl
    split
    · rfl
    show (if runN m.vb c = .rn then ({ m with ty := m.ty ++ [c] } : MS) else m).ct = _
    split <;> rfl
theorem next_len {n : Nw} {m : MS} {c i : Nat} (h1 : m.tg.length ≤ i) (h2 : m.ty.length ≤ i) : (nextN n m c).2.tg.length ≤ i + 1 ∧ (nextN n m c).2.ty.length ≤ i + 1 := by
  have ap : ∀ l : List Nat, (l ++ [c]).length = l.length + 1 := fun l => by rw [List.length_append]; rfl
  have on1 : ([c] : List Nat).length = 1 := rfl
  unfold nextN
  split
  · unfold begunN
    split
    · exact ⟨Nat.le_succ_of_le h1, Nat.le_succ_of_le h2⟩
    split
    · split
      · exact ⟨Nat.le_succ_of_le h1, Nat.le_succ_of_le h2⟩
      · exact ⟨Nat.le_succ_of_le h1, Nat.le_succ_of_le h2⟩
    split
    · exact ⟨Nat.le_succ_of_le h1, Nat.le_succ_of_le h2⟩
    · show (if c ∈ lMV then ({ m with tg := [c] } : MS) else { m with vb := [c] }).tg.length ≤ _ ∧ (if c ∈ lMV then ({ m with tg := [c] } : MS) else { m with vb := [c] }).ty.length ≤ _
      split
      · exact ⟨by show ([c] : List Nat).length ≤ _; omega, Nat.le_succ_of_le h2⟩
      · exact ⟨Nat.le_succ_of_le h1, Nat.le_succ_of_le h2⟩
  split
  · exact ⟨by show (m.tg ++ [c]).length ≤ _; rw [ap]; omega, Nat.le_succ_of_le h2⟩
  split
  · exact ⟨Nat.le_succ_of_le h1, by show ([c] : List Nat).length ≤ _; omega⟩
  · show (if runN m.vb c = .rn then ({ m with ty := m.ty ++ [c] } : MS) else m).tg.length ≤ _ ∧ (if runN m.vb c = .rn then ({ m with ty := m.ty ++ [c] } : MS) else m).ty.length ≤ _
    split
    · exact ⟨Nat.le_succ_of_le h1, by show (m.ty ++ [c]).length ≤ _; rw [ap]; omega⟩
    · exact ⟨Nat.le_succ_of_le h1, Nat.le_succ_of_le h2⟩
theorem ftm_ai (c : Nat) : ¬ ftm c = .ai := by
  unfold ftm
  split
  · decide
  split
  · decide
  split <;> decide
theorem opened_ai (c : Nat) (a b : Bool) : ¬ opened c a b = .ai := by
  unfold opened
  split
  · decide
  split
  · decide
  split
  · decide
  split
  · decide
  split
  · decide
  split
  · decide
  split
  · decide
  exact ftm_ai c
theorem next_ai {n : Nw} {m : MS} {c : Nat} : ¬ (nextN n m c).1 = .ai := by
  unfold nextN
  split
  · unfold begunN
    split
    · exact fun z => by cases z
    split
    · split <;> exact fun z => by cases z
    split
    · show ¬ (if (m.ct ++ [c]).head? = some 48 ∨ (m.ct ++ [c]).length > 3 then Nw.bd else .ct) = .ai
      split <;> exact fun z => by cases z
    · exact opened_ai _ _ _
  split
  · show ¬ (if aimS n c = .ai then (if m.vb = [88] then Nw.rn else .en) else aimS n c) = .ai
    split
    · split <;> exact fun z => by cases z
    · assumption
  split
  · show ¬ oneN m.vb c = .ai
    unfold oneN
    split
    · split <;> exact fun z => by cases z
    split
    · split <;> exact fun z => by cases z
    · split <;> exact fun z => by cases z
  · show ¬ runN m.vb c = .ai
    by_cases h : m.vb = [58]
    · rw [h, run_c]
      split <;> exact fun z => by cases z
    · rw [run_x _ h]
      split <;> exact fun z => by cases z
def ResV (H : Hp) (u : Addr) : Res → Prop
  | .half => H u = some (.tup [.str (S cHlf)])
  | .non k => H u = some (.tup [.str (S cNone), nV k])
  | .phr p k => ∃ v, H v = some (.tup (phV p)) ∧ H u = some (.tup [.str (S cPhr), .ref v, nV k])
def sp_lfirst : Sp := fun vs H Q _ => ∃ keys : List Nat, vs = [.str (S keys)] ∧ keys.length ≤ 60 ∧ ∀ u H', Same H H' → ResV H' u (goN .st ⟨[], [], [], [], []⟩ 0 keys) → Q (.ref u) H'
section
variable {P : Program} {w : World} {K : PySem.W.Frag} {mg : Str → Option Value} {base : Heap} {f : Addr} {fd : FuncData}
theorem sc__law_first : FnScope ["_law_keys", "_law_told", "_law_k", "_law_count"] ["_law_keys"] (defScope s__law_first) := ⟨rfl, rfl, rfl, by decide +kernel, rfl, by decide +kernel, by decide +kernel⟩
theorem ok_lfirst (F : Fun K "_law_first" "_law_first" s__law_first f fd) (O__law_next : Own P w K mg base CX0 3 "_law_next" ["_law_told", "_law_key"] sp_next) (m_len : mg "len" = none) (m_int : mg "int" = none) (m_range : mg "range" = none) : FnOk P w K mg base CX0 4 f fd ["_law_keys"] sp_lfirst := by
  refine F.ok sc__law_first (fun vs H Q E h => ?_) (fun cdv A outer s H vs Q E hr h => ?_)
  · obtain ⟨keys, rfl, _⟩ := h
    rfl
  obtain ⟨keys, rfl, hl, q⟩ := h
  refine ⟨_, (pss_cons (ps_set (i := 1) sc__law_first.nd rfl (Or.inl rfl) (pe_disp (pps_cons pe_str pe_str (pps_cons pe_str pe_str (pps_cons pe_str pe_str (pps_cons pe_str pe_str (pps_cons pe_str pe_str (pps_cons pe_str pe_str pps_nil)))))) rfl rfl (by intro h; cases h) (by decide)))
      (pss_cons (ps_for PassesOwn.never rfl (pi_range1 (by rfl) m_range (pa_cons (pe_callB call_lenS (by rfl) m_len PySem.boot_len (pa_cons (pv 0) pa_nil)) pa_nil)) (pg_name (i := 2) sc__law_first.nd rfl (Or.inl rfl)) (pss_cons (ps_dput hr.u1 (pv 1) pe_str (pe_own O__law_next hr (by rfl) pass0 (pa_cons (pv 1) (pa_cons (pe_ix ix_S (pv 0) (pv 2) (fun _ _ => rfl)) pa_nil))) rfl)
      (pss_cons (ps_if (pt_cmpR op_eq (pe_dget hr.u1 (pv 1) pe_str (fun _ _ => rfl)) pe_str (nomark _)) (pss_one (ps_ret (pe_tup (pa_cons pe_str (pa_cons (pe_op op_add (pv 2) pe_int) pa_nil))))) pss_nil)
      (pss_one (ps_if (PW.pt (pw_or (pt_cmpR op_eq (pe_dget hr.u1 (pv 1) pe_str (fun _ _ => rfl)) pe_str (nomark _)) (pw_or1 (pt_cmpR op_eq (pe_dget hr.u1 (pv 1) pe_str (fun _ _ => rfl)) pe_str (nomark _))))) (pss_cons (ps_set (i := 3) sc__law_first.nd rfl (Or.inl rfl) pe_non)
      (pss_cons (ps_if (pt_cmpR op_ne (pe_dget hr.u1 (pv 1) pe_str (fun _ _ => rfl)) pe_str (nomark _)) (pss_one (ps_set (i := 3) sc__law_first.nd rfl (Or.inl rfl) (pe_callTy call_intS (by rfl) m_int boot_int (pa_cons (pe_dget hr.u1 (pv 1) pe_str (fun _ _ => rfl)) pa_nil)))) pss_nil)
      (pss_one (ps_ret (pe_tup (pa_cons pe_str (pa_cons (pe_tup (pa_cons (pe_dget hr.u1 (pv 1) pe_str (fun _ _ => rfl)) (pa_cons (pv 3) (pa_cons (pe_dget hr.u1 (pv 1) pe_str (fun _ _ => rfl)) (pa_cons (pe_dget hr.u1 (pv 1) pe_str (fun _ _ => rfl)) (pa_cons (pe_dget hr.u1 (pv 1) pe_str (fun _ _ => rfl)) pa_nil)))))) (pa_cons (pe_op op_add (pv 2) pe_int) pa_nil)))))))) pss_nil)))))
      (pss_one (ps_ret (pe_tup (pa_cons pe_str pa_nil)))))), ?_⟩
  intro p hp
  refine ⟨upd_same, [(.inr "now", .str "start"), (.inr "shelf", .str ""), (.inr "count", .str ""), (.inr "verb", .str ""), (.inr "target", .str ""), (.inr "typed", .str "")], rfl, by decide, ?_⟩
  have hd0 : upd (upd H p (.dK [])) p (.dK (mergeK [] [(.inr "now", .str "start"), (.inr "shelf", .str ""), (.inr "count", .str ""), (.inr "verb", .str ""), (.inr "target", .str ""), (.inr "typed", .str "")])) p = some (.dK (mD (nwT .st) ⟨[], [], [], [], []⟩)) := by rw [upd_same]; rfl
  have S0 : Same H (upd (upd H p (.dK [])) p (.dK (mergeK [] [(.inr "now", .str "start"), (.inr "shelf", .str ""), (.inr "count", .str ""), (.inr "verb", .str ""), (.inr "target", .str ""), (.inr "typed", .str "")]))) := same_upd (same_new hp _) hp
  generalize upd (upd H p (.dK [])) p (.dK (mergeK [] [(.inr "now", .str "start"), (.inr "shelf", .str ""), (.inr "count", .str ""), (.inr "verb", .str ""), (.inr "target", .str ""), (.inr "typed", .str "")])) = H0 at hd0 S0
  refine ⟨_, rfl, keys, rfl, small (by omega), (keys.length : Int), rfl, by omega, by omega, ?_⟩
  refine for_range (fun i σ H' => Same H H' ∧ ∃ (n : Nw) (m : MS) (x : Option V), H' p = some (.dK (mD (nwT n) m)) ∧ goN .st ⟨[], [], [], [], []⟩ 0 keys = goN n m i (keys.drop i) ∧ (¬ n = .ai ∧ ¬ n = .en ∧ ¬ n = .rd ∧ ¬ n = .bd) ∧ (m.ct.length ≤ 3 ∧ ∀ c ∈ m.ct, Dg c) ∧ (m.tg.length ≤ i ∧ m.ty.length ≤ i) ∧ σ = [some (.str (S keys)), some (.ref p), x, none]) ⟨S0, .st, ⟨[], [], [], [], []⟩, none, hd0, rfl, ⟨by decide, by decide, by decide, by decide⟩, ⟨Nat.zero_le _, fun c h => by cases h⟩, ⟨Nat.le_refl _, Nat.le_refl _⟩, rfl⟩ ?_ ?_
  · rintro i σ H1 hi ⟨S1, n, m, x, hd1, hgo, hn, hct, hlen, rfl⟩
    have hi : i < keys.length := by
      have : i < ((keys.length : Nat) : Int).toNat := hi
      omega
    rw [Int.zero_add]
    have hat : atI keys (i : Int) = some keys[i] := atI_nat (List.getElem?_eq_getElem hi)
    have edr : keys.drop i = keys[i] :: keys.drop (i + 1) := List.drop_eq_getElem_cons hi
    rw [edr, go_cons] at hgo
    generalize keys[i] = c at hat hgo
    refine ⟨_, rfl, _, rfl, _, rfl, keys, _, c, rfl, rfl, small (by omega), hat, p, n, m, c, rfl, hn.1, hn.2.1, hn.2.2.1, hn.2.2.2, by omega, by omega, by omega, hd1, fun H2 U2 hd2 => ⟨_, rfl, p, _, rfl, mp_now _ hd2, ?_⟩⟩
    have S2 : Same H H2 := fun b o e => U2 b o (ne_of_none e hp) (S1 b o e)
    have hd3 : upd H2 p (.dK (mD (nwT (nextN n m c).1) (nextN n m c).2)) p = some (.dK (mD (nwT (nextN n m c).1) (nextN n m c).2)) := upd_same
    have S3 := same_upd S2 hp (o := .dK (mD (nwT (nextN n m c).1) (nextN n m c).2))
    generalize upd H2 p (.dK (mD (nwT (nextN n m c).1) (nextN n m c).2)) = H3 at hd3 S3
    have nct := next_ct (n := n) (m := m) (c := c) hct.1 hct.2
    have nln := next_len (n := n) (m := m) (c := c) hlen.1 hlen.2
    have nai := next_ai (n := n) (m := m) (c := c)
    generalize (nextN n m c).1 = n' at hd3 nct nai hgo
    generalize (nextN n m c).2 = m' at hd3 nct nln hgo
    have nS : ∀ a : Nw, ¬ n' = a → ¬ V.str (S (nwT n')) = V.str (S (nwT a)) := fun a h z => h (nwT_inj (S_inj (V.str.inj z)))
    unfold goX at hgo
    have ek : ((i : Int) + 1) = ((i + 1 : Nat) : Int) := by omega
    refine ⟨_, rfl, p, _, rfl, md_now hd3, rfl, _, rfl, ?_⟩
    by_cases b1 : n' = .bd
    · rw [if_pos b1] at hgo
      rw [hgo] at q
      refine iteDT (by rw [b1]; rfl) ⟨_, rfl, _, _, rfl, rfl, (by show 2 ≤ sizeLine; decide), fun u hu => q u _ (S3.trans (same_new hu _)) ?_⟩
      show upd H3 u _ u = some (.tup [.str (S cNone), .int ((i + 1 : Nat) : Int)])
      rw [upd_same, ← ek]
      rfl
    rw [if_neg b1] at hgo
    refine iteDF (nS .bd b1) ?_
    have nc2 := nct b1
    by_cases b2 : n' = .en ∨ n' = .rd
    · rw [if_pos b2] at hgo
      rw [hgo] at q
      rcases b2 with rfl | rfl
      · refine ⟨_, rfl, p, _, rfl, md_now hd3, rfl, _, rfl, iteDT rfl (iteT ?_)⟩
        refine gname_go (seq_at (seq_to (fun σ H' => H3 = H' ∧ σ = [some (.str (S keys)), some (.ref p), some (.int (i : Int)), some (optV (cnt m'.ct))]) (fun nx fin => ?_) ?_))
        · refine ⟨_, rfl, p, _, rfl, md_ct hd3, rfl, _, rfl, ?_⟩
          unfold cnt at fin
          by_cases ec : m'.ct = []
          · rw [if_pos ec] at fin
            exact iteNS (by rw [ec]; rfl) (fin _ _ ⟨rfl, rfl⟩)
          · rw [if_neg ec] at fin
            exact iteNF (fun z => ec (S_inj (V.str.inj z))) ⟨_, rfl, p, _, rfl, md_ct hd3, m'.ct, rfl, List.length_pos_iff.mpr ec, nc2.1, nc2.2, fin _ _ ⟨rfl, rfl⟩⟩
        rintro σ H4 ⟨rfl, rfl⟩
        refine ⟨_, rfl, p, _, rfl, md_sh hd3, _, rfl, _, rfl, p, _, rfl, md_vb hd3, _, rfl, p, _, rfl, md_tg hd3, _, rfl, p, _, rfl, md_ty hd3, (by show 5 ≤ sizeLine; decide), fun v hv => ⟨_, rfl, _, _, rfl, rfl, (by show 3 ≤ sizeLine; decide), fun u hu => q u _ (S3.trans ((same_new hv _).trans (same_new hu _))) ⟨v, same_new hu _ _ _ upd_same, ?_⟩⟩⟩
        show upd _ u _ u = some (.tup [.str (S cPhr), .ref v, .int ((i + 1 : Nat) : Int)])
        rw [upd_same, ← ek]
        rfl
      · refine ⟨_, rfl, p, _, rfl, md_now hd3, rfl, _, rfl, iteDF (nS .en (by decide)) ⟨_, rfl, p, _, rfl, md_now hd3, rfl, _, rfl, iteDT rfl ?_⟩⟩
        refine gname_go (seq_at (seq_to (fun σ H' => H3 = H' ∧ σ = [some (.str (S keys)), some (.ref p), some (.int (i : Int)), some (optV (cnt m'.ct))]) (fun nx fin => ?_) ?_))
        · refine ⟨_, rfl, p, _, rfl, md_ct hd3, rfl, _, rfl, ?_⟩
          unfold cnt at fin
          by_cases ec : m'.ct = []
          · rw [if_pos ec] at fin
            exact iteNS (by rw [ec]; rfl) (fin _ _ ⟨rfl, rfl⟩)
          · rw [if_neg ec] at fin
            exact iteNF (fun z => ec (S_inj (V.str.inj z))) ⟨_, rfl, p, _, rfl, md_ct hd3, m'.ct, rfl, List.length_pos_iff.mpr ec, nc2.1, nc2.2, fin _ _ ⟨rfl, rfl⟩⟩
        rintro σ H4 ⟨rfl, rfl⟩
        refine ⟨_, rfl, p, _, rfl, md_sh hd3, _, rfl, _, rfl, p, _, rfl, md_vb hd3, _, rfl, p, _, rfl, md_tg hd3, _, rfl, p, _, rfl, md_ty hd3, (by show 5 ≤ sizeLine; decide), fun v hv => ⟨_, rfl, _, _, rfl, rfl, (by show 3 ≤ sizeLine; decide), fun u hu => q u _ (S3.trans ((same_new hv _).trans (same_new hu _))) ⟨v, same_new hu _ _ _ upd_same, ?_⟩⟩⟩
        show upd _ u _ u = some (.tup [.str (S cPhr), .ref v, .int ((i + 1 : Nat) : Int)])
        rw [upd_same, ← ek]
        rfl
    · rw [if_neg b2] at hgo
      have b3 : ¬ n' = .en := fun z => b2 (.inl z)
      have b4 : ¬ n' = .rd := fun z => b2 (.inr z)
      exact ⟨_, rfl, p, _, rfl, md_now hd3, rfl, _, rfl, iteDF (nS .en b3) ⟨_, rfl, p, _, rfl, md_now hd3, rfl, _, rfl, iteDF (nS .rd b4) ⟨S3, n', m', some (.int (i : Int)), hd3, hgo, ⟨nai, b3, b4, b1⟩, nc2, nln, rfl⟩⟩⟩
  · rintro σ H1 ⟨S1, n, m, x, hd1, hgo, hn, hct, hlen, rfl⟩
    have ez : ((keys.length : Nat) : Int).toNat = keys.length := by omega
    have hgo : goN .st ⟨[], [], [], [], []⟩ 0 keys = .half := by
      rw [hgo]
      show goN n m _ (keys.drop ((keys.length : Nat) : Int).toNat) = _
      rw [ez, List.drop_length]
      rfl
    rw [hgo] at q
    exact ⟨(by show 1 ≤ sizeLine; decide), fun u hu => q u _ (S1.trans (same_new hu _)) upd_same⟩
end
end My

set_option Elab.async false
set_option linter.all false
set_option maxRecDepth 100000
set_option maxHeartbeats 4000000
namespace My
open PySem L2


def ones (l : List Nat) : List V := l.map fun c => V.str (S [c])
theorem ones_eq (l : List Nat) : ones l = ((l.map fun c => [c]).map fun r => V.str (S r)) := by unfold ones; rw [List.map_map]; rfl
theorem ones_flat (l : List Nat) : (l.map fun c => [c]).flatten = l := by induction l with | nil => rfl | cons c l ih => rw [List.map_cons, List.flatten_cons, ih]; rfl
theorem phV_fl (p : Ph) : (phV p).all flatV = true ∧ eqs (phV p) (phV p) = true := by
  have hf : ∀ x ∈ phV p, flatV x = true := fun x hx => by
    unfold phV at hx
    simp only [List.mem_cons, List.not_mem_nil, or_false] at hx
    rcases hx with rfl | rfl | rfl | rfl | rfl
    · rfl
    · cases p.ct <;> rfl
    · rfl
    · rfl
    · rfl
  have ha : (phV p).all flatV = true := List.all_eq_true.mpr hf
  exact ⟨ha, eqs_self ha (fun x hx => eqV_self (hf x hx))⟩
theorem firV_res {H : Hp} {u : Addr} {keys : List Nat} (h : FirV H keys u) (hA : ∀ c ∈ keys, c ∈ AL) : ResV H u (goN .st ⟨[], [], [], [], []⟩ 0 keys) := by
  have hm := machine keys hA
  rw [hm]
  unfold FirV at h
  unfold finR
  by_cases h1 : (rdPh (keys, false)).2.2 = false
  · rw [if_pos h1] at h ⊢
    exact h
  · rw [if_neg h1] at h ⊢
    by_cases h2 : (rdPh (keys, false)).2.1 = []
    · rw [if_pos h2]
      rw [if_pos (by rw [h2]; rfl)] at h
      exact h
    · rw [if_neg h2]
      by_cases h3 : keys = []
      · exfalso
        subst h3
        unfold finR at hm
        rw [if_neg h1, if_neg h2] at hm
        cases hm
      · have hp : 0 < (rdPh (keys, false)).2.1.length := List.length_pos_iff.mpr h2
        have hk : 0 < keys.length := List.length_pos_iff.mpr h3
        rw [if_neg (by omega)] at h
        exact h
theorem go_ge : ∀ (r : List Nat) (n : Nw) (m : MS) (i : Nat), (∀ k, goN n m i r = .non k → i < k ∧ k ≤ i + r.length) ∧ ∀ p k, goN n m i r = .phr p k → i < k ∧ k ≤ i + r.length
  | [], n, m, i => ⟨(fun k h => by cases h), (fun p k h => by cases h)⟩
  | c :: r, n, m, i => by
    have ih := go_ge r (nextN n m c).1 (nextN n m c).2 (i + 1)
    rw [go_cons]
    unfold goX
    split
    · exact ⟨(fun k h => by cases h; exact ⟨by omega, by rw [List.length_cons]; omega⟩), (fun p k h => by cases h)⟩
    split
    · exact ⟨(fun k h => by cases h), (fun p k h => by cases h; exact ⟨by omega, by rw [List.length_cons]; omega⟩)⟩
    · exact ⟨(fun k h => by have := ih.1 k h; rw [List.length_cons]; omega), (fun p k h => by have := ih.2 p k h; rw [List.length_cons]; omega)⟩
theorem ResV.same {H H' : Hp} {u : Addr} {r : Res} (h : ResV H u r) (q : Same H H') : ResV H' u r := by
  cases r with
  | half => exact q _ _ h
  | non k => exact q _ _ h
  | phr p k => obtain ⟨v, h1, h⟩ := h; exact ⟨v, q _ _ h1, q _ _ h⟩
def lwP (a : Addr) (σ : St) (H : Hp) : Prop := ∃ (keys t : List Nat) (u : Addr) (xs : List V) (x : Option V), keys.length ≤ 60 ∧ (∀ c ∈ keys, c ∈ AL) ∧ H u = some (.tup (.str (S t) :: xs)) ∧ σ = [some (.ref a), some (.str (S keys)), some (.ref u), x]
open Classical in
noncomputable def lwM (σ : St) (H : Hp) : Nat := match σ with
  | [_, some (.str s), some (.ref u), _] => 2 * s.length + (if ∃ xs, H u = some (.tup (.str (S cHlf) :: xs)) then 0 else 1)
  | _ => 0
theorem lwM_at {a u : Addr} {keys t : List Nat} {xs : List V} {x : Option V} {H : Hp} (h : H u = some (.tup (.str (S t) :: xs))) : lwM [some (.ref a), some (.str (S keys)), some (.ref u), x] H = 2 * keys.length + (if t = cHlf then 0 else 1) := by
  show 2 * (S keys).length + _ = _
  have e : (S keys).length = keys.length := rfl
  rw [e]
  congr 1
  by_cases ht : t = cHlf
  · rw [if_pos ht, if_pos ⟨xs, by rw [h, ht]⟩]
  · rw [if_neg ht, if_neg (fun ⟨ys, z⟩ => by
      rw [h] at z
      have z := List.cons.inj (HO.tup.inj (Option.some.inj z))
      exact ht (S_inj (V.str.inj z.1)))]
section
variable {P : Program} {w : World} {K : PySem.W.Frag} {mg : Str → Option Value} {base : Heap} {f : Addr} {fd : FuncData}
theorem sc_law : FnScope ["_law_script", "_law_keys", "_law_due", "_law_found"] ["_law_script"] (defScope s_law) := ⟨rfl, rfl, rfl, by decide +kernel, rfl, by decide +kernel, by decide +kernel⟩
theorem ok_law (F : Fun K "law" "law" s_law f fd) (O__law_key_by : Own P w K mg base CX0 2 "_law_key_by" ["_law_cell"] sp_sg44) (O__law_first : Own P w K mg base CX0 4 "_law_first" ["_law_keys"] sp_lfirst) (O_first : Own P w K mg base CX0 6 "first" ["keys"] sp_first) (m_isinstance : mg "isinstance" = none) (m_tuple : mg "tuple" = none) : FnOk P w K mg base CX0 7 f fd ["_law_script"] (sp_law K) := by
  refine F.ok sc_law (fun vs H Q E h => ?_) (fun cdv A outer s H vs Q E hr h => ?_)
  · obtain ⟨a, ns, rfl, _⟩ := h
    rfl
  obtain ⟨a, ns, rfl, hS, h63, q⟩ := h
  refine ⟨_, (pss_cons (ps_set (i := 1) sc_law.nd rfl (Or.inl rfl) (pe_bm PySem.F.plainAttrs_str PySem.F.slot_str_join PySem.F.type_str_join mt_join pe_str (pa_cons (pe_comp ["_law_cell"] _ [] rfl (cl_none ["_law_cell"] (by decide +kernel) rfl (by decide +kernel)) (pi_list (pe_slice sl_list (pv 0) po_none (po_some pe_int))) (fun _ _ _ _ => pg_name (i := 0) (nd1 _) rfl (Or.inl rfl)) (fun _ _ _ _ => pif_nil) (fun _ _ _ _ => (pe_own O__law_key_by hr (by rfl) pass0 (pa_cons (pv 0) pa_nil)))) pa_nil)))
      (pss_cons (ps_set (i := 2) sc_law.nd rfl (Or.inl rfl) (pe_tup (pa_cons pe_str (pa_cons pe_int pa_nil))))
      (pss_cons (ps_while PassesOwn.never (pt_cmpR op_ne (pe_ix ix_tup (pv 2) pe_int (fun _ _ => rfl)) pe_str (nomark _)) (pss_cons (ps_set (i := 2) sc_law.nd rfl (Or.inl rfl) (pe_own O__law_first hr (by rfl) pass0 (pa_cons (pv 1) pa_nil)))
      (pss_cons (ps_set (i := 3) sc_law.nd rfl (Or.inl rfl) (pe_own O_first hr (by rfl) pass0 (pa_cons (pv 1) pa_nil)))
      (pss_cons (ps_if (PW.pt (pw_or (pt_not (pt_val (pe_callB call_isi (by rfl) m_isinstance boot_isi (pa_cons (pv 3) (pa_cons (pe_bltn (v := .ty "tuple") (by rfl) m_tuple boot_tuple rfl) pa_nil))))) (pw_or1 (pt_cmpR (op_neS hr.u1) (pv 3) (pv 2) (nomark _))))) (pss_one (ps_ret pe_bl)) pss_nil)
      (pss_one (ps_if (pt_cmpR op_ne (pe_ix ix_tup (pv 2) pe_int (fun _ _ => rfl)) pe_str (nomark _)) (pss_one (ps_set (i := 1) sc_law.nd rfl (Or.inl rfl) (pe_slice sl_str (pv 1) (po_some (pe_ix ix_tup (pv 2) (pe_un un_neg pe_int) (fun _ _ => rfl))) po_none))) pss_nil))))))
      (pss_one (ps_ret (pe_cmpR (op_eqS hr.u1) (pe_own O_first hr (by rfl) pass0 (pa_cons pe_str pa_nil)) (pe_tup (pa_cons pe_str pa_nil)) (nomark _))))))), ?_⟩
  refine ⟨rfl, _, rfl, _, rfl, a, _, rfl, hS, fun d hd => ?_⟩
  have sqd : SqL K (upd H d (.lst (cutV (ns.map V.int) none (some 60)))) d ((cutL ns none (some 60)).map V.int) := sq_cut
  have hcut : (cutL ns none (some 60)).length ≤ 60 := by rw [show cutL ns none (some 60) = ns.take 60 from cutL_m ns 60, List.length_take]; omega
  generalize upd H d (.lst (cutV (ns.map V.int) none (some 60))) = H1 at sqd
  generalize cutL ns none (some 60) = cs at hcut sqd
  refine ⟨d, rfl, ⟨_, sqd⟩, fun D hD => ?_⟩
  refine comp_list (xs := cs.map V.int) (fun i σ H' => (∃ x : Option V, σ = [x]) ∧ Same H1 H' ∧ ∃ l : List Nat, l.length = i ∧ (∀ c ∈ l, c ∈ AL) ∧ H' D = some (.lst (ones l))) ⟨⟨none, rfl⟩, same_new hD _, [], rfl, (fun c h => by cases h), upd_same⟩ (fun i σ H' _ h => h.2.1.seq sqd) ?_ ?_
  · rintro i v σ H' hv ⟨⟨x, rfl⟩, SS, l, hl, hc, hD'⟩
    obtain ⟨n, hn, rfl⟩ := List.mem_map.mp (List.mem_of_getElem? hv)
    have hi : i < 60 := by
      have := (List.getElem?_eq_some_iff.mp hv).1
      rw [List.length_map] at this
      omega
    refine yes ⟨_, rfl, n, rfl, fun c hc' => ⟨_, hD', ?_, ⟨_, rfl⟩, same_upd SS hD, l ++ [c], by rw [List.length_append, hl]; rfl, fun c2 h2 => ?_, ?_⟩⟩
    · unfold ones
      rw [List.length_map, hl]
      exact Nat.lt_of_lt_of_le (show _ < 1000000 by omega) (small (Nat.le_refl _))
    · rcases List.mem_append.mp h2 with z | z
      · exact hc _ z
      · rw [List.mem_singleton] at z; subst z; exact hc'
    · rw [upd_same]
      unfold ones
      rw [List.map_append]
      rfl
  rintro σ H2 ⟨_, S2, l, hl, hA, hD2⟩
  have hl : l.length ≤ 60 := by rw [hl, List.length_map]; exact hcut
  have SD : SqL K H2 D ((l.map fun c => [c]).map fun r => V.str (S r)) := by rw [← ones_eq]; exact SqL.of hD2
  refine ⟨D, l.map fun c => [c], rfl, rfl, SD, by rw [ones_flat]; omega, ?_⟩
  rw [ones_flat]
  refine ⟨(by show 2 ≤ sizeLine; decide), fun u hu => ?_⟩
  have hu2 : upd H2 u (.tup [.str "none", .int 0]) u = some (.tup (.str (S cNone) :: [.int 0])) := upd_same
  generalize upd H2 u (.tup [.str "none", .int 0]) = H3 at hu2
  refine gname_go (seq_at (seq_to (fun σ H' => True) (fun nx fin => ?_) ?_))
  · refine while_in (lwP a) lwM ⟨l, cNone, u, _, none, hl, hA, hu2, rfl⟩ ?_
    rintro σ H4 ⟨keys, t, u, xs, x, hkl, hkA, hu4, rfl⟩
    have hmu := lwM_at (a := a) (keys := keys) (x := x) hu4
    have hat0 : atI (V.str (S t) :: xs) 0 = some (.str (S t)) := by
      show atI (V.str (S t) :: xs) ((0 : Nat) : Int) = _
      exact atI_nat rfl
    refine ⟨_, rfl, u, _, _, _, rfl, rfl, SqT.of hu4, hat0, rfl, _, rfl, ?_⟩
    by_cases ht : t = cHlf
    · exact iteNS (by rw [ht]; rfl) (fin _ _ trivial)
    rw [if_neg ht] at hmu
    refine iteNF (fun z => ht (S_inj (V.str.inj z))) ⟨_, turn_N (Pv := lwP a) (μ := lwM), ?_⟩
    refine ⟨_, rfl, keys, rfl, hkl, fun v H5 S5 hv5 => ⟨_, rfl, keys, rfl, by omega, fun v2 H6 S6 hF => ?_⟩⟩
    have hf6 := firV_res hF hkA
    have hv6 := hv5.same S6
    have hge := go_ge keys .st ⟨[], [], [], [], []⟩ 0
    generalize goN .st ⟨[], [], [], [], []⟩ 0 keys = r at hf6 hv6 hge
    cases r with
    | half =>
      have h1 : H6 v = some (.tup [.str (S cHlf)]) := hv6
      have h2 : H6 v2 = some (.tup [.str (S cHlf)]) := hf6
      refine ⟨_, rfl, _, _, _, _, rfl, ⟨_, .inl rfl⟩, .tup h2, kit_tt, _, rfl, iteF ?_⟩
      refine ⟨_, rfl, _, rfl, v2, v, _, _, rfl, rfl, .inr ⟨SqT.of h2, SqT.of h1⟩, rfl, (fun j a b ea eb => ?_), _, rfl, iteF ?_⟩
      · match j, ea, eb with
        | 0, ea, eb => cases ea; cases eb; exact .inl ⟨rfl, rfl, eqV_self rfl⟩
      refine ⟨_, rfl, v, _, _, _, rfl, rfl, SqT.of h1, rfl, rfl, _, rfl, iteNS rfl ⟨⟨keys, cHlf, v, _, _, hkl, hkA, h1, rfl⟩, ?_⟩⟩
      have := lwM_at (a := a) (keys := keys) (x := some (.ref v2)) h1
      rw [if_pos rfl] at this
      show lwM [some (.ref a), some (.str (S keys)), some (.ref v), some (.ref v2)] H6 < _
      omega
    | non k =>
      have h1 : H6 v = some (.tup [.str (S cNone), nV k]) := hv6
      have h2 : H6 v2 = some (.tup [.str (S cNone), nV k]) := hf6
      have hk := hge.1 k rfl
      refine ⟨_, rfl, _, _, _, _, rfl, ⟨_, .inl rfl⟩, .tup h2, kit_tt, _, rfl, iteF ?_⟩
      refine ⟨_, rfl, _, rfl, v2, v, _, _, rfl, rfl, .inr ⟨SqT.of h2, SqT.of h1⟩, rfl, (fun j a b ea eb => ?_), _, rfl, iteF ?_⟩
      · match j, ea, eb with
        | 0, ea, eb => cases ea; cases eb; exact .inl ⟨rfl, rfl, eqV_self rfl⟩
        | 1, ea, eb => cases ea; cases eb; exact .inl ⟨rfl, rfl, eqV_self rfl⟩
      refine ⟨_, rfl, v, _, _, _, rfl, rfl, SqT.of h1, rfl, rfl, _, rfl, iteNF (fun z => absurd (S_inj (V.str.inj z)) (by decide)) ⟨_, rfl, _, rfl, _, rfl, v, _, _, _, rfl, rfl, SqT.of h1, (show atI _ (-1) = some (nV k) from rfl), (k : Int), rfl, keys, rfl, small (by omega), ⟨cutL keys (some (k : Int)) none, cNone, v, _, _, ?_, fun c hc => ?_, h1, rfl⟩, ?_⟩⟩
      · rw [cutL_n, List.length_drop]
        omega
      · rw [cutL_n] at hc
        exact hkA c (List.mem_of_mem_drop hc)
      · have := lwM_at (a := a) (keys := cutL keys (some (k : Int)) none) (x := some (.ref v2)) h1
        rw [if_neg (by decide), cutL_n, List.length_drop] at this
        show lwM [some (.ref a), some (.str (S (cutL keys (some (k : Int)) none))), some (.ref v), some (.ref v2)] H6 < _
        rw [cutL_n]
        omega
    | phr p k =>
      obtain ⟨t1, ht1, h1⟩ := hv6
      obtain ⟨t2, ht2, h2⟩ := hf6
      have hk := hge.2 p k rfl
      refine ⟨_, rfl, _, _, _, _, rfl, ⟨_, .inl rfl⟩, .tup h2, kit_tt, _, rfl, iteF ?_⟩
      refine ⟨_, rfl, _, rfl, v2, v, _, _, rfl, rfl, .inr ⟨SqT.of h2, SqT.of h1⟩, rfl, (fun j a b ea eb => ?_), _, rfl, iteF ?_⟩
      · match j, ea, eb with
        | 0, ea, eb => cases ea; cases eb; exact .inl ⟨rfl, rfl, eqV_self rfl⟩
        | 1, ea, eb => cases ea; cases eb; exact .inr ⟨t2, t1, phV p, rfl, rfl, .inr ⟨SqT.of ht2, SqT.of ht1⟩, (phV_fl p).1, (phV_fl p).2⟩
        | 2, ea, eb => cases ea; cases eb; exact .inl ⟨rfl, rfl, eqV_self rfl⟩
      refine ⟨_, rfl, v, _, _, _, rfl, rfl, SqT.of h1, rfl, rfl, _, rfl, iteNF (fun z => absurd (S_inj (V.str.inj z)) (by decide)) ⟨_, rfl, _, rfl, _, rfl, v, _, _, _, rfl, rfl, SqT.of h1, (show atI _ (-1) = some (nV k) from rfl), (k : Int), rfl, keys, rfl, small (by omega), ⟨cutL keys (some (k : Int)) none, cPhr, v, _, _, ?_, fun c hc => ?_, h1, rfl⟩, ?_⟩⟩
      · rw [cutL_n, List.length_drop]
        omega
      · rw [cutL_n] at hc
        exact hkA c (List.mem_of_mem_drop hc)
      · have := lwM_at (a := a) (keys := cutL keys (some (k : Int)) none) (x := some (.ref v2)) h1
        rw [if_neg (by decide), cutL_n, List.length_drop] at this
        show lwM [some (.ref a), some (.str (S (cutL keys (some (k : Int)) none))), some (.ref v), some (.ref v2)] H6 < _
        rw [cutL_n]
        omega
  rintro σ H4 _
  refine ⟨[], rfl, (by decide), fun v H5 S5 hF => ⟨(by show 1 ≤ sizeLine; decide), fun w2 hw2 => ?_⟩⟩
  have hv := firV_res hF (fun c h => by cases h)
  have h1 : H5 v = some (.tup [.str (S cHlf)]) := hv
  have h2 := same_new hw2 (.tup [.str "half"]) _ _ h1
  refine ⟨v, w2, _, _, rfl, rfl, .inr ⟨SqT.of h2, SqT.of upd_same⟩, rfl, (fun j a b ea eb => ?_), q _⟩
  match j, ea, eb with
  | 0, ea, eb => cases ea; cases eb; exact .inl ⟨rfl, rfl, eqV_self rfl⟩
end
end My

set_option Elab.async false
set_option linter.all false
set_option maxRecDepth 100000
set_option maxHeartbeats 4000000
namespace My
open PySem L2

theorem len0 {α : Type} {us : List α} (h : us.length = 0) : us = [] := List.length_eq_zero_iff.mp h
theorem len1 {α : Type} {us : List α} (h : us.length = 1) : ∃ a, us = [a] := List.length_eq_one_iff.mp h
theorem len2 {α : Type} {us : List α} (h : us.length = 2) : ∃ a b, us = [a, b] := by
  cases us with
  | nil => cases h
  | cons a r => obtain ⟨b, rfl⟩ := len1 (Nat.succ.inj h); exact ⟨a, b, rfl⟩
theorem len3 {α : Type} {us : List α} (h : us.length = 3) : ∃ a b c, us = [a, b, c] := by
  cases us with
  | nil => cases h
  | cons a r => obtain ⟨b, c, rfl⟩ := len2 (Nat.succ.inj h); exact ⟨a, b, c, rfl⟩
theorem len4 {α : Type} {us : List α} (h : us.length = 4) : ∃ a b c d, us = [a, b, c, d] := by
  cases us with
  | nil => cases h
  | cons a r => obtain ⟨b, c, d, rfl⟩ := len3 (Nat.succ.inj h); exact ⟨a, b, c, d, rfl⟩
theorem len5 {α : Type} {us : List α} (h : us.length = 5) : ∃ a b c d e, us = [a, b, c, d, e] := by
  cases us with
  | nil => cases h
  | cons a r => obtain ⟨b, c, d, e, rfl⟩ := len4 (Nat.succ.inj h); exact ⟨a, b, c, d, e, rfl⟩

theorem all_mk {l : PySem.W.OpenLaw} {w : World} {K : PySem.W.Frag} {h : Heap} {mg : Str → Option Value} {fa : Addr} (X : K.In h) (G : h.Ns mainGlobals mg) (hfa : mg "law" = some (.ref fa))
    {f_read_shelf : Addr} {od_read_shelf an_read_shelf : Option Addr} {sl_read_shelf : Array (Option Value)} {oc_read_shelf kV_read_shelf dc_read_shelf pm_read_shelf cd_read_shelf ct_read_shelf : Value}
    (a_read_shelf : PySem.W.nsIn K mainGlobals "read_shelf" = some (some (.ref f_read_shelf))) (l_read_shelf : K.lookup f_read_shelf = some ⟨oc_read_shelf, od_read_shelf, .func (PySem.W.fnOf "read_shelf" "read_shelf" (defArgs s_read_shelf) (defBody s_read_shelf) (defScope s_read_shelf) .none kV_read_shelf dc_read_shelf pm_read_shelf an_read_shelf cd_read_shelf ct_read_shelf), sl_read_shelf⟩) (c_read_shelf : PySem.W.codeIn K cd_read_shelf "read_shelf" = true) (k_read_shelf : PySem.W.keepIn K (.ref f_read_shelf) = true)
    {f_read_count : Addr} {od_read_count an_read_count : Option Addr} {sl_read_count : Array (Option Value)} {oc_read_count kV_read_count dc_read_count pm_read_count cd_read_count ct_read_count : Value}
    (a_read_count : PySem.W.nsIn K mainGlobals "read_count" = some (some (.ref f_read_count))) (l_read_count : K.lookup f_read_count = some ⟨oc_read_count, od_read_count, .func (PySem.W.fnOf "read_count" "read_count" (defArgs s_read_count) (defBody s_read_count) (defScope s_read_count) .none kV_read_count dc_read_count pm_read_count an_read_count cd_read_count ct_read_count), sl_read_count⟩) (c_read_count : PySem.W.codeIn K cd_read_count "read_count" = true) (k_read_count : PySem.W.keepIn K (.ref f_read_count) = true)
    {f_read_verb : Addr} {od_read_verb an_read_verb : Option Addr} {sl_read_verb : Array (Option Value)} {oc_read_verb kV_read_verb dc_read_verb pm_read_verb cd_read_verb ct_read_verb : Value}
    (a_read_verb : PySem.W.nsIn K mainGlobals "read_verb" = some (some (.ref f_read_verb))) (l_read_verb : K.lookup f_read_verb = some ⟨oc_read_verb, od_read_verb, .func (PySem.W.fnOf "read_verb" "read_verb" (defArgs s_read_verb) (defBody s_read_verb) (defScope s_read_verb) .none kV_read_verb dc_read_verb pm_read_verb an_read_verb cd_read_verb ct_read_verb), sl_read_verb⟩) (c_read_verb : PySem.W.codeIn K cd_read_verb "read_verb" = true) (k_read_verb : PySem.W.keepIn K (.ref f_read_verb) = true)
    {f_read_aim : Addr} {od_read_aim an_read_aim : Option Addr} {sl_read_aim : Array (Option Value)} {oc_read_aim kV_read_aim dc_read_aim pm_read_aim cd_read_aim ct_read_aim : Value}
    (a_read_aim : PySem.W.nsIn K mainGlobals "read_aim" = some (some (.ref f_read_aim))) (l_read_aim : K.lookup f_read_aim = some ⟨oc_read_aim, od_read_aim, .func (PySem.W.fnOf "read_aim" "read_aim" (defArgs s_read_aim) (defBody s_read_aim) (defScope s_read_aim) .none kV_read_aim dc_read_aim pm_read_aim an_read_aim cd_read_aim ct_read_aim), sl_read_aim⟩) (c_read_aim : PySem.W.codeIn K cd_read_aim "read_aim" = true) (k_read_aim : PySem.W.keepIn K (.ref f_read_aim) = true)
    {f_read_target : Addr} {od_read_target an_read_target : Option Addr} {sl_read_target : Array (Option Value)} {oc_read_target kV_read_target dc_read_target pm_read_target cd_read_target ct_read_target : Value}
    (a_read_target : PySem.W.nsIn K mainGlobals "read_target" = some (some (.ref f_read_target))) (l_read_target : K.lookup f_read_target = some ⟨oc_read_target, od_read_target, .func (PySem.W.fnOf "read_target" "read_target" (defArgs s_read_target) (defBody s_read_target) (defScope s_read_target) .none kV_read_target dc_read_target pm_read_target an_read_target cd_read_target ct_read_target), sl_read_target⟩) (c_read_target : PySem.W.codeIn K cd_read_target "read_target" = true) (k_read_target : PySem.W.keepIn K (.ref f_read_target) = true)
    {f_read_up_to : Addr} {od_read_up_to an_read_up_to : Option Addr} {sl_read_up_to : Array (Option Value)} {oc_read_up_to kV_read_up_to dc_read_up_to pm_read_up_to cd_read_up_to ct_read_up_to : Value}
    (a_read_up_to : PySem.W.nsIn K mainGlobals "read_up_to" = some (some (.ref f_read_up_to))) (l_read_up_to : K.lookup f_read_up_to = some ⟨oc_read_up_to, od_read_up_to, .func (PySem.W.fnOf "read_up_to" "read_up_to" (defArgs s_read_up_to) (defBody s_read_up_to) (defScope s_read_up_to) .none kV_read_up_to dc_read_up_to pm_read_up_to an_read_up_to cd_read_up_to ct_read_up_to), sl_read_up_to⟩) (c_read_up_to : PySem.W.codeIn K cd_read_up_to "read_up_to" = true) (k_read_up_to : PySem.W.keepIn K (.ref f_read_up_to) = true)
    {f_read_typed : Addr} {od_read_typed an_read_typed : Option Addr} {sl_read_typed : Array (Option Value)} {oc_read_typed kV_read_typed dc_read_typed pm_read_typed cd_read_typed ct_read_typed : Value}
    (a_read_typed : PySem.W.nsIn K mainGlobals "read_typed" = some (some (.ref f_read_typed))) (l_read_typed : K.lookup f_read_typed = some ⟨oc_read_typed, od_read_typed, .func (PySem.W.fnOf "read_typed" "read_typed" (defArgs s_read_typed) (defBody s_read_typed) (defScope s_read_typed) .none kV_read_typed dc_read_typed pm_read_typed an_read_typed cd_read_typed ct_read_typed), sl_read_typed⟩) (c_read_typed : PySem.W.codeIn K cd_read_typed "read_typed" = true) (k_read_typed : PySem.W.keepIn K (.ref f_read_typed) = true)
    {f_read_phrase : Addr} {od_read_phrase an_read_phrase : Option Addr} {sl_read_phrase : Array (Option Value)} {oc_read_phrase kV_read_phrase dc_read_phrase pm_read_phrase cd_read_phrase ct_read_phrase : Value}
    (a_read_phrase : PySem.W.nsIn K mainGlobals "read_phrase" = some (some (.ref f_read_phrase))) (l_read_phrase : K.lookup f_read_phrase = some ⟨oc_read_phrase, od_read_phrase, .func (PySem.W.fnOf "read_phrase" "read_phrase" (defArgs s_read_phrase) (defBody s_read_phrase) (defScope s_read_phrase) .none kV_read_phrase dc_read_phrase pm_read_phrase an_read_phrase cd_read_phrase ct_read_phrase), sl_read_phrase⟩) (c_read_phrase : PySem.W.codeIn K cd_read_phrase "read_phrase" = true) (k_read_phrase : PySem.W.keepIn K (.ref f_read_phrase) = true)
    {f_first : Addr} {od_first an_first : Option Addr} {sl_first : Array (Option Value)} {oc_first kV_first dc_first pm_first cd_first ct_first : Value}
    (a_first : PySem.W.nsIn K mainGlobals "first" = some (some (.ref f_first))) (l_first : K.lookup f_first = some ⟨oc_first, od_first, .func (PySem.W.fnOf "first" "first" (defArgs s_first) (defBody s_first) (defScope s_first) .none kV_first dc_first pm_first an_first cd_first ct_first), sl_first⟩) (c_first : PySem.W.codeIn K cd_first "first" = true) (k_first : PySem.W.keepIn K (.ref f_first) = true)
    {f__law_sign_by : Addr} {od__law_sign_by an__law_sign_by : Option Addr} {sl__law_sign_by : Array (Option Value)} {oc__law_sign_by kV__law_sign_by dc__law_sign_by pm__law_sign_by cd__law_sign_by ct__law_sign_by : Value}
    (a__law_sign_by : PySem.W.nsIn K mainGlobals "_law_sign_by" = some (some (.ref f__law_sign_by))) (l__law_sign_by : K.lookup f__law_sign_by = some ⟨oc__law_sign_by, od__law_sign_by, .func (PySem.W.fnOf "_law_sign_by" "_law_sign_by" (defArgs s__law_sign_by) (defBody s__law_sign_by) (defScope s__law_sign_by) .none kV__law_sign_by dc__law_sign_by pm__law_sign_by an__law_sign_by cd__law_sign_by ct__law_sign_by), sl__law_sign_by⟩) (c__law_sign_by : PySem.W.codeIn K cd__law_sign_by "_law_sign_by" = true) (k__law_sign_by : PySem.W.keepIn K (.ref f__law_sign_by) = true)
    {f__law_key_by : Addr} {od__law_key_by an__law_key_by : Option Addr} {sl__law_key_by : Array (Option Value)} {oc__law_key_by kV__law_key_by dc__law_key_by pm__law_key_by cd__law_key_by ct__law_key_by : Value}
    (a__law_key_by : PySem.W.nsIn K mainGlobals "_law_key_by" = some (some (.ref f__law_key_by))) (l__law_key_by : K.lookup f__law_key_by = some ⟨oc__law_key_by, od__law_key_by, .func (PySem.W.fnOf "_law_key_by" "_law_key_by" (defArgs s__law_key_by) (defBody s__law_key_by) (defScope s__law_key_by) .none kV__law_key_by dc__law_key_by pm__law_key_by an__law_key_by cd__law_key_by ct__law_key_by), sl__law_key_by⟩) (c__law_key_by : PySem.W.codeIn K cd__law_key_by "_law_key_by" = true) (k__law_key_by : PySem.W.keepIn K (.ref f__law_key_by) = true)
    {f__law_opened : Addr} {od__law_opened an__law_opened : Option Addr} {sl__law_opened : Array (Option Value)} {oc__law_opened kV__law_opened dc__law_opened pm__law_opened cd__law_opened ct__law_opened : Value}
    (a__law_opened : PySem.W.nsIn K mainGlobals "_law_opened" = some (some (.ref f__law_opened))) (l__law_opened : K.lookup f__law_opened = some ⟨oc__law_opened, od__law_opened, .func (PySem.W.fnOf "_law_opened" "_law_opened" (defArgs s__law_opened) (defBody s__law_opened) (defScope s__law_opened) .none kV__law_opened dc__law_opened pm__law_opened an__law_opened cd__law_opened ct__law_opened), sl__law_opened⟩) (c__law_opened : PySem.W.codeIn K cd__law_opened "_law_opened" = true) (k__law_opened : PySem.W.keepIn K (.ref f__law_opened) = true)
    {f__law_aimed : Addr} {od__law_aimed an__law_aimed : Option Addr} {sl__law_aimed : Array (Option Value)} {oc__law_aimed kV__law_aimed dc__law_aimed pm__law_aimed cd__law_aimed ct__law_aimed : Value}
    (a__law_aimed : PySem.W.nsIn K mainGlobals "_law_aimed" = some (some (.ref f__law_aimed))) (l__law_aimed : K.lookup f__law_aimed = some ⟨oc__law_aimed, od__law_aimed, .func (PySem.W.fnOf "_law_aimed" "_law_aimed" (defArgs s__law_aimed) (defBody s__law_aimed) (defScope s__law_aimed) .none kV__law_aimed dc__law_aimed pm__law_aimed an__law_aimed cd__law_aimed ct__law_aimed), sl__law_aimed⟩) (c__law_aimed : PySem.W.codeIn K cd__law_aimed "_law_aimed" = true) (k__law_aimed : PySem.W.keepIn K (.ref f__law_aimed) = true)
    {f__law_small : Addr} {od__law_small an__law_small : Option Addr} {sl__law_small : Array (Option Value)} {oc__law_small kV__law_small dc__law_small pm__law_small cd__law_small ct__law_small : Value}
    (a__law_small : PySem.W.nsIn K mainGlobals "_law_small" = some (some (.ref f__law_small))) (l__law_small : K.lookup f__law_small = some ⟨oc__law_small, od__law_small, .func (PySem.W.fnOf "_law_small" "_law_small" (defArgs s__law_small) (defBody s__law_small) (defScope s__law_small) .none kV__law_small dc__law_small pm__law_small an__law_small cd__law_small ct__law_small), sl__law_small⟩) (c__law_small : PySem.W.codeIn K cd__law_small "_law_small" = true) (k__law_small : PySem.W.keepIn K (.ref f__law_small) = true)
    {f__law_one : Addr} {od__law_one an__law_one : Option Addr} {sl__law_one : Array (Option Value)} {oc__law_one kV__law_one dc__law_one pm__law_one cd__law_one ct__law_one : Value}
    (a__law_one : PySem.W.nsIn K mainGlobals "_law_one" = some (some (.ref f__law_one))) (l__law_one : K.lookup f__law_one = some ⟨oc__law_one, od__law_one, .func (PySem.W.fnOf "_law_one" "_law_one" (defArgs s__law_one) (defBody s__law_one) (defScope s__law_one) .none kV__law_one dc__law_one pm__law_one an__law_one cd__law_one ct__law_one), sl__law_one⟩) (c__law_one : PySem.W.codeIn K cd__law_one "_law_one" = true) (k__law_one : PySem.W.keepIn K (.ref f__law_one) = true)
    {f__law_run : Addr} {od__law_run an__law_run : Option Addr} {sl__law_run : Array (Option Value)} {oc__law_run kV__law_run dc__law_run pm__law_run cd__law_run ct__law_run : Value}
    (a__law_run : PySem.W.nsIn K mainGlobals "_law_run" = some (some (.ref f__law_run))) (l__law_run : K.lookup f__law_run = some ⟨oc__law_run, od__law_run, .func (PySem.W.fnOf "_law_run" "_law_run" (defArgs s__law_run) (defBody s__law_run) (defScope s__law_run) .none kV__law_run dc__law_run pm__law_run an__law_run cd__law_run ct__law_run), sl__law_run⟩) (c__law_run : PySem.W.codeIn K cd__law_run "_law_run" = true) (k__law_run : PySem.W.keepIn K (.ref f__law_run) = true)
    {f__law_begun : Addr} {od__law_begun an__law_begun : Option Addr} {sl__law_begun : Array (Option Value)} {oc__law_begun kV__law_begun dc__law_begun pm__law_begun cd__law_begun ct__law_begun : Value}
    (a__law_begun : PySem.W.nsIn K mainGlobals "_law_begun" = some (some (.ref f__law_begun))) (l__law_begun : K.lookup f__law_begun = some ⟨oc__law_begun, od__law_begun, .func (PySem.W.fnOf "_law_begun" "_law_begun" (defArgs s__law_begun) (defBody s__law_begun) (defScope s__law_begun) .none kV__law_begun dc__law_begun pm__law_begun an__law_begun cd__law_begun ct__law_begun), sl__law_begun⟩) (c__law_begun : PySem.W.codeIn K cd__law_begun "_law_begun" = true) (k__law_begun : PySem.W.keepIn K (.ref f__law_begun) = true)
    {f__law_next : Addr} {od__law_next an__law_next : Option Addr} {sl__law_next : Array (Option Value)} {oc__law_next kV__law_next dc__law_next pm__law_next cd__law_next ct__law_next : Value}
    (a__law_next : PySem.W.nsIn K mainGlobals "_law_next" = some (some (.ref f__law_next))) (l__law_next : K.lookup f__law_next = some ⟨oc__law_next, od__law_next, .func (PySem.W.fnOf "_law_next" "_law_next" (defArgs s__law_next) (defBody s__law_next) (defScope s__law_next) .none kV__law_next dc__law_next pm__law_next an__law_next cd__law_next ct__law_next), sl__law_next⟩) (c__law_next : PySem.W.codeIn K cd__law_next "_law_next" = true) (k__law_next : PySem.W.keepIn K (.ref f__law_next) = true)
    {f__law_first : Addr} {od__law_first an__law_first : Option Addr} {sl__law_first : Array (Option Value)} {oc__law_first kV__law_first dc__law_first pm__law_first cd__law_first ct__law_first : Value}
    (a__law_first : PySem.W.nsIn K mainGlobals "_law_first" = some (some (.ref f__law_first))) (l__law_first : K.lookup f__law_first = some ⟨oc__law_first, od__law_first, .func (PySem.W.fnOf "_law_first" "_law_first" (defArgs s__law_first) (defBody s__law_first) (defScope s__law_first) .none kV__law_first dc__law_first pm__law_first an__law_first cd__law_first ct__law_first), sl__law_first⟩) (c__law_first : PySem.W.codeIn K cd__law_first "_law_first" = true) (k__law_first : PySem.W.keepIn K (.ref f__law_first) = true)
    {f_law : Addr} {od_law an_law : Option Addr} {sl_law : Array (Option Value)} {oc_law kV_law dc_law pm_law cd_law ct_law : Value}
    (a_law : PySem.W.nsIn K mainGlobals "law" = some (some (.ref f_law))) (l_law : K.lookup f_law = some ⟨oc_law, od_law, .func (PySem.W.fnOf "law" "law" (defArgs s_law) (defBody s_law) (defScope s_law) .none kV_law dc_law pm_law an_law cd_law ct_law), sl_law⟩) (c_law : PySem.W.codeIn K cd_law "law" = true) (k_law : PySem.W.keepIn K (.ref f_law) = true)
    {tk_SIGNS : Tok} (g_SIGNS : PySem.W.nsIn K mainGlobals "SIGNS" = some (some (.str (S lit_SIGNS) tk_SIGNS)))
    {tk_LETTERS : Tok} (g_LETTERS : PySem.W.nsIn K mainGlobals "LETTERS" = some (some (.str (S lit_LETTERS) tk_LETTERS)))
    {tk_MOVES : Tok} (g_MOVES : PySem.W.nsIn K mainGlobals "MOVES" = some (some (.str (S lit_MOVES) tk_MOVES)))
    {tk_THINGS : Tok} (g_THINGS : PySem.W.nsIn K mainGlobals "THINGS" = some (some (.str (S lit_THINGS) tk_THINGS)))
    {tk_WITH_SHELF : Tok} (g_WITH_SHELF : PySem.W.nsIn K mainGlobals "WITH_SHELF" = some (some (.str (S lit_WITH_SHELF) tk_WITH_SHELF)))
    {tk_WITH_COUNT : Tok} (g_WITH_COUNT : PySem.W.nsIn K mainGlobals "WITH_COUNT" = some (some (.str (S lit_WITH_COUNT) tk_WITH_COUNT)))
    {tk_WITHOUT_COUNT : Tok} (g_WITHOUT_COUNT : PySem.W.nsIn K mainGlobals "WITHOUT_COUNT" = some (some (.str (S lit_WITHOUT_COUNT) tk_WITHOUT_COUNT)))
    {tk_WITH_TARGET : Tok} (g_WITH_TARGET : PySem.W.nsIn K mainGlobals "WITH_TARGET" = some (some (.str (S lit_WITH_TARGET) tk_WITH_TARGET)))
    {A_ENDS : Addr} {ep_ENDS : Nat} {t_ENDS_0 u_ENDS_0 : Tok} {t_ENDS_1 u_ENDS_1 : Tok} {t_ENDS_2 u_ENDS_2 : Tok} (g_ENDS : PySem.W.nsIn K mainGlobals "ENDS" = some (some (.ref A_ENDS)))
    (d_ENDS : K.lookup A_ENDS = some { cls := .type "dict", dict := none, data := .dict #[{ hash := PyData.keyHash w.params (S [88]), key := .str (S [88]) t_ENDS_0, val := .str (S [126]) u_ENDS_0 }, { hash := PyData.keyHash w.params (S [84]), key := .str (S [84]) t_ENDS_1, val := .str (S [126]) u_ENDS_1 }, { hash := PyData.keyHash w.params (S [58]), key := .str (S [58]) t_ENDS_2, val := .str (S [10]) u_ENDS_2 }] ep_ENDS, slots := #[] }) (y_ENDS : (A_ENDS == sysModules) = false)
    {C_Reader : Addr} (aC_Reader : PySem.W.nsIn K mainGlobals "Reader" = some (some (.ref C_Reader)))
    (pg_Reader : PySem.W.plainGet K C_Reader Str.empty = true) (hd_Reader : PySem.W.hasDictIn K C_Reader = true) (po_Reader : PySem.W.plainOver K C_Reader = true) (sa_Reader : PySem.W.findIn K (.ref C_Reader) "__setattr__" = some (some (.builtin "object.__setattr__"))) (mk_Reader : PySem.W.makesIn K C_Reader = true) (kc_Reader : PySem.W.keepIn K (.ref C_Reader) = true)
    (n_Reader_row : PySem.W.findIn K (.ref C_Reader) "row" = some none) (n_Reader_at : PySem.W.findIn K (.ref C_Reader) "at" = some none) (n_Reader_stuck : PySem.W.findIn K (.ref C_Reader) "stuck" = some none)
    {f_Reader__init : Addr} {od_Reader__init an_Reader__init : Option Addr} {sl_Reader__init : Array (Option Value)} {oc_Reader__init kV_Reader__init dc_Reader__init pm_Reader__init cd_Reader__init ct_Reader__init : Value} (a_Reader__init : PySem.W.findIn K (.ref C_Reader) "__init__" = some (some (.ref f_Reader__init))) (i_Reader__init : PySem.W.isFn K (.ref f_Reader__init) = true) (l_Reader__init : K.lookup f_Reader__init = some ⟨oc_Reader__init, od_Reader__init, .func (PySem.W.fnOf "__init__" "Reader.__init__" (defArgs s_Reader__init) (defBody s_Reader__init) (defScope s_Reader__init) .none kV_Reader__init dc_Reader__init pm_Reader__init an_Reader__init cd_Reader__init ct_Reader__init), sl_Reader__init⟩) (c_Reader__init : PySem.W.codeIn K cd_Reader__init "Reader.__init__" = true) (k_Reader__init : PySem.W.keepIn K (.ref f_Reader__init) = true)
    {f_Reader__meets : Addr} {od_Reader__meets an_Reader__meets : Option Addr} {sl_Reader__meets : Array (Option Value)} {oc_Reader__meets kV_Reader__meets dc_Reader__meets pm_Reader__meets cd_Reader__meets ct_Reader__meets : Value} (a_Reader__meets : PySem.W.findIn K (.ref C_Reader) "meets" = some (some (.ref f_Reader__meets))) (i_Reader__meets : PySem.W.isFn K (.ref f_Reader__meets) = true) (l_Reader__meets : K.lookup f_Reader__meets = some ⟨oc_Reader__meets, od_Reader__meets, .func (PySem.W.fnOf "meets" "Reader.meets" (defArgs s_Reader__meets) (defBody s_Reader__meets) (defScope s_Reader__meets) .none kV_Reader__meets dc_Reader__meets pm_Reader__meets an_Reader__meets cd_Reader__meets ct_Reader__meets), sl_Reader__meets⟩) (c_Reader__meets : PySem.W.codeIn K cd_Reader__meets "Reader.meets" = true) (k_Reader__meets : PySem.W.keepIn K (.ref f_Reader__meets) = true)
    {f_Reader__take : Addr} {od_Reader__take an_Reader__take : Option Addr} {sl_Reader__take : Array (Option Value)} {oc_Reader__take kV_Reader__take dc_Reader__take pm_Reader__take cd_Reader__take ct_Reader__take : Value} (a_Reader__take : PySem.W.findIn K (.ref C_Reader) "take" = some (some (.ref f_Reader__take))) (i_Reader__take : PySem.W.isFn K (.ref f_Reader__take) = true) (l_Reader__take : K.lookup f_Reader__take = some ⟨oc_Reader__take, od_Reader__take, .func (PySem.W.fnOf "take" "Reader.take" (defArgs s_Reader__take) (defBody s_Reader__take) (defScope s_Reader__take) .none kV_Reader__take dc_Reader__take pm_Reader__take an_Reader__take cd_Reader__take ct_Reader__take), sl_Reader__take⟩) (c_Reader__take : PySem.W.codeIn K cd_Reader__take "Reader.take" = true) (k_Reader__take : PySem.W.keepIn K (.ref f_Reader__take) = true)
    {f_Reader__take_all : Addr} {od_Reader__take_all an_Reader__take_all : Option Addr} {sl_Reader__take_all : Array (Option Value)} {oc_Reader__take_all kV_Reader__take_all dc_Reader__take_all pm_Reader__take_all cd_Reader__take_all ct_Reader__take_all : Value} (a_Reader__take_all : PySem.W.findIn K (.ref C_Reader) "take_all" = some (some (.ref f_Reader__take_all))) (i_Reader__take_all : PySem.W.isFn K (.ref f_Reader__take_all) = true) (l_Reader__take_all : K.lookup f_Reader__take_all = some ⟨oc_Reader__take_all, od_Reader__take_all, .func (PySem.W.fnOf "take_all" "Reader.take_all" (defArgs s_Reader__take_all) (defBody s_Reader__take_all) (defScope s_Reader__take_all) .none kV_Reader__take_all dc_Reader__take_all pm_Reader__take_all an_Reader__take_all cd_Reader__take_all ct_Reader__take_all), sl_Reader__take_all⟩) (c_Reader__take_all : PySem.W.codeIn K cd_Reader__take_all "Reader.take_all" = true) (k_Reader__take_all : PySem.W.keepIn K (.ref f_Reader__take_all) = true)
    (z_len : PySem.W.nsIn K mainGlobals "len" = some none) (z_range : PySem.W.nsIn K mainGlobals "range" = some none) (z_isinstance : PySem.W.nsIn K mainGlobals "isinstance" = some none) (z_int : PySem.W.nsIn K mainGlobals "int" = some none) (z_tuple : PySem.W.nsIn K mainGlobals "tuple" = some none) :
    ∃ fd : FuncData, (∀ (s : Shared) (v : Value), BindsTo s fd ⟨[v], []⟩ [("_law_script", v)]) ∧ ∀ base : Heap, K.In base → base.Ns mainGlobals mg → FnOk l.prog w K mg base CX0 7 fa fd ["_law_script"] (sp_law K) := by
  have e := hfa.symm.trans (PySem.W.mg_of X G a_law)
  cases e
  have F_read_shelf := fun_mk (st := s_read_shelf) l_read_shelf c_read_shelf k_read_shelf
  have b_read_shelf := F_read_shelf.binds (ps := ["reader"]) fun _ _ _ _ _ _ us hl => (by obtain ⟨_, rfl⟩ := len1 hl; rfl)
  have F_read_count := fun_mk (st := s_read_count) l_read_count c_read_count k_read_count
  have b_read_count := F_read_count.binds (ps := ["reader"]) fun _ _ _ _ _ _ us hl => (by obtain ⟨_, rfl⟩ := len1 hl; rfl)
  have F_read_verb := fun_mk (st := s_read_verb) l_read_verb c_read_verb k_read_verb
  have b_read_verb := F_read_verb.binds (ps := ["reader", "shelf", "count"]) fun _ _ _ _ _ _ us hl => (by obtain ⟨_, _, _, rfl⟩ := len3 hl; rfl)
  have F_read_aim := fun_mk (st := s_read_aim) l_read_aim c_read_aim k_read_aim
  have b_read_aim := F_read_aim.binds (ps := ["reader", "wanted"]) fun _ _ _ _ _ _ us hl => (by obtain ⟨_, _, rfl⟩ := len2 hl; rfl)
  have F_read_target := fun_mk (st := s_read_target) l_read_target c_read_target k_read_target
  have b_read_target := F_read_target.binds (ps := ["reader", "verb"]) fun _ _ _ _ _ _ us hl => (by obtain ⟨_, _, rfl⟩ := len2 hl; rfl)
  have F_read_up_to := fun_mk (st := s_read_up_to) l_read_up_to c_read_up_to k_read_up_to
  have b_read_up_to := F_read_up_to.binds (ps := ["reader", "end", "wanted"]) fun _ _ _ _ _ _ us hl => (by obtain ⟨_, _, _, rfl⟩ := len3 hl; rfl)
  have F_read_typed := fun_mk (st := s_read_typed) l_read_typed c_read_typed k_read_typed
  have b_read_typed := F_read_typed.binds (ps := ["reader", "verb"]) fun _ _ _ _ _ _ us hl => (by obtain ⟨_, _, rfl⟩ := len2 hl; rfl)
  have F_read_phrase := fun_mk (st := s_read_phrase) l_read_phrase c_read_phrase k_read_phrase
  have b_read_phrase := F_read_phrase.binds (ps := ["reader"]) fun _ _ _ _ _ _ us hl => (by obtain ⟨_, rfl⟩ := len1 hl; rfl)
  have F_first := fun_mk (st := s_first) l_first c_first k_first
  have b_first := F_first.binds (ps := ["keys"]) fun _ _ _ _ _ _ us hl => (by obtain ⟨_, rfl⟩ := len1 hl; rfl)
  have F__law_sign_by := fun_mk (st := s__law_sign_by) l__law_sign_by c__law_sign_by k__law_sign_by
  have b__law_sign_by := F__law_sign_by.binds (ps := ["_law_cell"]) fun _ _ _ _ _ _ us hl => (by obtain ⟨_, rfl⟩ := len1 hl; rfl)
  have F__law_key_by := fun_mk (st := s__law_key_by) l__law_key_by c__law_key_by k__law_key_by
  have b__law_key_by := F__law_key_by.binds (ps := ["_law_cell"]) fun _ _ _ _ _ _ us hl => (by obtain ⟨_, rfl⟩ := len1 hl; rfl)
  have F__law_opened := fun_mk (st := s__law_opened) l__law_opened c__law_opened k__law_opened
  have b__law_opened := F__law_opened.binds (ps := ["_law_key", "_law_shelf", "_law_count"]) fun _ _ _ _ _ _ us hl => (by obtain ⟨_, _, _, rfl⟩ := len3 hl; rfl)
  have F__law_aimed := fun_mk (st := s__law_aimed) l__law_aimed c__law_aimed k__law_aimed
  have b__law_aimed := F__law_aimed.binds (ps := ["_law_key"]) fun _ _ _ _ _ _ us hl => (by obtain ⟨_, rfl⟩ := len1 hl; rfl)
  have F__law_small := fun_mk (st := s__law_small) l__law_small c__law_small k__law_small
  have b__law_small := F__law_small.binds (ps := ["_law_key"]) fun _ _ _ _ _ _ us hl => (by obtain ⟨_, rfl⟩ := len1 hl; rfl)
  have F__law_one := fun_mk (st := s__law_one) l__law_one c__law_one k__law_one
  have b__law_one := F__law_one.binds (ps := ["_law_verb", "_law_key"]) fun _ _ _ _ _ _ us hl => (by obtain ⟨_, _, rfl⟩ := len2 hl; rfl)
  have F__law_run := fun_mk (st := s__law_run) l__law_run c__law_run k__law_run
  have b__law_run := F__law_run.binds (ps := ["_law_verb", "_law_key"]) fun _ _ _ _ _ _ us hl => (by obtain ⟨_, _, rfl⟩ := len2 hl; rfl)
  have F__law_begun := fun_mk (st := s__law_begun) l__law_begun c__law_begun k__law_begun
  have b__law_begun := F__law_begun.binds (ps := ["_law_told", "_law_key"]) fun _ _ _ _ _ _ us hl => (by obtain ⟨_, _, rfl⟩ := len2 hl; rfl)
  have F__law_next := fun_mk (st := s__law_next) l__law_next c__law_next k__law_next
  have b__law_next := F__law_next.binds (ps := ["_law_told", "_law_key"]) fun _ _ _ _ _ _ us hl => (by obtain ⟨_, _, rfl⟩ := len2 hl; rfl)
  have F__law_first := fun_mk (st := s__law_first) l__law_first c__law_first k__law_first
  have b__law_first := F__law_first.binds (ps := ["_law_keys"]) fun _ _ _ _ _ _ us hl => (by obtain ⟨_, rfl⟩ := len1 hl; rfl)
  have F_law := fun_mk (st := s_law) l_law c_law k_law
  have b_law := F_law.binds (ps := ["_law_script"]) fun _ _ _ _ _ _ us hl => (by obtain ⟨_, rfl⟩ := len1 hl; rfl)
  have F_Reader__init := fun_mk (st := s_Reader__init) l_Reader__init c_Reader__init k_Reader__init
  have b_Reader__init := F_Reader__init.binds (ps := ["self", "row"]) fun _ _ _ _ _ _ us hl => (by obtain ⟨_, _, rfl⟩ := len2 hl; rfl)
  have F_Reader__meets := fun_mk (st := s_Reader__meets) l_Reader__meets c_Reader__meets k_Reader__meets
  have b_Reader__meets := F_Reader__meets.binds (ps := ["self", "wanted"]) fun _ _ _ _ _ _ us hl => (by obtain ⟨_, _, rfl⟩ := len2 hl; rfl)
  have F_Reader__take := fun_mk (st := s_Reader__take) l_Reader__take c_Reader__take k_Reader__take
  have b_Reader__take := F_Reader__take.binds (ps := ["self", "wanted"]) fun _ _ _ _ _ _ us hl => (by obtain ⟨_, _, rfl⟩ := len2 hl; rfl)
  have F_Reader__take_all := fun_mk (st := s_Reader__take_all) l_Reader__take_all c_Reader__take_all k_Reader__take_all
  have b_Reader__take_all := F_Reader__take_all.binds (ps := ["self", "wanted"]) fun _ _ _ _ _ _ us hl => (by obtain ⟨_, _, rfl⟩ := len2 hl; rfl)
  have cl_Reader : Cls K C_Reader := ⟨pg_Reader, hd_Reader, po_Reader, sa_Reader⟩
  have m := fun (x : Str) (z : PySem.W.nsIn K mainGlobals x = some none) => PySem.W.mg_none_of X G z
  have ml := m _ z_len
  have mr := m _ z_range
  refine ⟨PySem.W.fnOf "law" "law" (defArgs s_law) (defBody s_law) (defScope s_law) .none kV_law dc_law pm_law an_law cd_law ct_law, fun s v => .of_eq rfl, fun base _ _ => ?_⟩
  have TR : RdrT K C_Reader := ⟨cl_Reader, n_Reader_row, n_Reader_at, n_Reader_stuck⟩
  have Orm : OwnM l.prog w K mg base CX0 1 C_Reader "meets" ["self", "wanted"] (sp_meets C_Reader) := ⟨_, _, cl_Reader, ⟨a_Reader__meets, i_Reader__meets, k_Reader__meets⟩, ok_meets F_Reader__meets TR ml, b_Reader__meets⟩
  have Ort : OwnM l.prog w K mg base CX0 2 C_Reader "take" ["self", "wanted"] (sp_take C_Reader) := ⟨_, _, cl_Reader, ⟨a_Reader__take, i_Reader__take, k_Reader__take⟩, ok_take F_Reader__take TR Orm, b_Reader__take⟩
  have Ora : OwnM l.prog w K mg base CX0 2 C_Reader "take_all" ["self", "wanted"] (sp_takeall C_Reader) := ⟨_, _, cl_Reader, ⟨a_Reader__take_all, i_Reader__take_all, k_Reader__take_all⟩, ok_takeall F_Reader__take_all TR Orm, b_Reader__take_all⟩
  have Ork : OwnMk l.prog w K mg base CX0 1 C_Reader "Reader" ["self", "row"] (sp_rinit C_Reader) := ⟨_, _, ⟨mk_Reader, a_Reader__init, i_Reader__init, kc_Reader⟩, ok_rinit F_Reader__init TR, b_Reader__init, PySem.W.mg_of X G aC_Reader⟩
  have DE : KDictS K w A_ENDS [([88], t_ENDS_0, [126], u_ENDS_0), ([84], t_ENDS_1, [126], u_ENDS_1), ([58], t_ENDS_2, [10], u_ENDS_2)] := ⟨⟨_, d_ENDS⟩, y_ENDS⟩
  have Ors : Own l.prog w K mg base CX0 3 "read_shelf" ["reader"] (sp_rd C_Reader rdSh) := ⟨_, _, ok_rdsh Orm Ort F_read_shelf (PySem.W.mg_of X G g_LETTERS), b_read_shelf, k_read_shelf, PySem.W.mg_of X G a_read_shelf⟩
  have Orc : Own l.prog w K mg base CX0 3 "read_count" ["reader"] (sp_rdct C_Reader) := ⟨_, _, ok_rdct Orm Ort F_read_count ml (m _ z_int), b_read_count, k_read_count, PySem.W.mg_of X G a_read_count⟩
  have Orv : Own l.prog w K mg base CX0 3 "read_verb" ["reader", "shelf", "count"] (sp_rdvb C_Reader) := ⟨_, _, ok_rdvb Orm Ort F_read_verb (PySem.W.mg_of X G g_MOVES) (PySem.W.mg_of X G g_WITH_SHELF) (PySem.W.mg_of X G g_WITH_COUNT) (PySem.W.mg_of X G g_WITHOUT_COUNT), b_read_verb, k_read_verb, PySem.W.mg_of X G a_read_verb⟩
  have Ori : Own l.prog w K mg base CX0 3 "read_aim" ["reader", "wanted"] (sp_rdaim C_Reader) := ⟨_, _, ok_rdaim Ort F_read_aim (PySem.W.mg_of X G g_SIGNS) (PySem.W.mg_of X G g_LETTERS), b_read_aim, k_read_aim, PySem.W.mg_of X G a_read_aim⟩
  have Org : Own l.prog w K mg base CX0 4 "read_target" ["reader", "verb"] (sp_rdv C_Reader rdTg) := ⟨_, _, ok_rdtg F_read_target Ori (PySem.W.mg_of X G g_MOVES) (PySem.W.mg_of X G g_THINGS) (PySem.W.mg_of X G g_WITH_TARGET), b_read_target, k_read_target, PySem.W.mg_of X G a_read_target⟩
  have Oru : Own l.prog w K mg base CX0 3 "read_up_to" ["reader", "end", "wanted"] (sp_rdup C_Reader) := ⟨_, _, ok_rdup Ort Ora F_read_up_to, b_read_up_to, k_read_up_to, PySem.W.mg_of X G a_read_up_to⟩
  have Ory : Own l.prog w K mg base CX0 4 "read_typed" ["reader", "verb"] (sp_rdv C_Reader rdTy) := ⟨_, _, ok_rdty Ort F_read_typed Oru (PySem.W.mg_of X G g_SIGNS) (PySem.W.mg_of X G g_LETTERS) (PySem.W.mg_of X G g_ENDS) DE, b_read_typed, k_read_typed, PySem.W.mg_of X G a_read_typed⟩
  have Orp : Own l.prog w K mg base CX0 5 "read_phrase" ["reader"] (sp_rdph C_Reader) := ⟨_, _, ok_rdph F_read_phrase Ors Orc Orv Org Ory, b_read_phrase, k_read_phrase, PySem.W.mg_of X G a_read_phrase⟩
  have Ffi := ok_first (P := l.prog) (w := w) (mg := mg) (base := base) F_first TR Ork Orp ml

  have Ofi : Own l.prog w K mg base CX0 6 "first" ["keys"] sp_first := ⟨_, _, Ffi, b_first, k_first, PySem.W.mg_of X G a_first⟩
  have Osg : Own l.prog w K mg base CX0 1 "_law_sign_by" ["_law_cell"] sp_sg44 := ⟨_, _, ok_sg44 F__law_sign_by , b__law_sign_by, k__law_sign_by, PySem.W.mg_of X G a__law_sign_by⟩
  have Oky : Own l.prog w K mg base CX0 2 "_law_key_by" ["_law_cell"] sp_sg44 := ⟨_, _, ok_key44 F__law_key_by Osg, b__law_key_by, k__law_key_by, PySem.W.mg_of X G a__law_key_by⟩
  have Osm : Own l.prog w K mg base CX0 1 "_law_small" ["_law_key"] sp_small := ⟨_, _, ok_small44 F__law_small , b__law_small, k__law_small, PySem.W.mg_of X G a__law_small⟩
  have Oop : Own l.prog w K mg base CX0 1 "_law_opened" ["_law_key", "_law_shelf", "_law_count"] sp_opened := ⟨_, _, ok_opened F__law_opened , b__law_opened, k__law_opened, PySem.W.mg_of X G a__law_opened⟩
  have Oai : Own l.prog w K mg base CX0 1 "_law_aimed" ["_law_key"] sp_aimed := ⟨_, _, ok_aimed F__law_aimed , b__law_aimed, k__law_aimed, PySem.W.mg_of X G a__law_aimed⟩
  have Oon : Own l.prog w K mg base CX0 2 "_law_one" ["_law_verb", "_law_key"] sp_one44 := ⟨_, _, ok_one44 F__law_one Osm (m _ z_int), b__law_one, k__law_one, PySem.W.mg_of X G a__law_one⟩
  have Orr : Own l.prog w K mg base CX0 2 "_law_run" ["_law_verb", "_law_key"] sp_run44 := ⟨_, _, ok_run44 F__law_run (m _ z_int), b__law_run, k__law_run, PySem.W.mg_of X G a__law_run⟩
  have Obe : Own l.prog w K mg base CX0 2 "_law_begun" ["_law_told", "_law_key"] sp_begun := ⟨_, _, ok_begun F__law_begun Osm Oop ml, b__law_begun, k__law_begun, PySem.W.mg_of X G a__law_begun⟩
  have One : Own l.prog w K mg base CX0 3 "_law_next" ["_law_told", "_law_key"] sp_next := ⟨_, _, ok_next F__law_next Osm Obe Oai Oon Orr (m _ z_int), b__law_next, k__law_next, PySem.W.mg_of X G a__law_next⟩
  have Olf : Own l.prog w K mg base CX0 4 "_law_first" ["_law_keys"] sp_lfirst := ⟨_, _, ok_lfirst F__law_first One ml (m _ z_int) mr, b__law_first, k__law_first, PySem.W.mg_of X G a__law_first⟩
  exact ok_law F_law Oky Olf Ofi (m _ z_isinstance) (m _ z_tuple)
theorem walk {l : PySem.W.OpenLaw} {q : Program} {loose : List Str} {XP : (Str → Option Value) → Heap → Prop} {YP : World → Heap → Prop} {d : DefRec} {K : Params → PySem.W.Frag} (hn : l.most = some 63) (hdf : d.params.defaults = [])
    (hY : ∀ (w : World) (h : Heap), YP w h → (K w.params).In h)
    (F : ∀ (w : World) (mg : Str → Option Value) (fa : Addr) (h : Heap), (K w.params).In h → h.Ns mainGlobals mg → mg d.name = some (.ref fa) →
      ∃ fd : FuncData, (∀ (s : Shared) (u : Value), BindsTo s fd ⟨[u], []⟩ [("_law_script", u)]) ∧ ∀ base : Heap, (K w.params).In base → base.Ns mainGlobals mg → FnOk l.prog w (K w.params) mg base CX0 7 fa fd ["_law_script"] (sp_law (K w.params))) :
    PySem.W.WalkO q loose XP YP l.row.toRowW d [] (fun f vs => PySem.call f vs) :=
  L2.walk_of (n := 63) (k := 7) (x := "_law_script") (CX := fun _ => CX0) (sp := fun w => sp_law (K w.params)) hn (by decide) hdf ⟨rfl, by decide, by decide⟩ hY F (fun _ _ a ns hl _ hS => ⟨a, ns, rfl, hS, hl, fun _ => rfl⟩) fun _ _ _ _ _ z => z
end My
open PySem PySem.W PyProof.Rows
def PySem.W.Fast.tw6944720464990501984 : Nat := 0
def PySem.W.Fast.tw7980003841816549728 : Nat := 0
def PySem.W.Fast.tw7921352252577315200 : Nat := 0
def PySem.W.Fast.tw8715008973850720672 : Nat := 0
def PySem.W.Fast.tw6517798001891409376 : Nat := 0
def PySem.W.Fast.tw7236323514357218112 : Nat := 0
def PySem.W.Fast.tw17314493190777112609 : Nat := 0
def PySem.W.Fast.tw9817679365459387649 : Nat := 0
def PySem.W.Fast.tw5187710936702308641 : Nat := 0
def PySem.W.Fast.tw1271083160524296705 : Nat := 0
def PySem.W.Fast.tw13426029293621664321 : Nat := 0
def PySem.W.Fast.tw1544468838669811265 : Nat := 0
def PySem.W.Fast.tw13728238625253464673 : Nat := 0
def PySem.W.Fast.tw13138253267073321665 : Nat := 0
def PySem.W.Fast.tw2006732352694304577 : Nat := 0
def PySem.W.Fast.tw14197813387557195906 : Nat := 0
def PySem.W.Fast.tw17608236980899043618 : Nat := 0
def PySem.W.Fast.tw17731292879674118498 : Nat := 0
def PySem.W.Fast.tw9055166603934986626 : Nat := 0
def PySem.W.Fast.tw511604919590879714 : Nat := 0
def PySem.W.Fast.tw16278345280289709666 : Nat := 0
def PySem.W.Fast.tw14125089332510056418 : Nat := 0
def PySem.W.Fast.tw5772510315630413859 : Nat := 0
def PySem.W.Fast.tw4216650958054518435 : Nat := 0
def PySem.W.Fast.tw12608066834043859811 : Nat := 0
def PySem.W.Fast.tw18278297659261019236 : Nat := 0
def PySem.W.Fast.tw2151063259149548836 : Nat := 0
def PySem.W.Fast.tw17460351379384394084 : Nat := 0
def PySem.W.Fast.tw17310368987211594148 : Nat := 0
def PySem.W.Fast.tw4040906382857028068 : Nat := 0
def PySem.W.Fast.tw10449770149805221412 : Nat := 0
def PySem.W.Fast.tw5675709905995619908 : Nat := 0
def PySem.W.Fast.tw9164591161366443716 : Nat := 0
def PySem.W.Fast.tw5463358435006572388 : Nat := 0
def PySem.W.Fast.tw1846639343532225669 : Nat := 0
def PySem.W.Fast.tw7921058840525235717 : Nat := 0
def PySem.W.Fast.tw874101704632309573 : Nat := 0
def PySem.W.Fast.tw6354304534895313829 : Nat := 0
def PySem.W.Fast.tw7619405989037859174 : Nat := 0
def PySem.W.Fast.tw4768816943752126054 : Nat := 0
def PySem.W.Fast.tw12800156980357614438 : Nat := 0
def PySem.W.Fast.tw15662435033640644486 : Nat := 0
def PySem.W.Fast.tw14271982814046233607 : Nat := 0
def PySem.W.Fast.tw16052959934354888743 : Nat := 0
def PySem.W.Fast.tw11798684777067351303 : Nat := 0
def PySem.W.Fast.tw4594828713094031815 : Nat := 0
def PySem.W.Fast.tw14145105635432661543 : Nat := 0
def PySem.W.Fast.tw10045844252970661384 : Nat := 0
def PySem.W.Fast.tw10230410010083180168 : Nat := 0
def PySem.W.Fast.tw10279862448578706280 : Nat := 0
def PySem.W.Fast.tw6657564305964247976 : Nat := 0
def PySem.W.Fast.tw8777315672092421289 : Nat := 0
def PySem.W.Fast.tw5604164608410139817 : Nat := 0
def PySem.W.Fast.tw1757273451454133833 : Nat := 0
def PySem.W.Fast.tw13468436942219113129 : Nat := 0
def PySem.W.Fast.tw3716363261085933257 : Nat := 0
def PySem.W.Fast.tw366960349511961706 : Nat := 0
def PySem.W.Fast.tw11647503482208220330 : Nat := 0
def PySem.W.Fast.tw14472897561528986922 : Nat := 0
def PySem.W.Fast.tw8328016148223360522 : Nat := 0
def PySem.W.Fast.tw5184071663032856330 : Nat := 0
def PySem.W.Fast.tw2054897568018384682 : Nat := 0
def PySem.W.Fast.tw15737203241589410123 : Nat := 0
def PySem.W.Fast.tw15017587640755104139 : Nat := 0
def PySem.W.Fast.tw1911799798643160459 : Nat := 0
def PySem.W.Fast.tw3827926252781880747 : Nat := 0
def PySem.W.Fast.tw17518142377793747627 : Nat := 0
def PySem.W.Fast.tw6646935711973757803 : Nat := 0
def PySem.W.Fast.tw7064157714117244843 : Nat := 0
def PySem.W.Fast.tw3202895612008228908 : Nat := 0
def PySem.W.Fast.tw9154625300484066540 : Nat := 0
def PySem.W.Fast.tw7987746920867904844 : Nat := 0
def PySem.W.Fast.tw4744104240824773996 : Nat := 0
def PySem.W.Fast.tw11097756465847053708 : Nat := 0
def PySem.W.Fast.tw9612844610725740236 : Nat := 0
def PySem.W.Fast.tw3596877724784576268 : Nat := 0
def PySem.W.Fast.tw4845577917092765484 : Nat := 0
def PySem.W.Fast.tw13680852782855852876 : Nat := 0
def PySem.W.Fast.tw15871609163794674540 : Nat := 0
def PySem.W.Fast.tw17249306211045184460 : Nat := 0
def PySem.W.Fast.tw6587790425457676365 : Nat := 0
def PySem.W.Fast.tw12308350835899897005 : Nat := 0
def PySem.W.Fast.tw4647035689448057902 : Nat := 0
def PySem.W.Fast.tw10487186824089075918 : Nat := 0
def PySem.W.Fast.tw5479966917393143182 : Nat := 0
def PySem.W.Fast.tw7664180998077808078 : Nat := 0
def PySem.W.Fast.tw14867665751424961230 : Nat := 0
def PySem.W.Fast.tw16942018812533753614 : Nat := 0
def PySem.W.Fast.tw1871482405449958318 : Nat := 0
def PySem.W.Fast.tw10505159980717258702 : Nat := 0
def PySem.W.Fast.tw16563054533847562255 : Nat := 0
def PySem.W.Fast.tw16931295782906644495 : Nat := 0
def PySem.W.Fast.tw7796404847556386863 : Nat := 0
def PySem.W.Fast.tw1172456181638197359 : Nat := 0
def PySem.W.Fast.tw8461629799634765967 : Nat := 0
def PySem.W.Fast.tw2659675043467769519 : Nat := 0
def PySem.W.Fast.tw6209641056543511375 : Nat := 0
def PySem.W.Fast.tw143557800290004815 : Nat := 0
def PySem.W.Fast.tw1544722035477705647 : Nat := 0
def PySem.W.Fast.tw13911283546450070992 : Nat := 0
def PySem.W.Fast.tw8983741977957688944 : Nat := 0
def PySem.W.Fast.tw3814174191449698160 : Nat := 0
def PySem.W.Fast.tw6346984222544899952 : Nat := 0
def PySem.W.Fast.tw4897495101346361296 : Nat := 0
def PySem.W.Fast.tw14715966196523238417 : Nat := 0
def PySem.W.Fast.tw18318576810996332689 : Nat := 0
def PySem.W.Fast.tw2213225329266263345 : Nat := 0
def PySem.W.Fast.tw692901509838476625 : Nat := 0
def PySem.W.Fast.tw6076891449964646929 : Nat := 0
def PySem.W.Fast.tw17414578825334371985 : Nat := 0
def PySem.W.Fast.tw13619524984954140369 : Nat := 0
def PySem.W.Fast.tw4256714149893900049 : Nat := 0
def PySem.W.Fast.tw544190044772479953 : Nat := 0
def PySem.W.Fast.tw15750012742144662706 : Nat := 0
def PySem.W.Fast.tw8738972468658817202 : Nat := 0
def PySem.W.Fast.tw17831692052198476978 : Nat := 0
def PySem.W.Fast.tw1971249366689605874 : Nat := 0
def PySem.W.Fast.tw9550231923496129810 : Nat := 0
def PySem.W.Fast.tw2131136295100981586 : Nat := 0
def PySem.W.Fast.tw8737904995586856338 : Nat := 0
def PySem.W.Fast.tw10210082830983903762 : Nat := 0
def PySem.W.Fast.tw7894168742415603250 : Nat := 0
def PySem.W.Fast.tw17182855160370668210 : Nat := 0
def PySem.W.Fast.tw8021124305409900563 : Nat := 0
def PySem.W.Fast.tw9988786342667367763 : Nat := 0
def PySem.W.Fast.tw14193357128483926803 : Nat := 0
def PySem.W.Fast.tw3492235979051735955 : Nat := 0
def PySem.W.Fast.tw9528279403252797395 : Nat := 0
def PySem.W.Fast.tw1871222108891132116 : Nat := 0
def PySem.W.Fast.tw3802164955182392341 : Nat := 0
def PySem.W.Fast.tw8662643562673042453 : Nat := 0
def PySem.W.Fast.tw380332281731285429 : Nat := 0
def PySem.W.Fast.tw5826037484443360725 : Nat := 0
def PySem.W.Fast.tw11078279561548103221 : Nat := 0
def PySem.W.Fast.tw1151875519944371829 : Nat := 0
def PySem.W.Fast.tw12010712364053092981 : Nat := 0
def PySem.W.Fast.tw10957946683298124629 : Nat := 0
def PySem.W.Fast.tw2751937297910099222 : Nat := 0
def PySem.W.Fast.tw10842592178069530134 : Nat := 0
def PySem.W.Fast.tw12569270860690400822 : Nat := 0
def PySem.W.Fast.tw16931831738386658934 : Nat := 0
def PySem.W.Fast.tw11479642687003567766 : Nat := 0
def PySem.W.Fast.tw14034089373345027766 : Nat := 0
def PySem.W.Fast.tw11586755392454526870 : Nat := 0
def PySem.W.Fast.tw6295942714817710103 : Nat := 0
def PySem.W.Fast.tw5415053555351553271 : Nat := 0
def PySem.W.Fast.tw8336166757939649943 : Nat := 0
def PySem.W.Fast.tw6902979405279077847 : Nat := 0
def PySem.W.Fast.tw4433728765479314007 : Nat := 0
def PySem.W.Fast.tw310474271365939831 : Nat := 0
def PySem.W.Fast.tw10568449071001902807 : Nat := 0
def PySem.W.Fast.tw11009686566605949751 : Nat := 0
def PySem.W.Fast.tw15555012263318502648 : Nat := 0
def PySem.W.Fast.tw14347650493148245400 : Nat := 0
def PySem.W.Fast.tw7271993263918238200 : Nat := 0
def PySem.W.Fast.tw3934110467691080408 : Nat := 0
def PySem.W.Fast.tw13296282610172125625 : Nat := 0
def PySem.W.Fast.tw4238202034509662681 : Nat := 0
def PySem.W.Fast.tw13268771377541819993 : Nat := 0
def PySem.W.Fast.tw12126825260427985593 : Nat := 0
def PySem.W.Fast.tw352905870789566265 : Nat := 0
def PySem.W.Fast.tw5063710428815905785 : Nat := 0
def PySem.W.Fast.tw11540183214961244282 : Nat := 0
def PySem.W.Fast.tw4485185620012332282 : Nat := 0
def PySem.W.Fast.tw1873333999862598202 : Nat := 0
def PySem.W.Fast.tw931098577417749242 : Nat := 0
def PySem.W.Fast.tw13676165130995524442 : Nat := 0
def PySem.W.Fast.tw7260685996396612506 : Nat := 0
def PySem.W.Fast.tw17384648319078243290 : Nat := 0
def PySem.W.Fast.tw11562180195670880315 : Nat := 0
def PySem.W.Fast.tw12067818235948845339 : Nat := 0
def PySem.W.Fast.tw17074074267615447419 : Nat := 0
def PySem.W.Fast.tw18198508840911500923 : Nat := 0
def PySem.W.Fast.tw6694132859078303355 : Nat := 0
def PySem.W.Fast.tw4772924095897311388 : Nat := 0
def PySem.W.Fast.tw11249090638134724860 : Nat := 0
def PySem.W.Fast.tw5041946642317679100 : Nat := 0
def PySem.W.Fast.tw7100647957445690940 : Nat := 0
def PySem.W.Fast.tw5455310269388833692 : Nat := 0
def PySem.W.Fast.tw140667808814947389 : Nat := 0
def PySem.W.Fast.tw9385648481751697885 : Nat := 0
def PySem.W.Fast.tw687772016321114653 : Nat := 0
def PySem.W.Fast.tw16881316183303130685 : Nat := 0
def PySem.W.Fast.tw15687258086670761533 : Nat := 0
def PySem.W.Fast.tw10867743330667312861 : Nat := 0
def PySem.W.Fast.tw727606356585689085 : Nat := 0
def PySem.W.Fast.tw8969429828686711870 : Nat := 0
def PySem.W.Fast.tw8216002188930827358 : Nat := 0
def PySem.W.Fast.tw2869167487896645118 : Nat := 0
def PySem.W.Fast.tw1567340018104074942 : Nat := 0
def PySem.W.Fast.tw16561678227758704350 : Nat := 0
def PySem.W.Fast.tw5147324822267723807 : Nat := 0
def PySem.W.Fast.tw10923959055360133503 : Nat := 0
def PySem.W.Fast.tw3371853936506629567 : Nat := 0
def PySem.W.Fast.tw16728687904295044575 : Nat := 0
def PySem.W.Fast.tw17151063113417955903 : Nat := 0
def PySem.W.Fast.tw9575409642561805951 : Nat := 0
def PySem.W.Fast.tw15737715672229464735 : Nat := 0
def PySem.W.Fast.tw9947023440443529055 : Nat := 0
def PySem.W.Fast.tw396884975984678751 : Nat := 0
set_option maxRecDepth 100000 in
set_option maxHeartbeats 0 in
theorem PySem.Challenge.cw_modehand_k44_any_keys_holds : PySem.Challenge.rw_modehand_k44_any_keys.Holds := by
  w_on; o_law; k_head; (case hw => w_witness2)
  k_fill
  refine My.walk (l := PySem.Challenge.rw_modehand_k44_any_keys) rfl rfl (fun w h Y => PySem.W.kIn_of Y) ?F
  case F =>
    intro w mg fa h KX G hmg
    refine' My.all_mk KX G hmg ?a_read_shelf ?l_read_shelf ?c_read_shelf ?k_read_shelf ?a_read_count ?l_read_count ?c_read_count ?k_read_count ?a_read_verb ?l_read_verb ?c_read_verb ?k_read_verb ?a_read_aim ?l_read_aim ?c_read_aim ?k_read_aim ?a_read_target ?l_read_target ?c_read_target ?k_read_target ?a_read_up_to ?l_read_up_to ?c_read_up_to ?k_read_up_to ?a_read_typed ?l_read_typed ?c_read_typed ?k_read_typed ?a_read_phrase ?l_read_phrase ?c_read_phrase ?k_read_phrase ?a_first ?l_first ?c_first ?k_first ?a__law_sign_by ?l__law_sign_by ?c__law_sign_by ?k__law_sign_by ?a__law_key_by ?l__law_key_by ?c__law_key_by ?k__law_key_by ?a__law_opened ?l__law_opened ?c__law_opened ?k__law_opened ?a__law_aimed ?l__law_aimed ?c__law_aimed ?k__law_aimed ?a__law_small ?l__law_small ?c__law_small ?k__law_small ?a__law_one ?l__law_one ?c__law_one ?k__law_one ?a__law_run ?l__law_run ?c__law_run ?k__law_run ?a__law_begun ?l__law_begun ?c__law_begun ?k__law_begun ?a__law_next ?l__law_next ?c__law_next ?k__law_next ?a__law_first ?l__law_first ?c__law_first ?k__law_first ?a_law ?l_law ?c_law ?k_law ?g_SIGNS ?g_LETTERS ?g_MOVES ?g_THINGS ?g_WITH_SHELF ?g_WITH_COUNT ?g_WITHOUT_COUNT ?g_WITH_TARGET ?g_ENDS ?d_ENDS ?y_ENDS ?aC_Reader ?pg_Reader ?hd_Reader ?po_Reader ?sa_Reader ?mk_Reader ?kc_Reader ?n_Reader_row ?n_Reader_at ?n_Reader_stuck ?a_Reader__init ?i_Reader__init ?l_Reader__init ?c_Reader__init ?k_Reader__init ?a_Reader__meets ?i_Reader__meets ?l_Reader__meets ?c_Reader__meets ?k_Reader__meets ?a_Reader__take ?i_Reader__take ?l_Reader__take ?c_Reader__take ?k_Reader__take ?a_Reader__take_all ?i_Reader__take_all ?l_Reader__take_all ?c_Reader__take_all ?k_Reader__take_all ?z_len ?z_range ?z_isinstance ?z_int ?z_tuple
    (case a_read_shelf => k_is); (case l_read_shelf => k_is); (case c_read_shelf => k_is); (case k_read_shelf => k_is)
    (case a_read_count => k_is); (case l_read_count => k_is); (case c_read_count => k_is); (case k_read_count => k_is)
    (case a_read_verb => k_is); (case l_read_verb => k_is); (case c_read_verb => k_is); (case k_read_verb => k_is)
    (case a_read_aim => k_is); (case l_read_aim => k_is); (case c_read_aim => k_is); (case k_read_aim => k_is)
    (case a_read_target => k_is); (case l_read_target => k_is); (case c_read_target => k_is); (case k_read_target => k_is)
    (case a_read_up_to => k_is); (case l_read_up_to => k_is); (case c_read_up_to => k_is); (case k_read_up_to => k_is)
    (case a_read_typed => k_is); (case l_read_typed => k_is); (case c_read_typed => k_is); (case k_read_typed => k_is)
    (case a_read_phrase => k_is); (case l_read_phrase => k_is); (case c_read_phrase => k_is); (case k_read_phrase => k_is)
    (case a_first => k_is); (case l_first => k_is); (case c_first => k_is); (case k_first => k_is)
    (case a__law_sign_by => k_is); (case l__law_sign_by => k_is); (case c__law_sign_by => k_is); (case k__law_sign_by => k_is)
    (case a__law_key_by => k_is); (case l__law_key_by => k_is); (case c__law_key_by => k_is); (case k__law_key_by => k_is)
    (case a__law_opened => k_is); (case l__law_opened => k_is); (case c__law_opened => k_is); (case k__law_opened => k_is)
    (case a__law_aimed => k_is); (case l__law_aimed => k_is); (case c__law_aimed => k_is); (case k__law_aimed => k_is)
    (case a__law_small => k_is); (case l__law_small => k_is); (case c__law_small => k_is); (case k__law_small => k_is)
    (case a__law_one => k_is); (case l__law_one => k_is); (case c__law_one => k_is); (case k__law_one => k_is)
    (case a__law_run => k_is); (case l__law_run => k_is); (case c__law_run => k_is); (case k__law_run => k_is)
    (case a__law_begun => k_is); (case l__law_begun => k_is); (case c__law_begun => k_is); (case k__law_begun => k_is)
    (case a__law_next => k_is); (case l__law_next => k_is); (case c__law_next => k_is); (case k__law_next => k_is)
    (case a__law_first => k_is); (case l__law_first => k_is); (case c__law_first => k_is); (case k__law_first => k_is)
    (case a_law => k_is); (case l_law => k_is); (case c_law => k_is); (case k_law => k_is)
    (case g_SIGNS => k_is); (case g_LETTERS => k_is); (case g_MOVES => k_is); (case g_THINGS => k_is); (case g_WITH_SHELF => k_is); (case g_WITH_COUNT => k_is); (case g_WITHOUT_COUNT => k_is); (case g_WITH_TARGET => k_is); (case g_ENDS => k_is); (case d_ENDS => k_is); (case aC_Reader => k_is); (case pg_Reader => k_is); (case hd_Reader => k_is); (case po_Reader => k_is); (case sa_Reader => k_is); (case mk_Reader => k_is); (case kc_Reader => k_is); (case n_Reader_row => k_is); (case n_Reader_at => k_is); (case n_Reader_stuck => k_is); (case a_Reader__init => k_is); (case i_Reader__init => k_is); (case l_Reader__init => k_is); (case c_Reader__init => k_is); (case k_Reader__init => k_is); (case a_Reader__meets => k_is); (case i_Reader__meets => k_is); (case l_Reader__meets => k_is); (case c_Reader__meets => k_is); (case k_Reader__meets => k_is); (case a_Reader__take => k_is); (case i_Reader__take => k_is); (case l_Reader__take => k_is); (case c_Reader__take => k_is); (case k_Reader__take => k_is); (case a_Reader__take_all => k_is); (case i_Reader__take_all => k_is); (case l_Reader__take_all => k_is); (case c_Reader__take_all => k_is); (case k_Reader__take_all => k_is); (case z_len => k_is); (case z_range => k_is); (case z_isinstance => k_is); (case z_int => k_is); (case z_tuple => k_is)
    (case y_ENDS => rfl)
#print axioms PySem.Challenge.cw_modehand_k44_any_keys_holds

