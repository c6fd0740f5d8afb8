import PyProof.Rows.All
import Wide.All
import OpenK.AllK
import Wide.FinOn
import Lean
import PyProof.EqAt
import PyProof.EqKinds
import PyProof.TupleCall
import PySem.Challenge.RW_modehand_k36_join
-- CHANGE: your row's module here, as the last of these rows
set_option Elab.async false
set_option linter.all false
set_option maxRecDepth 100000
/-! THE HAND LAYER, for ints, bools, texts, own classes, LISTS and tuples (index, slices, in, append, pop ..), calls, loops. Paste it whole ahead of your own text; what your proof does not reach may be deleted. -/
namespace L2
open PySem PySem.Spec PyProof.Rows

abbrev Key := Sum Int Str
def keyIs : Key → Value → Bool
  | .inl k, v => Value.isInt k v
  | .inr x, v => Value.isStrOf x v
def keyH (w : World) : Key → Int
  | .inl k => hashInt k
  | .inr x => hashStr w x
theorem keyIs_shape : ∀ {k : Key} {v : Value}, keyIs k v = true → (∃ i t, k = Sum.inl i ∧ v = Value.int i t) ∨ (∃ x t, k = Sum.inr x ∧ v = Value.str x t)
  | .inl i, v, h => by
    obtain ⟨t, e⟩ := Value.isInt_shape (k := i) (v := v) h
    exact .inl ⟨i, t, rfl, e⟩
  | .inr x, v, h => by
    obtain ⟨t, e⟩ := Value.isStrOf_shape (x := x) (v := v) h
    exact .inr ⟨x, t, rfl, e⟩
theorem key_ll (a b : Int) : decide ((Sum.inl a : Key) = Sum.inl b) = (a == b) := by
  by_cases e : a = b
  · subst e; simp
  · have h : ¬ (Sum.inl a : Key) = Sum.inl b := fun q => e (Sum.inl.inj q)
    rw [decide_eq_false h]
    exact (beq_eq_false_iff_ne.mpr e).symm
theorem key_rr (a b : Str) : decide ((Sum.inr a : Key) = Sum.inr b) = decide (a = b) := by
  by_cases e : a = b
  · subst e; simp
  · have h : ¬ (Sum.inr a : Key) = Sum.inr b := fun q => e (Sum.inr.inj q)
    rw [decide_eq_false h, decide_eq_false e]
theorem key_lr (a : Int) (b : Str) : decide ((Sum.inl a : Key) = Sum.inr b) = false := decide_eq_false (fun q => nomatch q)
theorem key_rl (a : Str) (b : Int) : decide ((Sum.inr a : Key) = Sum.inl b) = false := decide_eq_false (fun q => nomatch q)

def mixKind (prog : Program) (w : World) : PySem.KeyKind prog w Key where
  is := keyIs
  hash := keyH w
  inj := fun v a b ha hb => by
    rcases keyIs_shape ha with ⟨i, t, rfl, rfl⟩ | ⟨x, t, rfl, rfl⟩
    · rcases keyIs_shape hb with ⟨j, u, rfl, e⟩ | ⟨y, u, rfl, e⟩
      · injection e with e1 _; rw [e1]
      · exact nomatch e
    · rcases keyIs_shape hb with ⟨j, u, rfl, e⟩ | ⟨y, u, rfl, e⟩
      · exact nomatch e
      · injection e with e1 _; rw [e1]
  byValue := fun k v h => by
    rcases keyIs_shape h with ⟨i, t, rfl, rfl⟩ | ⟨x, t, rfl, rfl⟩ <;> rfl
  pyHash := fun hv h => by
    rcases keyIs_shape hv with ⟨i, t, rfl, rfl⟩ | ⟨x, t, rfl, rfl⟩
    · exact wpAny_pyHash_int h
    · exact wpAny_pyHash_str h
  eqBool := fun hu hv h => by
    rcases keyIs_shape hu with ⟨i, t, rfl, rfl⟩ | ⟨x, t, rfl, rfl⟩
    · rcases keyIs_shape hv with ⟨j, u, rfl, rfl⟩ | ⟨y, u, rfl, rfl⟩
      · rw [key_ll] at h; exact wpAny_eqBool_int h
      · rw [key_lr] at h; exact SeqAt.EqAt.int_str i t y u _ _ _ _ h
    · rcases keyIs_shape hv with ⟨j, u, rfl, rfl⟩ | ⟨y, u, rfl, rfl⟩
      · rw [key_rl] at h; exact SeqAt.EqAt.str_int x t j u _ _ _ _ h
      · rw [key_rr] at h; exact wpAny_eqBool_str h
  «strs» := fun k x t v h => by
    rcases keyIs_shape h with ⟨i, u, rfl, e⟩ | ⟨y, u, rfl, e⟩
    · exact nomatch e
    · injection e with e1 _
      subst e1
      cases v <;> rfl

end L2

namespace L2
open PySem PySem.Spec PyProof.Rows

inductive V where
  | non | bl (b : Bool) | int (i : Int) | str (x : Str) | byt (b : Array UInt8) | flt (b : UInt64) | ref (a : Addr) | ty (n : String)
  deriving DecidableEq

def RelV : V → Value → Prop
  | .non, u => u = Value.none
  | .bl b, u => u = Value.bool b
  | .int i, u => ∃ t, u = Value.int i t
  | .str x, u => ∃ t, u = Value.str x t
  | .byt b, u => ∃ t, u = Value.bytes b t
  | .flt b, u => ∃ t, u = Value.float b t
  | .ref a, u => u = Value.ref a
  | .ty n, u => u = Value.type n

abbrev Vals : List V → List Value → Prop := Paired RelV
theorem Vals.length {xs : List V} {us : List Value} (r : Vals xs us) : xs.length = us.length := Paired.length r
theorem Vals.get : ∀ {xs : List V} {us : List Value} {i : Nat} {x : V}, Vals xs us → xs[i]? = some x → ∃ u, us[i]? = some u ∧ RelV x u
  | _, _, _, _, .nil, e => by simp at e
  | _, _, 0, _, .cons r _, e => by simp at e; subst e; exact ⟨_, rfl, r⟩
  | _, _, i + 1, x, .cons _ t, e => by
    obtain ⟨u, h1, h2⟩ := Vals.get (i := i) (x := x) t (by simpa using e)
    exact ⟨u, by simpa using h1, h2⟩
theorem Vals.append : ∀ {xs ys : List V} {us ws : List Value}, Vals xs us → Vals ys ws → Vals (xs ++ ys) (us ++ ws)
  | _, _, _, _, .nil, s => s
  | _, _, _, _, .cons r t, s => .cons r (Vals.append t s)
theorem Vals.take : ∀ {xs : List V} {us : List Value} (n : Nat), Vals xs us → Vals (xs.take n) (us.take n)
  | _, _, 0, _ => .nil
  | _, _, _ + 1, .nil => .nil
  | _, _, n + 1, .cons r t => .cons r (Vals.take n t)
theorem Vals.drop : ∀ {xs : List V} {us : List Value} (n : Nat), Vals xs us → Vals (xs.drop n) (us.drop n)
  | _, _, 0, r => r
  | _, _, _ + 1, .nil => .nil
  | _, _, n + 1, .cons _ t => Vals.drop n t
def RelO : Option V → Option Value → Prop
  | some v, some u => RelV v u
  | none, none => True
  | _, _ => False
def KV {κ : Type} : List (κ × V) → List (κ × Value) → Prop := Paired fun (p : κ × V) (q : κ × Value) => p.1 = q.1 ∧ RelV p.2 q.2

def kV : Key → V
  | .inl i => .int i
  | .inr x => .str x

inductive HO where
  /-- a list -/
  | lst (xs : List V)
  /-- a tuple (never changes) -/
  | tup (xs : List V)
  /-- a dict whose keys are ints and texts; one whose keys are tuples of ints and texts (the empty one is both) -/
  | dK (kvs : List (Key × V)) | dT (kvs : List (List Key × V))
  /-- a set of ints: its members, its size -/
  | set (S : Int → Bool) (n : Nat)
  /-- an instance of the class at C, its dict at dx, its attributes -/
  | ins (C dx : Addr) (fs : List (Str × V))
  /-- the dict of the instance at x -/
  | own (x : Addr)
  /-- the dict of an exception -/
  | xd (fs : List (Str × V))
  /-- a bound method, f of x -/
  | met (f x : Addr)
  /-- a range object lo, lo + 1, .. below hi -/
  | rng (lo hi : Int)
  /-- a thing that is known to the object (the script; a dict while a loop walks it): read, never written while it is so -/
  | frz (o : Obj) (u : HO)
  /-- a code object's table -/
  | tbl (ps : Array Value)
  /-- any other thing, by what is true of its one object (a def of one's own: SetO a S n := HO.ext fun h => ..) -/
  | ext (φ : Heap → Prop)

abbrev Hp := Addr → Option HO
def upd (H : Hp) (a : Addr) (o : HO) : Hp := fun b => if b = a then some o else H b
theorem upd_same {H : Hp} {a : Addr} {o : HO} : upd H a o a = some o := by unfold upd; rw [if_pos rfl]
theorem upd_ne {H : Hp} {a b : Addr} {o : HO} (h : b ≠ a) : upd H a o b = H b := by unfold upd; rw [if_neg h]
theorem ne_of {H : Hp} {a b : Addr} {o u : HO} (h : H a = some o) (h' : H b = some u) (d : o ≠ u) : a ≠ b := by
  intro e; subst e; rw [h] at h'; exact d (Option.some.inj h')
theorem ne_of_none {H : Hp} {a b : Addr} {o : HO} (h : H a = some o) (h' : H b = none) : a ≠ b := by
  intro e; subst e; rw [h] at h'; cases h'

section
variable (P : Program) (w : World)
def ObjOk (H : Hp) (h : Heap) (a : Addr) : HO → Prop
  | .lst xs => xs.length ≤ sizeLine ∧ ∃ (its : List Value) (n : Nat), Vals xs its ∧ h.get? a = some { cls := .type "list", data := .seq its.toArray n }
  | .tup xs => xs.length ≤ sizeLine ∧ ∃ its : List Value, Vals xs its ∧ IsTup h a its.toArray
  | .dK kvs => kvs.length ≤ sizeLine ∧ (a == sysModules) = false ∧ ∃ vs, KV kvs vs ∧ h.DictOf (mixKind P w) a vs
  | .dT kvs => kvs.length ≤ sizeLine ∧ (a == sysModules) = false ∧ ∃ xs : List (List Key × Addr × Value),
      Paired (fun (p : List Key × V) (q : List Key × Addr × Value) => p.1 = q.1 ∧ H q.2.1 = some (.tup (p.1.map kV)) ∧ RelV p.2 q.2.2) kvs xs ∧
      ∃ o es ep, h.get? a = some o ∧ o.ExactDict ∧ o.data = .dict es ep ∧ es.toList = xs.map (entryOfKey (tupleKind (mixKind P w))) ∧ (xs.map (·.1)).Nodup
  | .set S n => h.SetOf (intKind P w) a S n
  | .ins C dx fs => H dx = some (.own a) ∧ fs.length ≤ 1000 ∧ dx ≠ a ∧ h.get? a = some (PySem.W.instObj C dx) ∧
      ∃ mA, h.Ns1 dx mA ∧ (∀ f, RelO (fs.lookup f) (mA f)) ∧ PySem.Within mA (fs.map (·.1))
  | .own _ => ∃ o, h.get? a = some o
  | .xd fs => ∃ mA, h.Ns1 a mA ∧ ∀ f, RelO (fs.lookup f) (mA f)
  | .rng lo hi => ∃ t u v, h.get? a = some { cls := .type "range", data := .fields #[.int lo t, .int hi u, .int 1 v] }
  | .frz o u => h.get? a = some o ∧ ObjOk H h a u
  | .tbl ps => h.get? a = some { cls := .none, data := .fields ps }
  | .met f x => h.get? a = some (PySem.W.methodObj (.ref f) (.ref x))
  | .ext φ => φ h ∧ (∃ o, h.get? a = some o) ∧ ∀ h1 h2 : Heap, φ h1 → (∀ o, h1.get? a = some o → h2.get? a = some o) → φ h2
def HOk (H : Hp) (h : Heap) : Prop := ∀ a o, H a = some o → ObjOk P w H h a o
end

section
variable {P : Program} {w : World} {H H' : Hp} {h h' : Heap} {a : Addr} {o : HO}
theorem ObjOk.lt (x : ObjOk P w H h a o) : a < h.objs.size := by
  cases o with
  | lst xs => obtain ⟨_, _, _, _, e⟩ := x; exact Heap.lt_size e
  | tup xs => obtain ⟨_, _, _, p⟩ := x; exact p.lt
  | dK kvs => obtain ⟨_, _, _, _, o, _, _, e, _⟩ := x; exact Heap.lt_size e
  | dT kvs => obtain ⟨_, _, _, _, o, _, _, e, _⟩ := x; exact Heap.lt_size e
  | set S n => obtain ⟨o, _, _, _, e, _⟩ := x; exact Heap.lt_size e
  | ins C dx fs => obtain ⟨_, _, _, e, _⟩ := x; exact Heap.lt_size e
  | own y => obtain ⟨_, e⟩ := x; exact Heap.lt_size e
  | xd fs => obtain ⟨_, ⟨_, _, _, e, _⟩, _⟩ := x; exact Heap.lt_size e
  | rng lo hi => obtain ⟨_, _, _, e⟩ := x; exact Heap.lt_size e
  | frz ob u => obtain ⟨e, _⟩ := x; exact Heap.lt_size e
  | tbl ps => exact Heap.lt_size (show h.get? a = some _ from x)
  | met f y => exact Heap.lt_size (show h.get? a = some _ from x)
  | ext φ => obtain ⟨_, ⟨_, e⟩, _⟩ := x; exact Heap.lt_size e
theorem Paired.mapP {α β : Type} {F G : α → β → Prop} : ∀ {l₁ : List α} {l₂ : List β}, Paired F l₁ l₂ → (∀ a b, F a b → G a b) → Paired G l₁ l₂
  | _, _, .nil, _ => .nil
  | _, _, .cons r t, f => .cons (f _ _ r) (Paired.mapP t f)
theorem ObjOk.stay (x : ObjOk P w H h a o) (k : ∀ b u, (b = a ∨ H b = some (.own a)) → h.get? b = some u → h'.get? b = some u)
    (ho : ∀ b, H b = some (.own a) → H' b = some (.own a)) (ht : ∀ b xs, H b = some (.tup xs) → H' b = some (.tup xs)) : ObjOk P w H' h' a o := by
  induction o with
  | lst xs => obtain ⟨z, its, n, r, e⟩ := x; exact ⟨z, its, n, r, k _ _ (.inl rfl) e⟩
  | tup xs => obtain ⟨z, its, r, ob, e, c⟩ := x; exact ⟨z, its, r, ob, k _ _ (.inl rfl) e, c⟩
  | dK kvs => obtain ⟨z, y, vs, r, ob, es, ep, e, c⟩ := x; exact ⟨z, y, vs, r, ob, es, ep, k _ _ (.inl rfl) e, c⟩
  | dT kvs =>
    obtain ⟨z, y, xs, r, ob, es, ep, e, c⟩ := x
    exact ⟨z, y, xs, Paired.mapP r fun p q z => ⟨z.1, ht _ _ z.2.1, z.2.2⟩, ob, es, ep, k _ _ (.inl rfl) e, c⟩
  | set S n => obtain ⟨ob, es, ep, t, e, c⟩ := x; exact ⟨ob, es, ep, t, k _ _ (.inl rfl) e, c⟩
  | ins C dx fs =>
    obtain ⟨d, z, ne, e, mA, ⟨od, es, ep, e2, c⟩, r⟩ := x
    exact ⟨ho _ d, z, ne, k _ _ (.inl rfl) e, mA, ⟨od, es, ep, k _ _ (.inr d) e2, c⟩, r⟩
  | own y => obtain ⟨ob, e⟩ := x; exact ⟨ob, k _ _ (.inl rfl) e⟩
  | xd fs => obtain ⟨mA, ⟨od, es, ep, e, c⟩, r⟩ := x; exact ⟨mA, ⟨od, es, ep, k _ _ (.inl rfl) e, c⟩, r⟩
  | rng lo hi => obtain ⟨t, u, v, e⟩ := x; exact ⟨t, u, v, k _ _ (.inl rfl) e⟩
  | frz ob u ih => obtain ⟨e, q⟩ := x; exact ⟨k _ _ (.inl rfl) e, ih q⟩
  | tbl ps =>
    have e : h.get? a = some { cls := .none, data := .fields ps } := x
    show h'.get? a = some { cls := .none, data := .fields ps }
    exact k a _ (.inl rfl) e
  | met f y =>
    have e : h.get? a = some (PySem.W.methodObj (.ref f) (.ref y)) := x
    show h'.get? a = some (PySem.W.methodObj (.ref f) (.ref y))
    exact k a _ (.inl rfl) e
  | ext φ => obtain ⟨p, ⟨o, e⟩, st⟩ := x; exact ⟨st _ _ p fun o q => k _ _ (.inl rfl) q, ⟨o, k _ _ (.inl rfl) e⟩, st⟩
theorem HOk.lt (x : HOk P w H h) (e : H a = some o) : a < h.objs.size := (x a o e).lt
theorem HOk.fresh (x : HOk P w H h) (e : h.objs.size ≤ a) : H a = none := by
  cases q : H a with
  | none => rfl
  | some u => exact absurd (Nat.lt_of_lt_of_le (x.lt q) e) (Nat.lt_irrefl _)
theorem HOk.kept (x : HOk P w H h) (k : ∀ b u, h.get? b = some u → h'.get? b = some u) : HOk P w H h' := fun a o e =>
  (x a o e).stay (fun b u _ q => k b u q) (fun _ q => q) fun _ _ q => q
theorem HOk.laid (x : HOk P w H h) (k : ∀ b u, h.get? b = some u → h'.get? b = some u) (hp : h.objs.size ≤ a) (new : ObjOk P w (upd H a o) h' a o) : HOk P w (upd H a o) h' := fun b u e => by
  have hn := x.fresh hp
  by_cases hb : b = a
  · subst hb; rw [upd_same] at e; cases e; exact new
  · rw [upd_ne hb] at e
    exact (x b u e).stay (fun c v _ q => k c v q) (fun c q => by rw [upd_ne (ne_of_none q hn)]; exact q) fun c xs q => by rw [upd_ne (ne_of_none q hn)]; exact q
end

def Rd (H : Hp) (a : Addr) (u : HO) : Prop := H a = some u ∨ ∃ o, H a = some (.frz o u)
theorem Rd.ok {P : Program} {w : World} {H : Hp} {h : Heap} {a : Addr} {u : HO} (r : Rd H a u) (x : HOk P w H h) : ObjOk P w H h a u := by
  rcases r with r | ⟨o, r⟩
  · exact x a u r
  · obtain ⟨_, q⟩ := x a _ r
    exact q
def Mut : Option HO → Prop
  | some (.lst _) => True
  | some (.dK _) => True
  | some (.dT _) => True
  | some (.set _ _) => True
  | some (.ins _ _ _) => True
  | some (.ext _) => True
  | _ => False
section
variable {P : Program} {w : World} {H : Hp} {h h' : Heap} {x e : Addr} {o' : HO}
theorem HOk.write (ok : HOk P w H h) (mu : Mut (H x)) (he : e = x ∨ H e = some (.own x)) (k : ∀ b u, b ≠ e → h.get? b = some u → h'.get? b = some u) (heo : ∃ u, h'.get? e = some u)
    (new : ObjOk P w (upd H x o') h' x o') : HOk P w (upd H x o') h' := fun b u q => by
  have nown : ∀ c y, H c = some (.own y) → c ≠ x := fun c y r z => by subst z; rw [r] at mu; exact mu
  have ntup : ∀ c xs, H c = some (.tup xs) → c ≠ x := fun c xs r z => by subst z; rw [r] at mu; exact mu
  by_cases hb : b = x
  · subst hb; rw [upd_same] at q; cases q; exact new
  · rw [upd_ne hb] at q
    by_cases hbe : b = e
    · have q' : H b = some (.own x) := by
        rcases he with z | z
        · exact absurd (hbe.trans z) hb
        · rw [hbe]; exact z
      rw [q] at q'; cases q'
      obtain ⟨v, hv⟩ := heo
      exact ⟨v, by rw [hbe]; exact hv⟩
    · refine (ok b u q).stay (fun c v hc r => k c v ?_ r) (fun c r => by rw [upd_ne (nown c b r)]; exact r) fun c xs r => by rw [upd_ne (ntup c xs r)]; exact r
      rcases hc with rfl | hc
      · exact hbe
      · rintro rfl
        rcases he with z | z
        · exact nown c b hc z
        · rw [hc] at z; cases z; exact hb rfl
end

/-! ### kept unless tracked; of the frames at fs (the callers') the slots may change (an exception that passes writes there); of the records at ex (iterators) nothing is said -/
structure Un (fs ex : List Addr) (H H' : Hp) (h h' : Heap) : Prop where
  keep : ∀ b o, h.get? b = some o → H b = none → b ∉ fs → b ∉ ex → h'.get? b = some o
  slot : ∀ b o, h.get? b = some o → H b = none → b ∈ fs → b ∉ ex → ∃ sl, h'.get? b = some { o with slots := sl }
  free : ∀ b o, h.get? b = some o → H b = none → b ∉ ex → H' b = none
  there : ∀ b o, h.get? b = some o → b ∉ ex → ∃ o', h'.get? b = some o'
  tups : ∀ b xs, H b = some (.tup xs) → H' b = some (.tup xs)
  frzs : ∀ b o u, H b = some (.frz o u) → H' b = some (.frz o u)
  tbls : ∀ b ps, H b = some (.tbl ps) → ∃ more, H' b = some (.tbl (ps ++ more))
section
variable {fs fs' ex ex' : List Addr} {H H1 H2 : Hp} {h h1 h2 h' : Heap} {a x e : Addr} {o : HO}
theorem Un.any (u : Un fs ex H H1 h h1) {b : Addr} {ob : Obj} (q : h.get? b = some ob) (n : H b = none) (hx : b ∉ ex) : ∃ sl, h1.get? b = some { ob with slots := sl } := by
  by_cases hb : b ∈ fs
  · exact u.slot b ob q n hb hx
  · exact ⟨ob.slots, u.keep b ob q n hb hx⟩
theorem Un.kept (k : ∀ b u, h.get? b = some u → h'.get? b = some u) : Un fs ex H H h h' :=
  ⟨fun b ob q _ _ _ => k b ob q, fun b ob q _ _ _ => ⟨ob.slots, k b ob q⟩, fun _ _ _ n _ => n, fun b ob q _ => ⟨ob, k b ob q⟩, fun _ _ q => q, fun _ _ _ q => q, fun _ ps q => ⟨#[], by rw [q]; simp⟩⟩
theorem Un.refl : Un fs ex H H h h := Un.kept fun _ _ q => q
theorem Un.laid (k : ∀ b u, h.get? b = some u → h'.get? b = some u) (hp : h.objs.size ≤ a) (hn : H a = none) : Un fs ex H (upd H a o) h h' where
  keep := fun b u q _ _ _ => k b u q
  slot := fun b u q _ _ _ => ⟨u.slots, k b u q⟩
  free := fun b u q n _ => by rw [upd_ne (Nat.ne_of_lt (Nat.lt_of_lt_of_le (Heap.lt_size q) hp))]; exact n
  there := fun b u q _ => ⟨u, k b u q⟩
  tups := fun b xs q => by rw [upd_ne (ne_of_none q hn)]; exact q
  frzs := fun b u xs q => by rw [upd_ne (ne_of_none q hn)]; exact q
  tbls := fun b ps q => ⟨#[], by rw [upd_ne (ne_of_none q hn), q]; simp⟩
theorem Un.write (mu : Mut (H x)) (he : e = x ∨ H e = some (.own x)) (k : ∀ b u, b ≠ e → h.get? b = some u → h'.get? b = some u) (heo : ∃ u, h'.get? e = some u) : Un fs ex H (upd H x o) h h' := by
  have hx : ∀ b, H b = none → b ≠ x := fun b n z => by subst z; rw [n] at mu; exact mu
  have hb : ∀ b, H b = none → b ≠ e := fun b n z => by
    subst z
    rcases he with r | r
    · exact hx b n r
    · rw [n] at r; cases r
  have hm : ∀ b u, H b = some u → ¬ Mut (some u) → b ≠ x := fun b u q nm z => by subst z; rw [q] at mu; exact nm mu
  refine ⟨fun b u q n _ _ => k b u (hb b n) q, fun b u q n _ _ => ⟨u.slots, k b u (hb b n) q⟩, fun b u q n _ => by rw [upd_ne (hx b n)]; exact n, fun b u q _ => ?_,
    fun b xs q => by rw [upd_ne (hm b _ q fun z => z)]; exact q, fun b u xs q => by rw [upd_ne (hm b _ q fun z => z)]; exact q, fun b ps q => ⟨#[], by rw [upd_ne (hm b _ q fun z => z), q]; simp⟩⟩
  by_cases hbe : b = e
  · subst hbe; exact heo
  · exact ⟨u, k b u hbe q⟩
end

/-! ### the heap without what is tracked -/
def trk (h : Heap) (H : Hp) : List Addr := (List.range h.objs.size).filter fun a => (H a).isSome
def hidT (h : Heap) (H : Hp) : Heap := PySem.W.hideAll h (trk h H)
theorem hidT_size (h : Heap) (H : Hp) : (hidT h H).objs.size = h.objs.size := PySem.W.hideAll_size _ _
theorem hidT_get {h : Heap} {H : Hp} {b : Addr} {o : Obj} (e : h.get? b = some o) (n : H b = none) : (hidT h H).get? b = some o :=
  PySem.W.hideAll_get _ e fun hm => by
    have q : (H b).isSome = true := (List.mem_filter.mp hm).2
    rw [n] at q; simp at q
theorem of_hidT {h : Heap} {H : Hp} {b : Addr} {o : Obj} (e : (hidT h H).get? b = some o) : h.get? b = some o ∧ H b = none := by
  have e' : h.get? b = some o := PySem.W.of_hideAll (trk h H) e
  refine ⟨e', ?_⟩
  cases q : H b with
  | none => rfl
  | some x =>
    have hm : b ∈ trk h H := List.mem_filter.mpr ⟨List.mem_range.mpr (Heap.lt_size e'), by simp [q]⟩
    have z : (hidT h H).get? b = none := PySem.W.hideAll_none (trk h H) hm
    rw [z] at e; cases e

/-! ### OpenK's ledger, filled with every new object but one -/
end L2

namespace L2
open PySem PySem.Spec PyProof.Rows

structure Mod (K : PySem.W.Frag) (mg : Str → Option Value) (base : Heap) : Prop where
  kin : K.In base
  glob : base.Ns mainGlobals mg
  blt : ∃ mb, base.Ns builtinsNs mb ∧ ∀ x : Str, x ≠ "__name__" → mb x = bootBuiltins x
  nolimit : base.NoLimit

structure Cx where
  prog : Program
  w : World
  K : PySem.W.Frag
  mg : Str → Option Value
  base : Heap
  A : Around
  N : List Str
  s₀ : Shared
  H₀ : Hp
  env : Env
  outer : List Env
  stack : List Env
  ex : List Addr
  fn : Str → Bool
  calm : Bool
  pn : List (Addr × Obj)
  xe : Value → Shared → Prop
def frs (l : List Env) : List Addr := l.filterMap (·.frame)
abbrev Cx.fs (X : Cx) : List Addr := frs X.outer

def Vis (sc : Scope) (x : Str) : Prop := sc.names.lookup x = some .local ∨ sc.names.lookup x = some .cell ∨ sc.names.lookup x = some .free
def Loc (sc : Scope) (x : Str) : Prop := sc.names.lookup x = some .local ∨ sc.names.lookup x = some .cell
def Look (env : Env) (h : Heap) (m : Str → Option Value) (x : Str) (u : Value) : Prop :=
  (env.kindOf x = some .local ∧ m x = some u) ∨ ((env.kindOf x = some .cell ∨ env.kindOf x = some .free) ∧ ∃ c, env.cells.lookup x = some c ∧ h.IsCell c (some u))

structure Cx.Ok (X : Cx) : Prop where
  mod : Mod X.K X.mg X.base
  kind : X.env.scope.kind = .function
  glob : X.env.globals = mainGlobals
  blt : X.env.builtins = builtinsNs
  above : X.s₀.heap.objs.size ≤ X.env.locals
  inj : ∀ x y c, X.env.cells.lookup x = some c → X.env.cells.lookup y = some c → x = y
  has : ∀ x, (X.env.kindOf x = some .cell ∨ X.env.kindOf x = some .free) → ∃ c, X.env.cells.lookup x = some c
  cab : ∀ x c, X.fn x = true → X.env.cells.lookup x = some c → X.s₀.heap.objs.size ≤ c
  hd : X.calm = true → X.A.handled = none
  frames : X.A.frames = some X.stack
  stk : X.stack = X.outer ∨ (X.stack = X.env :: X.outer ∧ X.env.frame = some X.env.locals)
  exf : ∀ b ∈ X.ex, b ≠ X.env.locals ∧ ∀ x c, X.env.cells.lookup x = some c → c ≠ b
  bs : ∀ b o, X.base.get? b = some o → X.s₀.heap.get? b = some o ∧ X.H₀ b = none
  bsz : X.base.objs.size ≤ X.s₀.heap.objs.size
  noex : ∀ b o, X.base.get? b = some o → b ∉ X.ex
  exfs : ∀ b ∈ X.ex, b ∉ X.fs
  funs : X.s₀.heap.FunFrames X.base X.outer
  frf : ∀ b ∈ X.fs, X.H₀ b = none

structure Inv (X : Cx) (pins : List (Addr × Obj)) (σ : List (Option V)) (H : Hp) (s : Shared) : Prop where
  ok : X.Ok
  os : s.os = X.s₀.os
  bare : AllBare s.gens
  base : Un X.fs X.ex X.H₀ H X.s₀.heap s.heap
  loc : ∃ m, s.heap.Ns X.env.locals m ∧ ∀ (i : Nat) (x : Str) (v : V), X.N[i]? = some x → σ[i]? = some (some v) → Vis X.env.scope x → ∃ u, RelV v u ∧ Look X.env s.heap m x u
  cell : ∀ x c, X.env.cells.lookup x = some c → ∃ v, s.heap.IsCell c v
  free : H X.env.locals = none
  freeC : ∀ x c, X.env.cells.lookup x = some c → H c = none
  pin : ∀ p ∈ X.pn ++ pins, s.heap.get? p.1 = some p.2 ∧ H p.1 = none ∧ p.1 ≠ X.env.locals ∧ p.1 ∉ X.fs ∧ ∀ v, p.2.data ≠ .cell v
  hok : HOk X.prog X.w H s.heap
  len : σ.length = X.N.length

section
variable {X : Cx} {pins : List (Addr × Obj)} {σ : List (Option V)} {H H' : Hp} {s : Shared} {h' : Heap}

theorem Cx.Ok.nofr (ok : X.Ok) {b : Addr} {o : Obj} (e : X.base.get? b = some o) : b ∉ X.fs := fun hb => by
  have := (ok.funs.mem hb).1
  rw [e] at this; cases this
theorem Inv.bs (I : Inv X pins σ H s) : ∀ b o, X.base.get? b = some o → s.heap.get? b = some o ∧ H b = none := fun b o e =>
  ⟨I.base.keep b o (I.ok.bs b o e).1 (I.ok.bs b o e).2 (I.ok.nofr e) (I.ok.noex b o e), I.base.free b o (I.ok.bs b o e).1 (I.ok.bs b o e).2 (I.ok.noex b o e)⟩
theorem Inv.bk (I : Inv X pins σ H s) : ∀ b o, X.base.get? b = some o → s.heap.get? b = some o := fun b o e => (I.bs b o e).1
theorem Inv.mod (I : Inv X pins σ H s) : Mod X.K X.mg X.base := I.ok.mod
theorem Inv.kIn (I : Inv X pins σ H s) : X.K.In s.heap := I.ok.mod.kin.keeps I.bk
theorem Inv.nolimit (I : Inv X pins σ H s) : s.heap.NoLimit := I.ok.mod.nolimit.keeps I.bk
theorem Inv.lt (I : Inv X pins σ H s) : X.env.locals < s.heap.objs.size := let ⟨_, hn, _⟩ := I.loc; hn.lt
theorem Inv.sz (I : Inv X pins σ H s) : X.s₀.heap.objs.size ≤ s.heap.objs.size := Nat.le_trans I.ok.above (Nat.le_of_lt I.lt)
theorem Inv.nofs (I : Inv X pins σ H s) {a : Addr} (h : s.heap.objs.size ≤ a) : a ∉ X.fs := fun hb => by
  obtain ⟨_, o, ho, _⟩ := I.ok.funs.mem hb
  exact absurd (Nat.lt_of_lt_of_le (Heap.lt_size ho) (Nat.le_trans I.sz h)) (Nat.lt_irrefl _)
theorem Inv.cne (I : Inv X pins σ H s) : ∀ x c, X.env.cells.lookup x = some c → c ≠ X.env.locals := fun x c e z => by
  obtain ⟨v, o, ho, hd⟩ := I.cell x c e
  obtain ⟨m, ⟨o', es, ep, ho', hd', _⟩, _⟩ := I.loc
  rw [z, ho'] at ho; cases ho; rw [hd'] at hd; cases hd
theorem Inv.funs (I : Inv X pins σ H s) : s.heap.FunFrames X.base X.outer := by
  have all : ∀ (l : List Env), (∀ b ∈ frs l, b ∈ X.fs) → X.s₀.heap.FunFrames X.base l → s.heap.FunFrames X.base l := by
    intro l
    induction l with
    | nil => intro _ _; trivial
    | cons env r ih =>
      intro hs hl
      obtain ⟨hk, ⟨L, o, hf, hn, ho, hd⟩, hr⟩ := hl
      have hL : L ∈ X.fs := hs L (by unfold frs; rw [List.filterMap_cons, hf]; exact List.mem_cons_self)
      obtain ⟨sl, e⟩ := I.base.slot L o ho (I.ok.frf L hL) hL fun z => I.ok.exfs L z hL
      exact ⟨hk, ⟨L, _, hf, hn, e, hd⟩, ih (fun b hb => hs b (by unfold frs; rw [List.filterMap_cons, hf]; exact List.mem_cons_of_mem _ hb)) hr⟩
  exact all X.outer (fun _ hb => hb) I.ok.funs

theorem Inv.stack (I : Inv X pins σ H s) : s.heap.FunFrames X.base X.stack := by
  rcases I.ok.stk with e | ⟨e, hf⟩
  · rw [e]; exact I.funs
  · rw [e]
    obtain ⟨m, hn, _⟩ := I.loc
    refine .cons (by rw [I.ok.kind]; decide) hf hn ?_ I.funs
    exact Heap.get?_none_of_le (Nat.le_trans I.ok.bsz I.ok.above)
theorem Inv.stkSub (I : Inv X pins σ H s) : ∀ b ∈ frs X.stack, b ∈ X.env.locals :: X.fs := fun b hb => by
  rcases I.ok.stk with e | ⟨e, hf⟩
  · rw [e] at hb; exact List.mem_cons_of_mem _ hb
  · rw [e] at hb
    unfold frs at hb
    rw [List.filterMap_cons, hf] at hb
    exact hb
theorem Inv.stkFree (I : Inv X pins σ H s) : ∀ b ∈ frs X.stack, H b = none := fun b hb => by
  rcases List.mem_cons.mp (I.stkSub b hb) with e | hb
  · rw [e]; exact I.free
  · obtain ⟨_, o, ho, _⟩ := I.ok.funs.mem hb
    exact I.base.free b o ho (I.ok.frf b hb) fun z => I.ok.exfs b z hb

theorem Inv.step {g' : Array GenState} {t' : Nat} {d' : Drawn} {ch : List Addr} (I : Inv X pins σ H s)
    (hch : ∀ b ∈ ch, (b ∈ X.ex ∨ X.s₀.heap.objs.size ≤ b) ∧ b ≠ X.env.locals ∧ (∀ x c, X.env.cells.lookup x = some c → c ≠ b) ∧ ∀ p ∈ X.pn ++ pins, p.1 ≠ b)
    (keep : ∀ b o, b ≠ X.env.locals → b ∉ X.fs → b ∉ ch → s.heap.get? b = some o → H b = none → h'.get? b = some o)
    (slot : ∀ b o, b ≠ X.env.locals → b ∈ X.fs → b ∉ ch → s.heap.get? b = some o → H b = none → ∃ sl, h'.get? b = some { o with slots := sl }) (free : ∀ b o, b ∉ ch → s.heap.get? b = some o → H b = none → H' b = none)
    (there : ∀ b o, b ∉ ch → s.heap.get? b = some o → ∃ o', h'.get? b = some o')
    (tups : ∀ b xs, H b = some (.tup xs) → H' b = some (.tup xs)) (frzs : ∀ b o u, H b = some (.frz o u) → H' b = some (.frz o u)) (tbls : ∀ b ps, H b = some (.tbl ps) → ∃ more, H' b = some (.tbl (ps ++ more)))
    (ns : ∀ m, s.heap.Ns X.env.locals m → h'.Ns X.env.locals m) (hok : HOk X.prog X.w H' h') (hg : AllBare g') :
    Inv X pins σ H' { s with heap := h', gens := g', drawn := d', toks := t' } := by
  have neL : ∀ b o, X.s₀.heap.get? b = some o → b ≠ X.env.locals := fun b o e => Nat.ne_of_lt (Nat.lt_of_lt_of_le (Heap.lt_size e) I.ok.above)
  have neC : ∀ b o, X.s₀.heap.get? b = some o → b ∉ X.ex → b ∉ ch := fun b o e hx hb => by
    rcases (hch b hb).1 with z | z
    · exact hx z
    · exact absurd (Nat.lt_of_lt_of_le (Heap.lt_size e) z) (Nat.lt_irrefl _)
  have cellK : ∀ x c, X.env.cells.lookup x = some c → ∀ v, s.heap.IsCell c v → h'.IsCell c v := fun x c e v ⟨o, ho, hd⟩ => by
    have nch : c ∉ ch := fun z => (hch c z).2.2.1 x c e rfl
    by_cases hc : c ∈ X.fs
    · obtain ⟨sl, q⟩ := slot c o (I.cne x c e) hc nch ho (I.freeC x c e)
      exact ⟨_, q, hd⟩
    · exact ⟨o, keep c o (I.cne x c e) hc nch ho (I.freeC x c e), hd⟩
  refine ⟨I.ok, I.os, hg, ⟨fun b o e n hb hx => ?_, fun b o e n hb hx => ?_, fun b o e n hx => ?_, fun b o e hx => ?_, fun b xs e => tups b xs (I.base.tups b xs e), fun b o xs e => frzs b o xs (I.base.frzs b o xs e), fun b ps e => ?_⟩, ?_, fun x c e => ?_, ?_, fun x c e => ?_, fun p hp => ?_, hok, I.len⟩
  · exact keep b o (neL b o e) hb (neC b o e hx) (I.base.keep b o e n hb hx) (I.base.free b o e n hx)
  · obtain ⟨sl, e1⟩ := I.base.slot b o e n hb hx
    obtain ⟨sl', e2⟩ := slot b _ (neL b o e) hb (neC b o e hx) e1 (I.base.free b o e n hx)
    exact ⟨sl', e2⟩
  · obtain ⟨o', e1⟩ := I.base.there b o e hx
    exact free b o' (neC b o e hx) e1 (I.base.free b o e n hx)
  · obtain ⟨o', e1⟩ := I.base.there b o e hx
    exact there b o' (neC b o e hx) e1
  · obtain ⟨m1, e1⟩ := I.base.tbls b ps e
    obtain ⟨m2, e2⟩ := tbls b _ e1
    exact ⟨m1 ++ m2, by rw [e2, Array.append_assoc]⟩
  · obtain ⟨m, hn, hl⟩ := I.loc
    refine ⟨m, ns m hn, fun i x v e1 e2 e3 => ?_⟩
    obtain ⟨u, r, l⟩ := hl i x v e1 e2 e3
    refine ⟨u, r, ?_⟩
    rcases l with l | ⟨k, c, e, z⟩
    · exact .inl l
    · exact .inr ⟨k, c, e, cellK x c e _ z⟩
  · obtain ⟨v, z⟩ := I.cell x c e
    exact ⟨v, cellK x c e v z⟩
  · obtain ⟨m, ⟨o, _, _, ho, _⟩, _⟩ := I.loc
    exact free _ o (fun z => (hch _ z).2.1 rfl) ho I.free
  · obtain ⟨v, o, ho, hd⟩ := I.cell x c e
    exact free c o (fun z => (hch c z).2.2.1 x c e rfl) ho (I.freeC x c e)
  · obtain ⟨e, n, ne, nf, d⟩ := I.pin p hp
    have nch : p.1 ∉ ch := fun z => (hch p.1 z).2.2.2 p hp rfl
    exact ⟨keep p.1 p.2 ne nf nch e n, free p.1 p.2 nch e n, ne, nf, d⟩
theorem Inv.un {t' : Nat} (I : Inv X pins σ H s) (u : Un X.fs [] H H' s.heap h') (hok : HOk X.prog X.w H' h') : Inv X pins σ H' { s with heap := h', toks := t' } := by
  obtain ⟨m, ⟨o, es, ep, ho, r⟩, _⟩ := id I.loc
  obtain ⟨sl, hL⟩ := u.any ho I.free (by simp)
  exact I.step (g' := s.gens) (d' := s.drawn) (ch := []) (fun _ z => nomatch z) (fun b o _ hb _ e n => u.keep b o e n hb (by simp)) (fun b o _ hb _ e n => u.slot b o e n hb (by simp)) (fun b o _ e n => u.free b o e n (by simp)) (fun b o _ e => u.there b o e (by simp)) u.tups u.frzs u.tbls (fun m' hm => by
    obtain ⟨o', es', ep', ho', r'⟩ := hm
    rw [ho] at ho'; cases ho'
    exact ⟨_, es', ep', hL, r'⟩) hok I.bare
theorem Inv.call {g' : Array GenState} {t' : Nat} {d' : Drawn} {ch : List Addr} (I : Inv X pins σ H s) (u : Un (frs X.stack) ch H H' s.heap h') (hok : HOk X.prog X.w H' h') (hg : AllBare g')
    (hch : ∀ b ∈ ch, (b ∈ X.ex ∨ X.s₀.heap.objs.size ≤ b) ∧ b ≠ X.env.locals ∧ (∀ x c, X.env.cells.lookup x = some c → c ≠ b) ∧ ∀ p ∈ X.pn ++ pins, p.1 ≠ b) :
    Inv X pins σ H' { s with heap := h', gens := g', drawn := d', toks := t' } := by
  obtain ⟨m, ⟨o, es, ep, ho, r⟩, _⟩ := id I.loc
  obtain ⟨sl, hL⟩ := u.any ho I.free fun z => (hch _ z).2.1 rfl
  exact I.step (ch := ch) hch (fun b o hL hb hc e n => u.keep b o e n (fun z => (List.mem_cons.mp (I.stkSub b z)).elim hL hb) hc) (fun b o _ _ hc e n => u.any e n hc) (fun b o hc e n => u.free b o e n hc) (fun b o hc e => u.there b o e hc) u.tups u.frzs u.tbls (fun m' hm => by
    obtain ⟨o', es', ep', ho', r'⟩ := hm
    rw [ho] at ho'; cases ho'
    exact ⟨_, es', ep', hL, r'⟩) hok hg
theorem Inv.turned {t' : Nat} {it : Addr} (I : Inv X pins σ H s) (k : ∀ b o, b ≠ it → s.heap.get? b = some o → h'.get? b = some o) (hn : H it = none) (hL : it ≠ X.env.locals)
    (h1 : it ∈ X.ex ∨ X.s₀.heap.objs.size ≤ it) (h2 : ∀ x c, X.env.cells.lookup x = some c → c ≠ it) (h3 : ∀ p ∈ X.pn ++ pins, p.1 ≠ it) : Inv X pins σ H { s with heap := h', toks := t' } := by
  have nit : ∀ b u, H b = some u → b ≠ it := fun b u e z => by rw [z, hn] at e; cases e
  refine I.step (g' := s.gens) (d' := s.drawn) (ch := [it]) (fun b hb => ?_) (fun b o _ _ hc e _ => k b o (fun z => hc (by simp [z])) e) (fun b o _ _ hc e _ => ⟨o.slots, k b o (fun z => hc (by simp [z])) e⟩) (fun _ _ _ _ n => n)
    (fun b o hc e => ⟨o, k b o (fun z => hc (by simp [z])) e⟩) (fun _ _ e => e) (fun _ _ _ e => e) (fun b ps e => ⟨#[], by rw [e]; simp⟩) (fun m hm => ?_) (fun b u e => ?_) I.bare
  · have e : b = it := by simpa using hb
    subst e
    exact ⟨h1, hL, h2, h3⟩
  · obtain ⟨o, es, ep, ho, r⟩ := hm
    exact ⟨o, es, ep, k _ o (Ne.symm hL) ho, r⟩
  · refine (I.hok b u e).stay (fun c v hc q => k c v ?_ q) (fun _ q => q) fun _ _ q => q
    rcases hc with z | z
    · rw [z]; exact nit b u e
    · exact nit c _ z
theorem Inv.tok (I : Inv X pins σ H s) (t : Nat) : Inv X pins σ H { s with toks := t } := I.un (h' := s.heap) (t' := t) Un.refl I.hok
theorem Inv.kept {t' : Nat} (I : Inv X pins σ H s) (k : ∀ b u, s.heap.get? b = some u → h'.get? b = some u) : Inv X pins σ H { s with heap := h', toks := t' } := I.un (Un.kept k) (I.hok.kept k)
theorem Inv.laid {a : Addr} {o : HO} {t' : Nat} (I : Inv X pins σ H s) (k : ∀ b u, s.heap.get? b = some u → h'.get? b = some u) (hp : s.heap.objs.size ≤ a) (new : ObjOk X.prog X.w (upd H a o) h' a o) :
    Inv X pins σ (upd H a o) { s with heap := h', toks := t' } := I.un (Un.laid k hp (I.hok.fresh hp)) (I.hok.laid k hp new)
theorem Inv.write {x e : Addr} {o : HO} {t' : Nat} (I : Inv X pins σ H s) (mu : Mut (H x)) (he : e = x ∨ H e = some (.own x)) (k : ∀ b u, b ≠ e → s.heap.get? b = some u → h'.get? b = some u) (heo : ∃ u, h'.get? e = some u)
    (new : ObjOk X.prog X.w (upd H x o) h' x o) : Inv X pins σ (upd H x o) { s with heap := h', toks := t' } := I.un (Un.write mu he k heo) (I.hok.write mu he k heo new)
theorem Inv.pins_of {pins' : List (Addr × Obj)} (I : Inv X pins σ H s) (h : ∀ p ∈ pins', s.heap.get? p.1 = some p.2 ∧ H p.1 = none ∧ p.1 ≠ X.env.locals ∧ p.1 ∉ X.fs ∧ ∀ v, p.2.data ≠ .cell v) : Inv X pins' σ H s :=
  ⟨I.ok, I.os, I.bare, I.base, I.loc, I.cell, I.free, I.freeC, fun p hp => (List.mem_append.mp hp).elim (fun z => I.pin p (List.mem_append_left _ z)) (h p), I.hok, I.len⟩

theorem nodup_ix {N : List Str} (hN : N.Nodup) {i j : Nat} {x : Str} (a : N[i]? = some x) (b : N[j]? = some x) : i = j := by
  obtain ⟨h1, e1⟩ := List.getElem?_eq_some_iff.mp a
  obtain ⟨h2, e2⟩ := List.getElem?_eq_some_iff.mp b
  exact (List.getElem_inj hN).mp (e1.trans e2.symm)

theorem store_ok2 {M : Model} {A : Around} {E : Value → Shared → Prop} {i : Nat} {x : Str} {v : V} {u : Value} {Q : Unit → Shared → Prop} (I : Inv X pins σ H s) (hN : X.N.Nodup) (hi : X.N[i]? = some x) (hx : Loc X.env.scope x) (r : RelV v u)
    (h : ∀ s', Inv X pins (σ.set i (some v)) H s' → (∃ a, Heap.SameBut a s.heap s'.heap ∧ (a = X.env.locals ∨ X.env.cells.lookup x = some a)) → Q () s') (hf : X.fn x = true ∨ X.env.scope.names.lookup x = some .local := by first | exact .inl rfl | exact .inr rfl | assumption) : wpAny M A (storeName X.env x u) Q E s := by
  obtain ⟨m, hn, hl⟩ := id I.loc
  have hcls : (X.env.scope.kind == .class || (X.env.scope.kind == .module && X.env.locals != X.env.globals)) = false := by rw [I.ok.kind]; rfl
  have hiσ : i < σ.length := by rw [I.len]; exact (List.getElem?_eq_some_iff.mp hi).1
  have cne := I.cne
  have tracked : ∀ {a : Addr} {h' : Heap}, (∃ o, s.heap.get? a = some o ∧ H a = none) → Heap.SameBut a s.heap h' → HOk X.prog X.w H h' := fun {a h'} ha hs b ob e => by
    obtain ⟨_, _, hfree⟩ := ha
    refine (I.hok b ob e).stay (fun c w' hc q => (hs.2 c ?_).trans q) (fun _ q => q) fun _ _ q => q
    rintro rfl
    rcases hc with rfl | hc
    · rw [hfree] at e; cases e
    · rw [hfree] at hc; cases hc
  rcases hx with hk | hk
  · refine wpAny_storeName_local hk hn (fun h' hn' hs => ?_) hcls
    obtain ⟨oL, _, _, hoL, _⟩ := id hn
    refine h _ ⟨I.ok, I.os, I.bare, ⟨fun b o e n hb hx => ?_, fun b o e n hb hx => ?_, I.base.free, fun b o e hx => ?_, I.base.tups, I.base.frzs, I.base.tbls⟩, ⟨_, hn', fun j y v' e1 e2 e3 => ?_⟩, fun y c e => ?_, I.free, I.freeC, fun p hp => ?_, tracked ⟨oL, hoL, I.free⟩ hs, by simpa using I.len⟩ ⟨_, hs, .inl rfl⟩
    · exact (hs.2 b (Nat.ne_of_lt (Nat.lt_of_lt_of_le (Heap.lt_size e) I.ok.above))).trans (I.base.keep b o e n hb hx)
    · obtain ⟨sl, e1⟩ := I.base.slot b o e n hb hx
      exact ⟨sl, (hs.2 b (Nat.ne_of_lt (Nat.lt_of_lt_of_le (Heap.lt_size e) I.ok.above))).trans e1⟩
    · obtain ⟨o', e1⟩ := I.base.there b o e hx
      exact ⟨o', (hs.2 b (Nat.ne_of_lt (Nat.lt_of_lt_of_le (Heap.lt_size e) I.ok.above))).trans e1⟩
    · by_cases hj : j = i
      · subst hj
        rw [hi] at e1; cases e1
        rw [List.getElem?_set_self hiσ] at e2
        cases e2
        exact ⟨u, r, .inl ⟨hk, by simp⟩⟩
      · rw [List.getElem?_set_ne (Ne.symm hj)] at e2
        obtain ⟨u', r', q⟩ := hl j y v' e1 e2 e3
        refine ⟨u', r', ?_⟩
        rcases q with ⟨k, e⟩ | ⟨k, c, e, z⟩
        · refine .inl ⟨k, ?_⟩
          have : y ≠ x := fun e => hj (nodup_ix hN e1 (e ▸ hi))
          simp [this, e]
        · exact .inr ⟨k, c, e, z.sameBut hs (cne y c e)⟩
    · obtain ⟨w', z⟩ := I.cell y c e
      exact ⟨w', z.sameBut hs (cne y c e)⟩
    · obtain ⟨e, n, ne, nf, d⟩ := I.pin p hp
      exact ⟨(hs.2 p.1 ne).trans e, n, ne, nf, d⟩
  · have hfn : X.fn x = true := by
      rcases hf with z | z
      · exact z
      · rw [z] at hk; cases hk
    obtain ⟨c, hc⟩ := I.ok.has x (.inl hk)
    obtain ⟨w', z⟩ := I.cell x c hc
    refine wpAny_storeName_cell I.ok.kind hk hc z (fun h' hc' hs => ?_)
    obtain ⟨oc, hoc, hocd⟩ := id z
    refine h { s with heap := h' } ⟨I.ok, I.os, I.bare, ⟨fun b o e n hb hx => ?_, fun b o e n hb hx => ?_, I.base.free, fun b o e hx => ?_, I.base.tups, I.base.frzs, I.base.tbls⟩, ⟨m, hn.sameBut hs (Ne.symm (cne x c hc)), fun j y v' e1 e2 e3 => ?_⟩, fun y c' e => ?_, I.free, I.freeC, fun p hp => ?_, tracked ⟨oc, hoc, I.freeC x c hc⟩ hs, by simpa using I.len⟩ ⟨c, hs, .inr hc⟩
    · exact (hs.2 b (Nat.ne_of_lt (Nat.lt_of_lt_of_le (Heap.lt_size e) (I.ok.cab x c hfn hc)))).trans (I.base.keep b o e n hb hx)
    · obtain ⟨sl, e1⟩ := I.base.slot b o e n hb hx
      exact ⟨sl, (hs.2 b (Nat.ne_of_lt (Nat.lt_of_lt_of_le (Heap.lt_size e) (I.ok.cab x c hfn hc)))).trans e1⟩
    · obtain ⟨o', e1⟩ := I.base.there b o e hx
      exact ⟨o', (hs.2 b (Nat.ne_of_lt (Nat.lt_of_lt_of_le (Heap.lt_size e) (I.ok.cab x c hfn hc)))).trans e1⟩
    · by_cases hj : j = i
      · subst hj
        rw [hi] at e1; cases e1
        rw [List.getElem?_set_self hiσ] at e2
        cases e2
        exact ⟨u, r, .inr ⟨.inl hk, c, hc, hc'⟩⟩
      · rw [List.getElem?_set_ne (Ne.symm hj)] at e2
        obtain ⟨u', r', q⟩ := hl j y v' e1 e2 e3
        refine ⟨u', r', ?_⟩
        rcases q with q | ⟨k, c', e, z'⟩
        · exact .inl q
        · refine .inr ⟨k, c', e, z'.sameBut hs ?_⟩
          rintro rfl
          exact hj (nodup_ix hN e1 (I.ok.inj _ _ _ e hc ▸ hi))
    · by_cases hcc : c' = c
      · subst hcc; exact ⟨_, hc'⟩
      · obtain ⟨w2, z2⟩ := I.cell y c' e
        exact ⟨w2, z2.sameBut hs hcc⟩
    · obtain ⟨e, n, ne, nf, d⟩ := I.pin p hp
      refine ⟨(hs.2 p.1 ?_).trans e, n, ne, nf, d⟩
      intro q
      rw [q, hoc] at e
      have q' : oc = p.2 := Option.some.inj e
      exact d w' (by rw [← q']; exact hocd)
theorem store_ok {M : Model} {A : Around} {E : Value → Shared → Prop} {i : Nat} {x : Str} {v : V} {u : Value} {Q : Unit → Shared → Prop} (I : Inv X pins σ H s) (hN : X.N.Nodup) (hi : X.N[i]? = some x) (hx : Loc X.env.scope x) (r : RelV v u)
    (h : ∀ s', Inv X pins (σ.set i (some v)) H s' → Q () s') (hf : X.fn x = true ∨ X.env.scope.names.lookup x = some .local := by first | exact .inl rfl | exact .inr rfl | assumption) : wpAny M A (storeName X.env x u) Q E s :=
  store_ok2 I hN hi hx r (fun s' I' _ => h s' I') hf
theorem Inv.call' {s' : Shared} {ch : List Addr} (I : Inv X pins σ H s) (ho : s'.os = s.os) (u : Un (frs X.stack) ch H H' s.heap s'.heap) (hok : HOk X.prog X.w H' s'.heap) (hg : AllBare s'.gens)
    (hch : ∀ b ∈ ch, (b ∈ X.ex ∨ X.s₀.heap.objs.size ≤ b) ∧ b ≠ X.env.locals ∧ (∀ x c, X.env.cells.lookup x = some c → c ≠ b) ∧ ∀ p ∈ X.pn ++ pins, p.1 ≠ b) : Inv X pins σ H' s' := by
  obtain ⟨h', g', d', t', o'⟩ := s'
  have e : o' = s.os := ho
  subst e
  exact I.call (g' := g') (t' := t') (d' := d') u hok hg hch
end

/-! ### the judgements -/
abbrev XK := Value → Option Addr → Hp → Prop
abbrev St := List (Option V)
abbrev VK := V → Hp → Prop
abbrev TE := St → Hp → VK → Prop
abbrev TT := St → Hp → (Bool → Hp → Prop) → Prop
abbrev TA := St → Hp → (List V → Hp → Prop) → Prop
structure Ends where
  nx : St → Hp → Prop
  rt : VK
  bk : St → Hp → Prop := fun _ _ => False
  ct : St → Hp → Prop := fun _ _ => False
abbrev TS := Ends → St → Hp → Prop

def EP (X : Cx) (pins : List (Addr × Obj)) (σ : St) (Q : VK) (u : Value) (s' : Shared) : Prop := ∃ v H', Inv X pins σ H' s' ∧ RelV v u ∧ Q v H'
def TP (X : Cx) (pins : List (Addr × Obj)) (σ : St) (Q : Bool → Hp → Prop) (b : Bool) (s' : Shared) : Prop := ∃ H', Inv X pins σ H' s' ∧ Q b H'
def AP (X : Cx) (pins : List (Addr × Obj)) (σ : St) (Q : List V → Hp → Prop) (us : List Value) (s' : Shared) : Prop := ∃ vs H', Inv X pins σ H' s' ∧ Vals vs us ∧ Q vs H'
def SP (X : Cx) (pins : List (Addr × Obj)) (D : Ends) (f : Flow) (s' : Shared) : Prop :=
  match f with
  | .next => ∃ σ' H', Inv X pins σ' H' s' ∧ D.nx σ' H'
  | .brk => ∃ σ' H', Inv X pins σ' H' s' ∧ D.bk σ' H'
  | .cont => ∃ σ' H', Inv X pins σ' H' s' ∧ D.ct σ' H'
  | .ret u => ∃ v σ' H', Inv X pins σ' H' s' ∧ RelV v u ∧ D.rt v H'

def PE (X : Cx) (e : Expr) (t : TE) : Prop :=
  ∀ (pins : List (Addr × Obj)) (s : Shared) (σ : St) (H : Hp) (Q : VK), Inv X pins σ H s → t σ H Q → wpAny (model X.prog X.w) X.A (eval e X.env) (EP X pins σ Q) X.xe s
def PT (X : Cx) (e : Expr) (t : TT) : Prop :=
  ∀ (pins : List (Addr × Obj)) (s : Shared) (σ : St) (H : Hp) (Q : Bool → Hp → Prop), Inv X pins σ H s → t σ H Q → wpAny (model X.prog X.w) X.A (isTrue e X.env (eval e X.env)) (TP X pins σ Q) X.xe s
def PW (X : Cx) (e : Expr) (t : TT) : Prop :=
  ∀ (whole : Sem Value) (pins : List (Addr × Obj)) (s : Shared) (σ : St) (H : Hp) (Q : Bool → Hp → Prop), Inv X pins σ H s → t σ H Q → wpAny (model X.prog X.w) X.A (isTrue e X.env whole) (TP X pins σ Q) X.xe s
theorem PW.pt {X : Cx} {e : Expr} {t : TT} (h : PW X e t) : PT X e t := h _
def PA (X : Cx) (es : List Expr) (t : TA) : Prop :=
  ∀ (pos : Pos) (pins : List (Addr × Obj)) (s : Shared) (σ : St) (H : Hp) (Q : List V → Hp → Prop), Inv X pins σ H s → t σ H Q → wpAny (model X.prog X.w) X.A (spliced (backTo pos (starEach es X.env))) (AP X pins σ Q) X.xe s
def PS (X : Cx) (st : Stmt) (t : TS) : Prop :=
  ∀ (pins : List (Addr × Obj)) (s : Shared) (σ : St) (H : Hp) (D : Ends), Inv X pins σ H s → t D σ H → wpAny (model X.prog X.w) X.A (exec st X.env) (SP X pins D) X.xe s
def PSs (X : Cx) (st : List Stmt) (t : TS) : Prop :=
  ∀ (pins : List (Addr × Obj)) (s : Shared) (σ : St) (H : Hp) (D : Ends), Inv X pins σ H s → t D σ H → wpAny (model X.prog X.w) X.A (execs st X.env) (SP X pins D) X.xe s
theorem thn {α : Type} {t : Sem α} {Q Q' : α → Shared → Prop} {M : Model} {A : Around} {E : Value → Shared → Prop} {s : Shared} (h : wpAny M A t Q E s) (hQ : ∀ a s, Q a s → Q' a s) : wpAny M A t Q' E s := wpAny_mono h hQ fun _ _ x => x
end L2

namespace L2
open PySem PySem.Spec PyProof.Rows
section
variable {X : Cx}

/-! ### names and constants -/
def tVar (i : Nat) : TE := fun σ H Q => ∃ v, σ[i]? = some (some v) ∧ Q v H
def tC (v : V) : TE := fun _ H Q => Q v H
theorem pe_var {i : Nat} {x : Str} {pos : Pos} (hN : X.N[i]? = some x) (hv : Vis X.env.scope x) (hd : (x == ("__debug__" : Str)) = false := by decide) (hcd : (x == ("__classdict__" : Str)) = false := by decide) : PE X (.Name x pos) (tVar i) := by
  intro pins s σ H Q I h
  obtain ⟨v, e, h⟩ := h
  obtain ⟨m, hn, hl⟩ := I.loc
  obtain ⟨u, r, l⟩ := hl i x v hN e hv
  have fin : EP X pins σ Q u s := ⟨v, H, I, r, h⟩
  rcases l with ⟨hk, hm⟩ | ⟨hk, c, hc, hcell⟩
  · exact wpAny_Name (wpAny_loadName_local I.ok.kind hk hn hm fin) hd
  · rcases hk with hk | hk
    · exact wpAny_Name (wpAny_loadName_cell I.ok.kind hk hc hcell fin) hd
    · exact wpAny_Name (wpAny_loadName_free I.ok.kind hk hc hcell fin hcd) hd
theorem pe_int {i j pos} : PE X (.Constant (.int i) j pos) (tC (.int i)) := fun _ _ _ H _ I h => wpAny_Constant_int ⟨.int i, H, I.tok _, ⟨_, rfl⟩, h⟩
theorem pe_bl {b j pos} : PE X (.Constant (.bool b) j pos) (tC (.bl b)) := fun _ _ _ H _ I h => Constant_bool ⟨.bl b, H, I, rfl, h⟩
theorem pe_non {j pos} : PE X (.Constant .none j pos) (tC .non) := fun _ _ _ H _ I h => Constant_none ⟨.non, H, I, rfl, h⟩
theorem pe_str {x j pos} : PE X (.Constant (.str x) j pos) (tC (.str x)) := fun _ _ _ H _ I h => Calls.Constant_str ⟨.str x, H, I.tok _, ⟨_, rfl⟩, h⟩

def Gl (X : Cx) (x : Str) : Prop := X.env.kindOf x = some .globalImplicit
theorem ld_glob {E : Value → Shared → Prop} {pins : List (Addr × Obj)} {s : Shared} {σ : St} {H : Hp} {x : Str} {u : Value} {pos : Pos} {Q : Value → Shared → Prop} (I : Inv X pins σ H s) (hg : Gl X x) (hm : X.mg x = some u) (h : Q u s)
    (hd : (x == ("__debug__" : Str)) = false := by decide) : wpAny (model X.prog X.w) X.A (eval (.Name x pos) X.env) Q E s :=
  Calls.Name_function_global I.ok.kind hg (Calls.loadGlobal_global (by rw [I.ok.glob]; exact I.mod.glob.keeps I.bk) hm h) hd
theorem ld_blt {E : Value → Shared → Prop} {pins : List (Addr × Obj)} {s : Shared} {σ : St} {H : Hp} {x : Str} {u : Value} {pos : Pos} {Q : Value → Shared → Prop} (I : Inv X pins σ H s) (hg : Gl X x) (hm : X.mg x = none) (hv : bootBuiltins x = some u) (h : Q u s)
    (hn : x ≠ "__name__" := by decide) (hd : (x == ("__debug__" : Str)) = false := by decide) : wpAny (model X.prog X.w) X.A (eval (.Name x pos) X.env) Q E s := by
  obtain ⟨mb, h1, h2⟩ := I.mod.blt
  exact Calls.Name_function_global I.ok.kind hg (Calls.loadGlobal_builtin (by rw [I.ok.glob]; exact I.mod.glob.keeps I.bk) hm (by rw [I.ok.blt]; exact h1.keeps I.bk) ((h2 x hn).trans hv) h) hd
theorem pe_glob {x : Str} {v : V} {u : Value} {pos : Pos} (hg : Gl X x) (hm : X.mg x = some u) (r : RelV v u) (hd : (x == ("__debug__" : Str)) = false := by decide) : PE X (.Name x pos) (tC v) :=
  fun _ _ _ H _ I h => ld_glob I hg hm ⟨v, H, I, r, h⟩ hd
theorem pe_bltn {x : Str} {v : V} {u : Value} {pos : Pos} (hg : Gl X x) (hm : X.mg x = none) (hv : bootBuiltins x = some u) (r : RelV v u) (hn : x ≠ "__name__" := by decide) (hd : (x == ("__debug__" : Str)) = false := by decide) : PE X (.Name x pos) (tC v) :=
  fun _ _ _ H _ I h => ld_blt I hg hm hv ⟨v, H, I, r, h⟩ hn hd

/-! ### arithmetic -/
variable {a b : Expr} {ta tb : TE} {pos : Pos}
/-! ### comparisons -/
def PC (X : Cx) (op : CmpOp) (a b : Expr) (t : TE) : Prop :=
  ∀ (pins : List (Addr × Obj)) (s : Shared) (σ : St) (H : Hp) (Q : VK), Inv X pins σ H s → t σ H Q →
    wpAny (model X.prog X.w) X.A (eval a X.env) (fun v s₁ => wpAny (model X.prog X.w) X.A (eval b X.env) (fun u s₂ => wpAny (model X.prog X.w) X.A (compareOp op v u) (EP X pins σ Q) X.xe s₂) X.xe s₁) X.xe s
def tB (t : TE) : TT := fun σ H Q => t σ H fun x H1 => ∃ c, x = .bl c ∧ Q c H1
theorem pt_cmp {op : CmpOp} {t : TE} (h : PC X op a b t) (h1 : behindInMarks op b = false := by first | exact nobehind _ (by decide) (by decide) | rfl) : PT X (.Compare a [op] [b] pos) (tB t) := by
  intro pins s σ H Q I hw
  refine wpAny_isTrue_Compare1 (thn (h pins s σ H _ I hw) fun v s1 h1 => thn h1 fun u s2 h2 => thn h2 fun c s3 ⟨x, H1, I1, r1, q1⟩ => ?_) h1
  obtain ⟨d, rfl, q⟩ := q1
  cases r1
  exact wpAny_truthy_bool ⟨H1, I1, q⟩
theorem pt_val {e : Expr} {t : TE} (h : PE X e t) (he : ∀ whole, isTrue e X.env whole = (do let v ← whole; standAt e.pos; holding [v] (truthy v)) := by intro _; rfl) : PT X e (tB t) := by
  intro pins s σ H Q I hw
  refine isTrue_plain (thn (h pins s σ H _ I hw) fun v s1 ⟨x, H1, I1, r1, q1⟩ => ?_) (he _)
  obtain ⟨d, rfl, q⟩ := q1
  cases r1
  exact wpAny_truthy_bool ⟨H1, I1, q⟩

/-! ### and, or, not -/
variable {tA tB' : TT} {rest : List Expr}
def tAnd (t u : TT) : TT := fun σ H Q => t σ H fun c H1 => if c = true then u σ H1 Q else Q false H1
def tOr (t u : TT) : TT := fun σ H Q => t σ H fun c H1 => if c = true then Q true H1 else u σ H1 Q
def tNot (t : TT) : TT := fun σ H Q => t σ H fun c H1 => Q (!c) H1
theorem pw_and1 (ha : PT X a tA) : PW X (.BoolOp .And [a] pos) tA := by
  intro wh pins s σ H Q I h
  refine isTrue_and (thn (ha pins s σ H Q I h) fun c s1 e => ?_)
  cases c with
  | true => exact isTrue_and_nil e
  | false => exact e
theorem pw_or1 (ha : PT X a tA) : PW X (.BoolOp .Or [a] pos) tA := by
  intro wh pins s σ H Q I h
  refine isTrue_or (thn (ha pins s σ H Q I h) fun c s1 e => ?_)
  cases c with
  | false => exact isTrue_or_nil e
  | true => exact e
theorem pw_and (ha : PT X a tA) (hb : PW X (.BoolOp .And (b :: rest) pos) tB') : PW X (.BoolOp .And (a :: b :: rest) pos) (tAnd tA tB') := by
  intro wh pins s σ H Q I h
  refine isTrue_and (thn (ha pins s σ H _ I h) fun c s1 ⟨H1, I1, q1⟩ => ?_)
  cases c with
  | true => exact hb wh pins s1 σ H1 Q I1 q1
  | false => exact ⟨H1, I1, q1⟩
theorem pw_or (ha : PT X a tA) (hb : PW X (.BoolOp .Or (b :: rest) pos) tB') : PW X (.BoolOp .Or (a :: b :: rest) pos) (tOr tA tB') := by
  intro wh pins s σ H Q I h
  refine isTrue_or (thn (ha pins s σ H _ I h) fun c s1 ⟨H1, I1, q1⟩ => ?_)
  cases c with
  | true => exact ⟨H1, I1, q1⟩
  | false => exact hb wh pins s1 σ H1 Q I1 q1
theorem pt_not (ha : PT X a tA) : PT X (.UnaryOp .Not a pos) (tNot tA) := by
  intro pins s σ H Q I h
  exact isTrue_not (ha pins s σ H (fun c H1 => Q (!c) H1) I h)
def tAndV (ta tb : TE) : TE := fun σ H Q => ta σ H fun x H1 => ∃ c, x = .bl c ∧ if c = true then tb σ H1 Q else Q (.bl false) H1
def tNotV (ta : TE) : TE := fun σ H Q => ta σ H fun x H1 => ∃ c, x = .bl c ∧ Q (.bl (!c)) H1
theorem pe_one {op} {t : TE} (h : PE X a t) : PE X (.BoolOp op [a] pos) t := fun pins s σ H Q I hw => BoolOp_one (h pins s σ H Q I hw)
theorem pe_and (ha : PE X a ta) (hb : PE X (.BoolOp .And (b :: rest) pos) tb) : PE X (.BoolOp .And (a :: b :: rest) pos) (tAndV ta tb) := by
  intro pins s σ H Q I h
  refine BoolOp_and (thn (ha pins s σ H _ I h) fun v s1 ⟨x, H1, I1, r1, q1⟩ => ?_)
  obtain ⟨c, rfl, q1⟩ := q1
  cases r1
  refine wpAny_truthy_bool ?_
  cases c with
  | true => exact hb pins s1 σ H1 Q I1 q1
  | false => exact ⟨.bl false, H1, I1, rfl, q1⟩
theorem pe_not (ha : PE X a ta) : PE X (.UnaryOp .Not a pos) (tNotV ta) := by
  intro pins s σ H Q I h
  refine UnaryOp_ (thn (ha pins s σ H _ I h) fun v s1 ⟨x, H1, I1, r1, q1⟩ => ?_)
  obtain ⟨c, rfl, q1⟩ := q1
  cases r1
  exact not_of (wpAny_truthy_bool ⟨.bl (!c), H1, I1, rfl, q1⟩)
def tIf (t : TT) (ta tb : TE) : TE := fun σ H Q => t σ H fun c H1 => if c = true then ta σ H1 Q else tb σ H1 Q
theorem pe_ifExp {c : Expr} (hc : PT X c tA) (ha : PE X a ta) (hb : PE X b tb) : PE X (.IfExp c a b pos) (tIf tA ta tb) := by
  intro pins s σ H Q I h
  refine wpAny_IfExp (thn (hc pins s σ H _ I h) fun d s1 ⟨H1, I1, q1⟩ => ?_)
  cases d with
  | true => exact ha pins s1 σ H1 Q I1 q1
  | false => exact hb pins s1 σ H1 Q I1 q1
end
end L2

namespace L2
open PySem PySem.Spec PyProof.Rows

/-! ### a list, a tuple that is read: tracked, frozen, or an object of the module -/
def SqL (K : PySem.W.Frag) (H : Hp) (a : Addr) (xs : List V) : Prop :=
  Rd H a (.lst xs) ∨
    ∃ (o : Obj) (its : Array Value) (n : Nat), K.lookup a = some o ∧ o.cls = .type "list" ∧ o.dict = none ∧ o.data = .seq its n ∧ its.size ≤ sizeLine ∧ Vals xs its.toList
def SqT (K : PySem.W.Frag) (H : Hp) (a : Addr) (xs : List V) : Prop :=
  Rd H a (.tup xs) ∨
    ∃ (o : Obj) (its : Array Value) (n : Nat), K.lookup a = some o ∧ o.cls = .type "tuple" ∧ o.data = .seq its n ∧ its.size ≤ sizeLine ∧ Vals xs its.toList
def absV : Value → Option V
  | .none => some .non
  | .bool b => some (.bl b)
  | .int i _ => some (.int i)
  | .str x _ => some (.str x)
  | .bytes b _ => some (.byt b)
  | .float b _ => some (.flt b)
  | .ref a => some (.ref a)
  | .type n => some (.ty n)
  | _ => none
theorem RelV.abs {x : V} {u : Value} (r : RelV x u) : absV u = some x := by
  cases x with
  | non => cases r; rfl
  | bl _ => cases r; rfl
  | int _ => obtain ⟨t, rfl⟩ := r; rfl
  | str _ => obtain ⟨t, rfl⟩ := r; rfl
  | byt _ => obtain ⟨t, rfl⟩ := r; rfl
  | flt _ => obtain ⟨t, rfl⟩ := r; rfl
  | ref _ => cases r; rfl
  | ty _ => cases r; rfl
theorem RelV.inj {x y : V} {u : Value} (r : RelV x u) (q : RelV y u) : x = y := Option.some.inj (r.abs.symm.trans q.abs)
theorem Vals.inj : ∀ {xs ys : List V} {us : List Value}, Vals xs us → Vals ys us → xs = ys
  | _, _, _, .nil, .nil => rfl
  | _, _, _, .cons r t, .cons r' t' => by rw [r.inj r', Vals.inj t t']
section
variable {X : Cx} {pins : List (Addr × Obj)} {σ : St} {H : Hp} {s : Shared} {a : Addr} {xs ys : List V}
theorem SqL.of {K : PySem.W.Frag} (h : H a = some (.lst xs)) : SqL K H a xs := .inl (.inl h)
theorem SqT.of {K : PySem.W.Frag} (h : H a = some (.tup xs)) : SqT K H a xs := .inl (.inl h)
theorem Inv.list (I : Inv X pins σ H s) (h : SqL X.K H a xs) : ∃ its : List Value, Vals xs its ∧ PlainL s.heap a its.toArray ∧ xs.length ≤ sizeLine := by
  rcases h with h | ⟨o, its, n, hk, hc, hd, hs, hz, r⟩
  · obtain ⟨z, its, n, r, e⟩ := h.ok I.hok
    exact ⟨its, r, ⟨_, n, e, rfl, rfl, rfl⟩, z⟩
  · refine ⟨its.toList, r, ⟨o, n, I.kIn a o hk, hc, hd, by simpa using hs⟩, ?_⟩
    have e := r.length
    simp only [Array.length_toList] at e
    omega
theorem Inv.tuple (I : Inv X pins σ H s) (h : SqT X.K H a xs) : ∃ its : List Value, Vals xs its ∧ IsTup s.heap a its.toArray ∧ xs.length ≤ sizeLine := by
  rcases h with h | ⟨o, its, n, hk, hc, hs, hz, r⟩
  · obtain ⟨z, its, r, p⟩ := h.ok I.hok
    exact ⟨its, r, p, z⟩
  · refine ⟨its.toList, r, ⟨o, I.kIn a o hk, hc, n, by simpa using hs⟩, ?_⟩
    have e := r.length
    simp only [Array.length_toList] at e
    omega
theorem Inv.list_inj (I : Inv X pins σ H s) (h : SqL X.K H a xs) (h' : SqL X.K H a ys) : xs = ys := by
  obtain ⟨its, r, ⟨o, n, e, _, _, d⟩, _⟩ := I.list h
  obtain ⟨its', r', ⟨o', n', e', _, _, d'⟩, _⟩ := I.list h'
  rw [e] at e'; cases e'
  rw [d] at d'
  injection d' with d1 _
  have : its = its' := by simpa using congrArg Array.toList d1
  subst this
  exact r.inj r'
end

/-! ### another wish about exceptions -/
abbrev Cx.wish (X : Cx) (E : Value → Shared → Prop) : Cx := { X with xe := E }
abbrev Cx.nox (X : Cx) : Cx := X.wish fun _ _ => False
theorem Cx.Ok.wish {X : Cx} (ok : X.Ok) (E : Value → Shared → Prop) : (X.wish E).Ok :=
  ⟨ok.mod, ok.kind, ok.glob, ok.blt, ok.above, ok.inj, ok.has, ok.cab, ok.hd, ok.frames, ok.stk, ok.exf, ok.bs, ok.bsz, ok.noex, ok.exfs, ok.funs, ok.frf⟩
theorem Cx.Ok.unwish {X : Cx} {E : Value → Shared → Prop} (ok : (X.wish E).Ok) : X.Ok :=
  ⟨ok.mod, ok.kind, ok.glob, ok.blt, ok.above, ok.inj, ok.has, ok.cab, ok.hd, ok.frames, ok.stk, ok.exf, ok.bs, ok.bsz, ok.noex, ok.exfs, ok.funs, ok.frf⟩
section
variable {X : Cx} {pins : List (Addr × Obj)} {σ : St} {H : Hp} {s : Shared} {E : Value → Shared → Prop}
theorem Inv.wish (I : Inv X pins σ H s) (E : Value → Shared → Prop) : Inv (X.wish E) pins σ H s := ⟨I.ok.wish E, I.os, I.bare, I.base, I.loc, I.cell, I.free, I.freeC, I.pin, I.hok, I.len⟩
theorem Inv.unwish (I : Inv (X.wish E) pins σ H s) : Inv X pins σ H s := ⟨I.ok.unwish, I.os, I.bare, I.base, I.loc, I.cell, I.free, I.freeC, I.pin, I.hok, I.len⟩
theorem SP.unwish {D : Ends} {f : Flow} {s' : Shared} (h : SP (X.wish E) pins D f s') : SP X pins D f s' := by
  cases f with
  | next => obtain ⟨σ', H', I, q⟩ := h; exact ⟨σ', H', I.unwish, q⟩
  | brk => obtain ⟨σ', H', I, q⟩ := h; exact ⟨σ', H', I.unwish, q⟩
  | cont => obtain ⟨σ', H', I, q⟩ := h; exact ⟨σ', H', I.unwish, q⟩
  | ret u => obtain ⟨v, σ', H', I, r, q⟩ := h; exact ⟨v, σ', H', I.unwish, r, q⟩
theorem PSs.nox {st : List Stmt} {t : TS} (h : PSs X.nox st t) : PSs X st t := fun pins s σ H D I hw =>
  wpAny_mono (h pins s σ H D (I.wish _) hw) (fun _ _ q => q.unwish) fun _ _ z => False.elim z
end

/-! ### blocks and small statements -/
section
variable {X : Cx} {st : Stmt} {rest : List Stmt} {t u : TS} {e : Expr} {te : TE} {pos : Pos}
def tNext : TS := fun D σ H => D.nx σ H
def tSeq (t u : TS) : TS := fun D σ H => t { D with nx := u D } σ H
theorem pss_nil : PSs X [] tNext := fun _ _ σ H _ I h => wpAny_execs_nil ⟨σ, H, I, h⟩
theorem pss_cons (h1 : PS X st t) (h2 : PSs X rest u) : PSs X (st :: rest) (tSeq t u) := by
  intro pins s σ H D I h
  refine wpAny_execs_cons (thn (h1 pins s σ H { D with nx := u D } I h) fun f s1 q => ?_)
  cases f with
  | next =>
    obtain ⟨σ', H', I', q⟩ := q
    exact h2 pins s1 σ' H' D I' q
  | ret v => exact q
  | brk => exact q
  | cont => exact q
theorem pss_one (h1 : PS X st t) : PSs X [st] t := by
  intro pins s σ H D I h
  refine wpAny_execs_cons (thn (h1 pins s σ H D I h) fun f s1 q => ?_)
  cases f with
  | next => exact wpAny_execs_nil q
  | ret v => exact q
  | brk => exact q
  | cont => exact q
theorem Inv.quiet {pins : List (Addr × Obj)} {σ : St} {H : Hp} {s : Shared} (I : Inv X pins σ H s) : interactive X.env = false := by simp [interactive, I.ok.kind]
def tDrop (te : TE) : TS := fun D σ H => te σ H fun _ H1 => D.nx σ H1
theorem ps_expr (he : PE X e te) (hs : swapsWith e none pos.line X.env = pure false := by rfl) : PS X (.Expr e pos) (tDrop te) := by
  intro pins s σ H D I h
  exact wpAny_Expr_any (thn (he pins s σ H _ I h) fun v s1 ⟨x, H1, I1, r1, q1⟩ => ⟨σ, H1, I1, q1⟩) I.quiet hs
def tRet (te : TE) : TS := fun D σ H => te σ H D.rt
theorem ps_ret (he : PE X e te) : PS X (.Return (some e) pos) (tRet te) := by
  intro pins s σ H D I h
  exact wpAny_Return_some (thn (he pins s σ H _ I h) fun v s1 ⟨x, H1, I1, r1, q1⟩ => ⟨x, σ, H1, I1, r1, q1⟩)
def tIfS (c : TT) (t u : TS) : TS := fun D σ H => c σ H fun b H1 => if b = true then t D σ H1 else u D σ H1
theorem ps_if {c : Expr} {a b : List Stmt} {tc : TT} (hc : PT X c tc) (ha : PSs X a t) (hb : PSs X b u) : PS X (.If c a b pos) (tIfS tc t u) := by
  intro pins s σ H D I h
  refine wpAny_If (thn (hc pins s σ H _ I h) fun d s1 ⟨H1, I1, q1⟩ => ?_)
  cases d with
  | true => exact ha pins s1 σ H1 D I1 q1
  | false => exact hb pins s1 σ H1 D I1 q1
def tNever : TS := fun _ _ _ => False
theorem pss_never {sts : List Stmt} : PSs X sts tNever := fun _ _ _ _ _ _ h => h.elim
end

/-! ### targets -/
abbrev TG := V → St → Hp → (St → Hp → Prop) → Prop
abbrev TGs := List V → St → Hp → (St → Hp → Prop) → Prop
def PG (X : Cx) (target : Expr) (t : TG) : Prop :=
  ∀ (pins : List (Addr × Obj)) (s : Shared) (σ : St) (H : Hp) (v : V) (u : Value) (Q : St → Hp → Prop), Inv X pins σ H s → RelV v u → t v σ H Q →
    wpAny (model X.prog X.w) X.A (assign target X.env u) (fun _ s' => ∃ σ' H', Inv X pins σ' H' s' ∧ Q σ' H') X.xe s
def PGs (X : Cx) (ts : List Expr) (t : TGs) : Prop :=
  ∀ (pins : List (Addr × Obj)) (s : Shared) (σ : St) (H : Hp) (vs : List V) (us : List Value) (Q : St → Hp → Prop), Inv X pins σ H s → Vals vs us → t vs σ H Q →
    wpAny (model X.prog X.w) X.A (assignInOrder ((assignEach ts X.env).map (·.2)) us) (fun _ s' => ∃ σ' H', Inv X pins σ' H' s' ∧ Q σ' H') X.xe s
section
variable {X : Cx} {pos : Pos}
def gName (i : Nat) : TG := fun v σ H Q => Q (σ.set i (some v)) H
theorem pg_name {i : Nat} {x : Str} (hN : X.N.Nodup) (hi : X.N[i]? = some x) (hx : Loc X.env.scope x) (hf : X.fn x = true ∨ X.env.scope.names.lookup x = some .local := by first | exact .inl rfl | exact .inr rfl | assumption) : PG X (.Name x pos) (gName i) := by
  intro pins s σ H v u Q I r h
  exact wpAny_assign_Name (store_ok I hN hi hx r (fun s' I' => ⟨_, H, I', h⟩) hf)
def gNil : TGs := fun vs σ H Q => vs = [] ∧ Q σ H
def gCons (t : TG) (u : TGs) : TGs := fun vs σ H Q => ∃ v r, vs = v :: r ∧ t v σ H fun σ' H' => u r σ' H' Q
theorem pgs_nil : PGs X [] gNil := by
  intro pins s σ H vs us Q I r h
  obtain ⟨e, h⟩ := h
  subst e
  cases r
  exact assignInOrder_nil ⟨σ, H, I, h⟩
theorem pgs_cons {e : Expr} {es : List Expr} {t : TG} {u : TGs} (h1 : PG X e t) (h2 : PGs X es u)
    (hs : (assignEach (e :: es) X.env).map (·.2) = assign e X.env :: (assignEach es X.env).map (·.2) := by rfl) : PGs X (e :: es) (gCons t u) := by
  intro pins s σ H vs us Q I r h
  obtain ⟨v, vr, e1, h⟩ := h
  subst e1
  cases r with
  | cons r rr =>
    rw [hs]
    refine assignInOrder_cons (thn (h1 pins s σ H _ _ _ I r h) fun _ s1 ⟨σ1, H1, I1, q1⟩ => ?_)
    exact h2 pins s1 σ1 H1 _ _ Q I1 rr q1
def gTup (K : PySem.W.Frag) (n : Nat) (t : TGs) : TG := fun v σ H Q => ∃ a xs, v = .ref a ∧ SqT K H a xs ∧ xs.length = n ∧ t xs σ H Q
theorem pg_tup {es : List Expr} {k : Nat} {t : TGs} {n : Nat} (hc : X.calm = true) (h : PGs X es t)
    (hn : (assignEach es X.env).length = n := by rfl) (hst : (assignEach es X.env).findIdx? (·.1) = none := by rfl) : PG X (.Tuple es k pos) (gTup X.K n t) := by
  intro pins s σ H v u Q I r hw
  obtain ⟨a, xs, e1, hq, hl, hw⟩ := hw
  subst e1
  cases r
  obtain ⟨its, rv, ht, hz⟩ := I.tuple hq
  refine assign_Tuple_tuple (I.ok.hd hc) ht (by simp [hn, ← hl, rv.length]) hst fun h' hx => ?_
  have I1 : Inv X pins σ H { s with heap := h' } := I.kept (t' := s.toks) fun b o e => hx b o (Nat.ne_of_lt (Heap.lt_size e)) e
  exact h pins _ σ H xs _ Q I1 (by simpa using rv) hw
def tAsg (te : TE) (g : TG) : TS := fun D σ H => te σ H fun x H1 => g x σ H1 D.nx
theorem ps_asg {tg e : Expr} {te : TE} {g : TG} (he : PE X e te) (hg : PG X tg g) (hs : swapsWithSole [tg] e pos.line X.env = pure false := by rfl) (hw : swappedStores [tg] e X.env = pure none := by rfl)
    (h1 : (assignEach [tg] X.env).map (·.2) = [assign tg X.env] := by rfl) : PS X (.Assign [tg] e pos) (tAsg te g) := by
  intro pins s σ H D I h
  refine wpAny_Assign_stores (thn (he pins s σ H _ I h) fun v s1 ⟨x, H1, I1, r1, q1⟩ => ?_) hs hw
  rw [h1]
  exact thn (hg pins s1 σ H1 x v _ I1 r1 q1) fun _ s2 q => q
theorem ps_set {i : Nat} {x : Str} {e : Expr} {te : TE} {pos' : Pos} (hN : X.N.Nodup) (hi : X.N[i]? = some x) (hx : Loc X.env.scope x) (he : PE X e te) (hs : swapsWith e (some (.Name x pos')) pos.line X.env = pure false := by rfl) (hf : X.fn x = true ∨ X.env.scope.names.lookup x = some .local := by first | exact .inl rfl | exact .inr rfl | assumption) :
    PS X (.Assign [.Name x pos'] e pos) (tAsg te (gName i)) := by
  intro pins s σ H D I h
  refine wpAny_Assign_Name (thn (he pins s σ H _ I h) fun v s1 ⟨y, H1, I1, r1, q1⟩ => ?_) hs
  exact store_ok I1 hN hi hx r1 (fun s2 I2 => ⟨_, H1, I2, q1⟩) hf
def tPar (i j : Nat) (ta : TA) : TS := fun D σ H => ta σ H fun vs H1 => ∃ v w, vs = [v, w] ∧ D.nx ((σ.set i (some v)).set j (some w)) H1
theorem ps_par {i j : Nat} {x y : Str} {a b : Expr} {ta : TA} {px py pt : Pos} {kt k2 pt2} (hc : X.calm = true) (hN : X.N.Nodup) (hi : X.N[i]? = some x) (hj : X.N[j]? = some y) (hij : i ≠ j)
    (hx : X.env.scope.names.lookup x = some .local) (hy : X.env.scope.names.lookup y = some .local) (ha : PA X [a, b] ta)
    (hw : swappedStores [.Tuple [.Name x px, .Name y py] kt pt] (.Tuple [a, b] k2 pt2) X.env = pure (some [x, y]))
    (hs : swapsWithSole [.Tuple [.Name x px, .Name y py] kt pt] (.Tuple [a, b] k2 pt2) pos.line X.env = pure false := by rfl) :
    PS X (.Assign [.Tuple [.Name x px, .Name y py] kt pt] (.Tuple [a, b] k2 pt2) pos) (tPar i j ta) := by
  intro pins s σ H D I h
  rw [exec_Assign_arm]
  refine wpAny_bind (wpAny_standAt ?_)
  rw [hs]
  refine wpAny_bind (wpAny_pure ?_)
  rw [if_neg (by decide)]
  refine wpAny_bind (Tuple_ (thn (ha _ pins s σ H _ I h) fun us s1 ⟨vs, H1, I1, r1, q1⟩ => ?_))
  obtain ⟨v, w, e1, q1⟩ := q1
  subst e1
  obtain ⟨u1, u2, rfl, rv, rw'⟩ : ∃ u1 u2, us = [u1, u2] ∧ RelV v u1 ∧ RelV w u2 := by
    cases r1 with
    | cons p q =>
      cases q with
      | cons p' q' =>
        cases q'
        exact ⟨_, _, rfl, p, p'⟩
  refine wpAny_newObj_type ?_ (by show 2 ≤ sizeLine; decide)
  have I2 : Inv X pins σ H1 { s1 with heap := s1.heap.push { cls := .type "tuple", data := .seq [u1, u2].toArray } } := I1.kept (t' := s1.toks) fun b o e => Heap.get?_push_of_some _ e
  rw [hw]
  refine wpAny_bind (wpAny_pure ?_)
  show wpAny (model X.prog X.w) X.A (do rule "assign.swapped-stores"; let items ← unpackItems (.ref s1.heap.objs.size) 2 none; assignInOrder [fun v => bindName X.env y v, fun v => bindName X.env x v] items.reverse; pure Flow.next) _ _ _
  refine wpAny_bind (wpAny_rule (wpAny_bind (unpackItems_tuple (items := #[u1, u2]) (I.ok.hd hc) (IsTup.new s1.heap _) fun h' hx' => ?_)))
  have I3 := I2.kept (h' := h') (t' := s1.toks) fun b o e => hx' b o (Nat.ne_of_lt (Heap.lt_size e)) e
  show wpAny _ _ (assignInOrder [fun v => bindName X.env y v, fun v => bindName X.env x v] [u2, u1] >>= fun _ => pure Flow.next) _ _ _
  refine wpAny_bind (assignInOrder_cons (wpAny_bindName (store_ok I3 hN hj (.inl hy) rw' (fun s2 I4 => ?_) (.inr hy))))
  refine assignInOrder_cons (wpAny_bindName (store_ok I4 hN hi (.inl hx) rv (fun s3 I5 => assignInOrder_nil (wpAny_pure ?_)) (.inr hx)))
  rw [List.set_comm _ _ (Ne.symm hij)] at I5
  exact ⟨_, H1, I5, q1⟩
end

/-! ### while -/
section
variable {X : Cx} {pos : Pos}
def tWhile (c : TT) (tb : TS) : TS := fun D σ H => ∃ W : Nat → St → Hp → Prop, (∃ m, W m σ H) ∧ ∀ m σ H, W m σ H →
  c σ H fun b H1 => if b = true then ∃ N : St → Hp → Prop, (∀ σ' H', N σ' H' → ∃ m', m' < m ∧ W m' σ' H') ∧ tb { D with nx := N, ct := N, bk := D.nx } σ H1 else D.nx σ H1
theorem ps_while {c : Expr} {body : List Stmt} {tc : TT} {tb : TS} (hp : PassesOwn (model X.prog X.w) X.A X.env X.xe) (hc : PT X c tc) (hb : PSs X body tb) : PS X (.While c body [] pos) (tWhile tc tb) := by
  intro pins s σ H D I h
  obtain ⟨W, ⟨m0, w0⟩, turn⟩ := h
  refine wpAny_While (codeAny_whileLoop (fun n s' => ∃ σ' H', Inv X pins σ' H' s' ∧ W n σ' H') ?_ m0 ⟨σ, H, I, w0⟩)
  rintro n s1 ⟨σ1, H1, I1, w1⟩
  refine wpAny_passesOwn hp (thn (hc pins s1 σ1 H1 _ I1 (turn n σ1 H1 w1)) fun b s2 ⟨H2, I2, q2⟩ => ?_)
  cases b with
  | true =>
    obtain ⟨N, hN, q2⟩ := q2
    rw [if_pos rfl]
    refine wpAny_passesOwn hp (thn (hb pins s2 σ1 H2 _ I2 q2) fun f s3 q3 => ?_)
    cases f with
    | next =>
      obtain ⟨σ3, H3, I3, n3⟩ := q3
      obtain ⟨m', hm, w3⟩ := hN σ3 H3 n3
      exact ⟨m', hm, σ3, H3, I3, w3⟩
    | cont =>
      obtain ⟨σ3, H3, I3, n3⟩ := q3
      obtain ⟨m', hm, w3⟩ := hN σ3 H3 n3
      exact ⟨m', hm, σ3, H3, I3, w3⟩
    | brk => exact q3
    | ret v => exact q3
  | false =>
    rw [if_neg Bool.false_ne_true]
    exact wpAny_execs_nil ⟨σ1, H2, I2, q2⟩
end

/-! ### what a loop or a comprehension walks -/
structure It where
  go : Nat → Hp → Prop
  yld : Nat → Hp → V → Hp → Prop
  stop : Nat → Hp → Prop
def FpOk (X : Cx) (pins : List (Addr × Obj)) (H : Hp) (b : Addr) : Prop :=
  H b = none ∧ b ≠ X.env.locals ∧ b ∉ X.fs ∧ (b ∈ X.ex ∨ X.s₀.heap.objs.size ≤ b) ∧ (∀ x c, X.env.cells.lookup x = some c → c ≠ b) ∧ ∀ p ∈ X.pn ++ pins, p.1 ≠ b
theorem Inv.fpOk {X : Cx} {pins : List (Addr × Obj)} {σ : St} {H H' : Hp} {s : Shared} {b : Addr} (I : Inv X pins σ H s) (hb : s.heap.objs.size ≤ b) (hn : H' b = none) : FpOk X pins H' b := by
  refine ⟨hn, Nat.ne_of_gt (Nat.lt_of_lt_of_le I.lt hb), I.nofs hb, .inr (Nat.le_trans I.sz hb), fun x c e z => ?_, fun p hp z => ?_⟩
  · obtain ⟨v, q⟩ := I.cell x c e
    exact absurd (Nat.lt_of_lt_of_le q.lt (by rw [z]; exact hb)) (Nat.lt_irrefl _)
  · exact absurd (Nat.lt_of_lt_of_le (Heap.lt_size (I.pin p hp).1) (by rw [z]; exact hb)) (Nat.lt_irrefl _)
structure Turn (P : Program) (w : World) (K : PySem.W.Frag) (tg : Expr) (J : It) (fp : List Addr) (it : Addr) (tn : Nat → Heap → Prop) : Prop where
  mem : it ∈ fp
  obj : ∀ i h, tn i h → ∀ b ∈ fp, ∃ o, h.get? b = some o ∧ ∀ v, o.data ≠ .cell v
  keep : ∀ i h h', tn i h → (∀ b ∈ fp, ∀ o, h.get? b = some o → h'.get? b = some o) → tn i h'
  item : ∀ (X : Cx), X.prog = P → X.w = w → X.K = K → X.calm = true → ∀ (i : Nat) (pins : List (Addr × Obj)) (s : Shared) (σ : St) (H : Hp) (E : Value → Shared → Prop), Inv X pins σ H s → (∀ b ∈ fp, FpOk X pins H b) → tn i s.heap → J.go i H →
    wpAny (model P w) X.A (pyNext (.ref it)) (fun r s1 => ∃ u, r = some u ∧
      wpAny (model P w) X.A (letOwnedTupleGo tg (.ref it) u) (fun _ s2 => ∃ x H', Inv X pins σ H' s2 ∧ RelV x u ∧ J.yld i H x H' ∧ tn (i + 1) s2.heap ∧ ∀ b ∈ fp, H' b = none) E s1) E s
  done : ∀ (X : Cx), X.prog = P → X.w = w → X.K = K → X.calm = true → ∀ (i : Nat) (pins : List (Addr × Obj)) (s : Shared) (σ : St) (H : Hp) (E : Value → Shared → Prop), Inv X pins σ H s → (∀ b ∈ fp, FpOk X pins H b) → tn i s.heap → J.stop i H →
    wpAny (model P w) X.A (pyNext (.ref it)) (fun r s1 => r = none ∧ Inv X pins σ H s1) E s
  self : ∀ (A : Around) (i : Nat) (s : Shared) (Q : Value → Shared → Prop) (E : Value → Shared → Prop), tn i s.heap → Q (.ref it) s → wpAny (model P w) A (pyIter (.ref it)) Q E s
abbrev TI := St → Hp → (It → Hp → Prop) → Prop
def PIE (X : Cx) (pins : List (Addr × Obj)) (σ : St) (tg : Expr) (R : It → Hp → Prop) (itv : Value) (s2 : Shared) : Prop :=
  ∃ (it : Addr) (fp : List Addr) (tn : Nat → Heap → Prop) (J : It) (H' : Hp), itv = .ref it ∧ Inv X pins σ H' s2 ∧ Turn X.prog X.w X.K tg J fp it tn ∧ tn 0 s2.heap ∧ (∀ b ∈ fp, FpOk X pins H' b) ∧ R J H'
def PI (X : Cx) (tg iter : Expr) (wi : TI) : Prop :=
  ∀ (pins : List (Addr × Obj)) (s : Shared) (σ : St) (H : Hp) (R : It → Hp → Prop), Inv X pins σ H s → wi σ H R →
    wpAny (model X.prog X.w) X.A (eval iter X.env) (fun v s1 => wpAny (model X.prog X.w) X.A (pyIter v) (PIE X pins σ tg R) X.xe s1) X.xe s

theorem go_of {M : Model} {A : Around} {E : Value → Shared → Prop} {s : Shared} {tg : Expr} {it : Addr} {u : Value} {o : Obj} {n : String} {vs : Array Value} {Q : Unit → Shared → Prop} (ho : s.heap.get? it = some o) (hc : o.cls = .type n) (hd : o.data = .fields vs)
    (hn : ["enumerate", "zip", "dict_itemiterator", "dict_reverseitemiterator", "odict_iterator", "itertools.zip_longest", "itertools.pairwise"].contains n = false) (hQ : Q () s) : wpAny M A (letOwnedTupleGo tg (.ref it) u) Q E s := by
  unfold letOwnedTupleGo
  cases tg <;> first
    | exact wpAny_pure hQ
    | (cases u <;> first
        | exact wpAny_pure hQ
        | (refine wpAny_bind (wpAny_load ho ?_)
           rw [hc, hd]
           show wpAny M A (if (["enumerate", "zip", "dict_itemiterator", "dict_reverseitemiterator", "odict_iterator", "itertools.zip_longest", "itertools.pairwise"].contains n && vs[0]? == some (rawInt _)) = true then _ else _) Q E s
           rw [if_neg (by intro h; rw [hn, Bool.false_and] at h; cases h)]
           exact wpAny_pure hQ))

def Itl (K : PySem.W.Frag) (a : Addr) : It :=
  ⟨fun i H => ∃ xs x, SqL K H a xs ∧ xs[i]? = some x, fun i H x H' => H' = H ∧ ∀ xs, SqL K H a xs → xs[i]? = some x, fun i H => ∃ xs, SqL K H a xs ∧ xs.length ≤ i⟩
theorem turn_list {P : Program} {w : World} {K : PySem.W.Frag} {tg : Expr} (a it : Addr) : Turn P w K tg (Itl K a) [it] it (fun i h => h.IsListIter it a i) where
  mem := by simp
  obj := fun i h st b hb => by
    have e : b = it := by simpa using hb
    subst e
    obtain ⟨o, e, c, d⟩ := st
    exact ⟨o, e, fun v z => by rw [d] at z; cases z⟩
  keep := fun i h h' st k => st.at fun o e => k it (by simp) o e
  item := by
    intro X hP hw hK hc i pins s σ H E I hf st hg
    subst hP hw hK
    obtain ⟨xs, x, hq, hx⟩ := hg
    obtain ⟨its, rv, p, hz⟩ := I.list hq
    obtain ⟨u, hu, ru⟩ := rv.get hx
    obtain ⟨f0, f1, f2, f3, f4, f5⟩ := hf it (by simp)
    refine wpAny_pyNext_list_item st p.isList (x := u) (by simpa using hu) fun h' st' sb => ?_
    have I1 : Inv X pins σ H { s with heap := h' } := I.turned (t' := s.toks) (fun b o hb e => (sb.2 b hb).trans e) f0 f1 f3 f4 f5
    obtain ⟨o, e, c, d⟩ := id st'
    exact ⟨u, rfl, go_of (s := { s with heap := h' }) e c d (by decide) ⟨x, H, I1, ru, ⟨rfl, fun ys hy => by rw [I.list_inj hy hq]; exact hx⟩, st', fun b hb => (hf b hb).1⟩⟩
  done := by
    intro X hP hw hK hc i pins s σ H E I hf st hg
    subst hP hw hK
    obtain ⟨xs, hq, hx⟩ := hg
    obtain ⟨its, rv, p, hz⟩ := I.list hq
    obtain ⟨f0, f1, f2, f3, f4, f5⟩ := hf it (by simp)
    have hl := rv.length
    exact wpAny_pyNext_list_end (I.ok.hd hc) st p.isList (by simp; omega) fun h' eb => ⟨rfl, I.turned (t' := s.toks) (fun b o hb e => eb b o hb e) f0 f1 f3 f4 f5⟩
  self := fun _ _ _ _ _ st h => wpAny_pyIter_listiter st h
end L2

namespace L2
open PySem PySem.Spec PyProof.Rows
section
variable {X : Cx} {tg : Expr}
def iList (K : PySem.W.Frag) (tl : TE) : TI := fun σ H R => tl σ H fun x H1 => ∃ a, x = .ref a ∧ (∃ xs, SqL K H1 a xs) ∧ R (Itl K a) H1
theorem pi_list {l : Expr} {tl : TE} (hl : PE X l tl) : PI X tg l (iList X.K tl) := by
  intro pins s σ H R I h
  refine thn (hl pins s σ H _ I h) fun v s1 ⟨x, H1, I1, r1, q1⟩ => ?_
  obtain ⟨a, e, ⟨xs, hq⟩, q⟩ := q1
  subst e
  cases r1
  obtain ⟨its, rv, p, hz⟩ := I1.list hq
  refine wpAny_pyIter_list p.isList ?_
  refine ⟨s1.heap.objs.size, [s1.heap.objs.size], _, _, H1, rfl, I1.kept (t' := s1.toks) fun b o e => Heap.get?_push_of_some _ e, turn_list a _, ⟨_, Heap.get?_push_size _ rfl, rfl, rfl⟩, fun b hb => ?_, q⟩
  have e : b = s1.heap.objs.size := by simpa using hb
  subst e
  exact I1.fpOk (Nat.le_refl _) (I1.hok.fresh (Nat.le_refl _))
/-! ### for -/
def tFor (wi : TI) (g : TG) (tb : TS) : TS := fun D σ H => wi σ H fun J H1 => ∃ W : Nat → Nat → St → Hp → Prop, (∃ m, W 0 m σ H1) ∧ ∀ i m σ H, W i m σ H →
  (J.stop i H ∧ D.nx σ H) ∨ (J.go i H ∧ ∃ N : St → Hp → Prop, (∀ σ' H', N σ' H' → ∃ m', m' < m ∧ W (i + 1) m' σ' H') ∧ ∀ x H', J.yld i H x H' → g x σ H' fun σ2 H2 => tb { D with nx := N, ct := N, bk := D.nx } σ2 H2)
def pinsAt (fp : List Addr) (h : Heap) : List (Addr × Obj) := fp.filterMap fun b => (h.get? b).map fun o => (b, o)
theorem mem_pinsAt {fp : List Addr} {h : Heap} {b : Addr} {o : Obj} (hb : b ∈ fp) (e : h.get? b = some o) : (b, o) ∈ pinsAt fp h := List.mem_filterMap.mpr ⟨b, hb, by rw [e]; rfl⟩
theorem of_pinsAt {fp : List Addr} {h : Heap} {p : Addr × Obj} (hp : p ∈ pinsAt fp h) : p.1 ∈ fp ∧ h.get? p.1 = some p.2 := by
  obtain ⟨b, hb, e⟩ := List.mem_filterMap.mp hp
  cases q : h.get? b with
  | none => rw [q] at e; cases e
  | some o =>
    rw [q] at e
    have e' : (b, o) = p := Option.some.inj e
    subst e'
    exact ⟨hb, q⟩
theorem Inv.pinned {pins : List (Addr × Obj)} {σ : St} {H : Hp} {s : Shared} {fp : List Addr} (I : Inv X pins σ H s) (hf : ∀ b ∈ fp, FpOk X pins H b) (ho : ∀ b ∈ fp, ∃ o, s.heap.get? b = some o ∧ ∀ v, o.data ≠ .cell v) : Inv X (pins ++ pinsAt fp s.heap) σ H s :=
  I.pins_of fun p hp => (List.mem_append.mp hp).elim (fun z => I.pin p (List.mem_append_right _ z)) fun z => by
    obtain ⟨hb, e⟩ := of_pinsAt z
    obtain ⟨f0, f1, f2, _⟩ := hf p.1 hb
    obtain ⟨o, e', d⟩ := ho p.1 hb
    rw [e] at e'; cases e'
    exact ⟨e, f0, f1, f2, d⟩
theorem Inv.unpinned {pins pl : List (Addr × Obj)} {σ : St} {H : Hp} {s : Shared} (I : Inv X (pins ++ pl) σ H s) : Inv X pins σ H s := I.pins_of fun p hp => I.pin p (List.mem_append_right _ (List.mem_append_left _ hp))
theorem ps_for {iter : Expr} {body : List Stmt} {wi : TI} {g : TG} {tb : TS} {pos : Pos} (hp : PassesOwn (model X.prog X.w) X.A X.env X.xe) (hc : X.calm = true) (hi : PI X tg iter wi) (hg : PG X tg g) (hb : PSs X body tb)
    (hs : ∀ x, foldedSetIterable iter X.env x = pure x := by intro _; rfl) : PS X (.For tg iter body [] pos) (tFor wi g tb) := by
  intro pins s σ H D I h
  refine wpAny_For (thn (hi pins s σ H _ I h) fun v s1 h1 => thn h1 fun itv s2 h2 => ?_) hs
  obtain ⟨it, fp, tn, J, H2, e, I2, T, st2, f2, W, ⟨m0, w0⟩, turn⟩ := h2
  subst e
  -- what stays true of the iterator's objects through the loop
  have stat : ∀ {H' : Hp}, (∀ b ∈ fp, H' b = none) → ∀ b ∈ fp, FpOk X pins H' b := fun hn b hb => ⟨hn b hb, (f2 b hb).2⟩
  refine codeAny_forLoop_any (fun n s' => ∃ i σ' H', Inv X pins σ' H' s' ∧ tn i s'.heap ∧ (∀ b ∈ fp, H' b = none) ∧ W i n σ' H') ?_ m0 ⟨0, σ, H2, I2, st2, fun b hb => (f2 b hb).1, w0⟩
  rintro n s3 ⟨i, σ3, H3, I3, st3, fr3, w3⟩
  rcases turn i n σ3 H3 w3 with ⟨stop, qn⟩ | ⟨go, N, hN, step⟩
  · refine wpAny_passesOwn hp (thn (T.done X rfl rfl rfl hc i pins s3 σ3 H3 X.xe I3 (stat fr3) st3 stop) fun r s4 ⟨hr, I4⟩ => ?_)
    subst hr
    exact wpAny_execs_nil ⟨σ3, H3, I4, qn⟩
  · refine wpAny_passesOwn hp (thn (T.item X rfl rfl rfl hc i pins s3 σ3 H3 X.xe I3 (stat fr3) st3 go) fun r s4 ⟨u, hr, h4⟩ => ?_)
    subst hr
    refine wpAny_passesOwn hp (thn h4 fun _ s5 ⟨x, H5, I5, r5, y5, st5, fr5⟩ => ?_)
    have I5' := I5.pinned (stat fr5) (T.obj _ _ st5)
    refine wpAny_passesOwn hp (thn (hg _ s5 σ3 H5 x u _ I5' r5 (step x H5 y5)) fun _ s6 ⟨σ6, H6, I6, q6⟩ => ?_)
    refine wpAny_passesOwn hp (thn (hb _ s6 σ6 H6 _ I6 q6) fun f s7 q7 => ?_)
    have again : ∀ {σ7 : St} {H7 : Hp}, Inv X (pins ++ pinsAt fp s5.heap) σ7 H7 s7 → N σ7 H7 → ∃ m, m < n ∧ ∃ i σ' H', Inv X pins σ' H' s7 ∧ tn i s7.heap ∧ (∀ b ∈ fp, H' b = none) ∧ W i m σ' H' := fun {σ7 H7} I7 n7 => by
      obtain ⟨m', hm, w7⟩ := hN σ7 H7 n7
      refine ⟨m', hm, i + 1, σ7, H7, I7.unpinned, T.keep _ _ _ st5 fun b hb o e => (I7.pin (b, o) (List.mem_append_right _ (List.mem_append_right _ (mem_pinsAt hb e)))).1, fun b hb => ?_, w7⟩
      obtain ⟨o, e, d⟩ := T.obj _ _ st5 b hb
      exact (I7.pin (b, o) (List.mem_append_right _ (List.mem_append_right _ (mem_pinsAt hb e)))).2.1
    cases f with
    | next => obtain ⟨σ7, H7, I7, n7⟩ := q7; exact again I7 n7
    | cont => obtain ⟨σ7, H7, I7, n7⟩ := q7; exact again I7 n7
    | brk => obtain ⟨σ7, H7, I7, q7⟩ := q7; exact ⟨σ7, H7, I7.unpinned, q7⟩
    | ret v => obtain ⟨x7, σ7, H7, I7, r7, q7⟩ := q7; exact ⟨x7, σ7, H7, I7.unpinned, r7, q7⟩
end

/-! ### the forms one uses -/
theorem for_list {K : PySem.W.Frag} {a : Addr} {xs : List V} {g : TG} {tb : TS} {D : Ends} {σ : St} {H : Hp} (Pv : Nat → St → Hp → Prop) (h0 : Pv 0 σ H) (hl : ∀ i σ H, i ≤ xs.length → Pv i σ H → SqL K H a xs)
    (hs : ∀ i x σ H, xs[i]? = some x → Pv i σ H → g x σ H fun σ2 H2 => tb { D with nx := Pv (i + 1), ct := Pv (i + 1), bk := D.nx } σ2 H2) (hd : ∀ σ H, Pv xs.length σ H → D.nx σ H) :
    ∃ W : Nat → Nat → St → Hp → Prop, (∃ m, W 0 m σ H) ∧ ∀ i m σ H, W i m σ H →
      ((Itl K a).stop i H ∧ D.nx σ H) ∨ ((Itl K a).go i H ∧ ∃ N : St → Hp → Prop, (∀ σ' H', N σ' H' → ∃ m', m' < m ∧ W (i + 1) m' σ' H') ∧ ∀ x H', (Itl K a).yld i H x H' → g x σ H' fun σ2 H2 => tb { D with nx := N, ct := N, bk := D.nx } σ2 H2) := by
  refine ⟨fun i m σ H => m = xs.length - i ∧ i ≤ xs.length ∧ Pv i σ H, ⟨xs.length, by simp, Nat.zero_le _, h0⟩, ?_⟩
  rintro i m σ H ⟨rfl, hi, p⟩
  have q := hl i σ H hi p
  by_cases hlt : i < xs.length
  · refine .inr ⟨⟨xs, xs[i], q, by simp [hlt]⟩, Pv (i + 1), fun σ' H' p' => ⟨xs.length - (i + 1), by omega, rfl, hlt, p'⟩, fun x H' y => ?_⟩
    obtain ⟨e, y⟩ := y
    subst e
    exact hs i x σ _ (y xs q) p
  · have e : i = xs.length := by omega
    subst e
    exact .inl ⟨⟨xs, q, Nat.le_refl _⟩, hd σ H p⟩
end L2

namespace L2
open PySem PySem.Spec PyProof.Rows

abbrev R2 := V → V → Hp → VK → Prop
def OpR (X : Cx) (f : Value → Value → Sem Value) (r : R2) : Prop :=
  ∀ (pins : List (Addr × Obj)) (s : Shared) (σ : St) (H : Hp) (x y : V) (v u : Value) (Q : VK), Inv X pins σ H s → RelV x v → RelV y u → r x y H Q →
    wpAny (model X.prog X.w) X.A (f v u) (EP X pins σ Q) X.xe s
def UnR (X : Cx) (f : Value → Sem Value) (r : V → Hp → VK → Prop) : Prop :=
  ∀ (pins : List (Addr × Obj)) (s : Shared) (σ : St) (H : Hp) (x : V) (v : Value) (Q : VK), Inv X pins σ H s → RelV x v → r x H Q →
    wpAny (model X.prog X.w) X.A (f v) (EP X pins σ Q) X.xe s
def CallR (X : Cx) (f : Value) (r : List V → Hp → VK → Prop) : Prop :=
  ∀ (pins : List (Addr × Obj)) (s : Shared) (σ : St) (H : Hp) (xs : List V) (us : List Value) (Q : VK), Inv X pins σ H s → Vals xs us → r xs H Q →
    wpAny (model X.prog X.w) X.A (call f us) (EP X pins σ Q) X.xe s
def tOp (r : R2) (ta tb : TE) : TE := fun σ H Q => ta σ H fun x H1 => tb σ H1 fun y H2 => r x y H2 Q
def tUn (r : V → Hp → VK → Prop) (ta : TE) : TE := fun σ H Q => ta σ H fun x H1 => r x H1 Q
def rI (C : Int → Int → Prop) (g : Int → Int → V) : R2 := fun x y H Q => ∃ i j, x = .int i ∧ y = .int j ∧ C i j ∧ Q (g i j) H
def rI0 (g : Int → Int → V) : R2 := fun x y H Q => ∃ i j, x = .int i ∧ y = .int j ∧ Q (g i j) H
def rU (g : Int → V) : V → Hp → VK → Prop := fun x H Q => ∃ i, x = .int i ∧ Q (g i) H

section
variable {X : Cx} {a b c : Expr} {ta tb tc : TE} {pos : Pos}

theorem binT (ha : PE X a ta) (hb : PE X b tb) {pins : List (Addr × Obj)} {s : Shared} {σ : St} {H : Hp} {R : V → V → Hp → Prop} (I : Inv X pins σ H s)
    (h : ta σ H fun x H1 => tb σ H1 fun y H2 => R x y H2) {Q : Value → Shared → Prop} {f : Value → Value → Sem Value}
    (hf : ∀ v u s2 x y H2, Inv X pins σ H2 s2 → RelV x v → RelV y u → R x y H2 → wpAny (model X.prog X.w) X.A (f v u) Q X.xe s2) :
    wpAny (model X.prog X.w) X.A (eval a X.env) (fun v s₁ => wpAny (model X.prog X.w) X.A (eval b X.env) (fun u s₂ => wpAny (model X.prog X.w) X.A (f v u) Q X.xe s₂) X.xe s₁) X.xe s := by
  refine thn (ha pins s σ H _ I h) fun v s1 ⟨x, H1, I1, r1, q1⟩ => ?_
  refine thn (hb pins s1 σ H1 _ I1 q1) fun u s2 ⟨y, H2, I2, r2, q2⟩ => ?_
  exact hf v u s2 x y H2 I2 r1 r2 q2

theorem pe_op {op : Operator} {r : R2} (ho : OpR X (binaryOp op) r) (ha : PE X a ta) (hb : PE X b tb) : PE X (.BinOp a op b pos) (tOp r ta tb) := by
  intro pins s σ H Q I h
  exact wpAny_BinOp (binT ha hb I h fun v u s2 x y H2 I2 rx ry q => ho pins s2 σ H2 x y v u Q I2 rx ry q)
theorem pe_un {op : UnaryOp} {r : V → Hp → VK → Prop} (ho : UnR X (unaryOp op) r) (ha : PE X a ta) : PE X (.UnaryOp op a pos) (tUn r ta) := by
  intro pins s σ H Q I h
  exact UnaryOp_ (thn (ha pins s σ H _ I h) fun v s1 ⟨x, H1, I1, r1, q1⟩ => ho pins s1 σ H1 x v Q I1 r1 q1)
/-! ### ints -/
theorem opI {f : Value → Value → Sem Value} {C : Int → Int → Prop} {g : Int → Int → Int}
    (rule : ∀ (i j : Int) (t u : Tok) (s : Shared) (Q : Value → Shared → Prop) (E : Value → Shared → Prop), C i j → Q (.int (g i j) s.toks) { s with toks := s.toks + 1 } → wpAny (model X.prog X.w) X.A (f (.int i t) (.int j u)) Q E s) :
    OpR X f (rI C fun i j => .int (g i j)) := by
  intro pins s σ H x y v u Q I rx ry h
  obtain ⟨i, j, rfl, rfl, hc, q⟩ := h
  obtain ⟨t, rfl⟩ := rx
  obtain ⟨t', rfl⟩ := ry
  exact rule i j t t' s _ _ hc ⟨.int (g i j), H, I.tok _, ⟨_, rfl⟩, q⟩
theorem opI0 {f : Value → Value → Sem Value} {g : Int → Int → Int}
    (rule : ∀ (i j : Int) (t u : Tok) (s : Shared) (Q : Value → Shared → Prop) (E : Value → Shared → Prop), Q (.int (g i j) s.toks) { s with toks := s.toks + 1 } → wpAny (model X.prog X.w) X.A (f (.int i t) (.int j u)) Q E s) :
    OpR X f (rI0 fun i j => .int (g i j)) := by
  intro pins s σ H x y v u Q I rx ry h
  obtain ⟨i, j, rfl, rfl, q⟩ := h
  obtain ⟨t, rfl⟩ := rx
  obtain ⟨t', rfl⟩ := ry
  exact rule i j t t' s _ _ ⟨.int (g i j), H, I.tok _, ⟨_, rfl⟩, q⟩
theorem opB0 {f : Value → Value → Sem Value} {g : Int → Int → Bool}
    (rule : ∀ (i j : Int) (t u : Tok) (s : Shared) (Q : Value → Shared → Prop) (E : Value → Shared → Prop), Q (.bool (g i j)) s → wpAny (model X.prog X.w) X.A (f (.int i t) (.int j u)) Q E s) :
    OpR X f (rI0 fun i j => .bl (g i j)) := by
  intro pins s σ H x y v u Q I rx ry h
  obtain ⟨i, j, rfl, rfl, q⟩ := h
  obtain ⟨t, rfl⟩ := rx
  obtain ⟨t', rfl⟩ := ry
  exact rule i j t t' s _ _ ⟨.bl (g i j), H, I, rfl, q⟩

def CDiv (i j : Int) : Prop := 0 < j ∧ j < 1073741824
def CMul (i j : Int) : Prop := (-(2 ^ 64) < i ∧ i < 2 ^ 64) ∨ (-(2 ^ 64) < j ∧ j < 2 ^ 64)
theorem CMul.ok {i j : Int} (h : CMul i j) : IntMulOk i j := by
  rcases h with ⟨h1, h2⟩ | ⟨h1, h2⟩
  · exact .of_left (intBits_le_64 h1 h2)
  · exact .of_right (intBits_le_64 h1 h2)
theorem op_add : OpR X (binaryOp .Add) (rI0 fun i j => .int (i + j)) := opI0 fun _ _ _ _ _ _ _ q => add_int q
theorem op_sub : OpR X (binaryOp .Sub) (rI0 fun i j => .int (i - j)) := opI0 fun _ _ _ _ _ _ _ q => sub_int q
theorem op_mul : OpR X (binaryOp .Mult) (rI CMul fun i j => .int (i * j)) := opI fun _ _ _ _ _ _ _ hc q => mul_int q hc.ok
theorem op_fdiv : OpR X (binaryOp .FloorDiv) (rI CDiv fun i j => .int (i / j)) := opI fun i j _ _ _ _ _ hc q => by
  have h1 : (0 : Int) < j := hc.1
  have h2 : j < 1073741824 := hc.2
  exact floordiv_int (by omega) (by rw [Int.fdiv_eq_ediv_of_nonneg i (by omega)]; exact q) (.inl (PyProof.noPylong_small (by omega)))
theorem op_mod : OpR X (binaryOp .Mod) (rI (fun _ j => 0 < j) fun i j => .int (i % j)) := opI fun i j _ _ _ _ _ hc q => by
  have h1 : (0 : Int) < j := hc
  exact mod_int' (by omega) (by rw [Int.fmod_eq_emod_of_nonneg i (by omega)]; exact q)
theorem unI {f : Value → Sem Value} {g : Int → Int}
    (rule : ∀ (i : Int) (t : Tok) (s : Shared) (Q : Value → Shared → Prop) (E : Value → Shared → Prop), Q (.int (g i) s.toks) { s with toks := s.toks + 1 } → wpAny (model X.prog X.w) X.A (f (.int i t)) Q E s) :
    UnR X f (rU fun i => .int (g i)) := by
  intro pins s σ H x v Q I rx h
  obtain ⟨i, rfl, q⟩ := h
  obtain ⟨t, rfl⟩ := rx
  exact rule i t s _ _ ⟨.int (g i), H, I.tok _, ⟨_, rfl⟩, q⟩
theorem un_neg : UnR X (unaryOp .USub) (rU fun i => .int (-i)) := unI fun _ _ _ _ _ q => neg_int q
/-! ### bools among ints: n += (a < b) -/
end

/-! ### comparisons -/
def scal : V → V → Bool
  | .non, .non => true | .non, .int _ => true | .int _, .non => true | .non, .bl _ => true | .bl _, .non => true | .non, .str _ => true | .str _, .non => true
  | .int _, .int _ => true | .bl _, .bl _ => true | .str _, .str _ => true | .byt _, .byt _ => true
  | .int _, .str _ => true | .str _, .int _ => true | .bl _, .str _ => true | .str _, .bl _ => true
  | _, _ => false
def rEq : R2 := fun x y H Q => scal x y = true ∧ Q (.bl (decide (x = y))) H
def rNe : R2 := fun x y H Q => scal x y = true ∧ Q (.bl (!decide (x = y))) H

theorem dec_int {i j : Int} : decide (V.int i = V.int j) = (i == j) := by
  rw [Bool.eq_iff_iff]
  simp
theorem dec_bl {i j : Bool} : decide (V.bl i = V.bl j) = (i == j) := by
  rw [Bool.eq_iff_iff]
  simp
theorem dec_str {i j : Str} : decide (V.str i = V.str j) = (i == j) := by
  rw [Bool.eq_iff_iff]
  simp
theorem dec_byt {i j : Array UInt8} : decide (V.byt i = V.byt j) = (i.toList == j.toList) := by
  rw [Bool.eq_iff_iff]
  cases i
  cases j
  simp

section
variable {X : Cx} {a b c : Expr} {ta tb tc : TE} {pos : Pos}
theorem fin_bl {pins : List (Addr × Obj)} {σ : St} {H : Hp} {s : Shared} {Q : VK} {k k' : Bool} (I : Inv X pins σ H s) (q : Q (.bl k) H) (e : k = k') : EP X pins σ Q (.bool k') s := by
  subst e
  exact ⟨.bl k, H, I, rfl, q⟩
theorem op_eq : OpR X (compareOp .Eq) rEq := by
  intro pins s σ H x y v u Q I rx ry h
  obtain ⟨hs, q⟩ := h
  cases x with
  | non =>
    cases rx
    cases y with
    | non => cases ry; exact PySem.EqNone.eq_none_none (fin_bl I q (by simp))
    | bl j => cases ry; exact PySem.EqNone.eq_none_bool (fin_bl I q (by simp))
    | int j => obtain ⟨t', rfl⟩ := ry; exact PySem.EqNone.eq_none_int (fin_bl I q (by simp))
    | str j => obtain ⟨t', rfl⟩ := ry; exact PySem.EqNone.eq_none_str (fin_bl I q (by simp))
    | _ => exact absurd (show false = true from hs) Bool.false_ne_true
  | bl i =>
    cases rx
    cases y with
    | non => cases ry; exact PySem.EqNone.eq_bool_none (fin_bl I q (by simp))
    | bl j => cases ry; exact eq_bool (fin_bl I q dec_bl)
    | str j => obtain ⟨t', rfl⟩ := ry; exact PySem.EqMixed.eq_bool_str (fin_bl I q (by simp))
    | _ => exact absurd (show false = true from hs) Bool.false_ne_true
  | int i =>
    obtain ⟨t, rfl⟩ := rx
    cases y with
    | non => cases ry; exact PySem.EqNone.eq_int_none (fin_bl I q (by simp))
    | int j => obtain ⟨t', rfl⟩ := ry; exact eq_int (fin_bl I q dec_int)
    | str j => obtain ⟨t', rfl⟩ := ry; exact PySem.EqMixed.eq_int_str (fin_bl I q (by simp))
    | _ => exact absurd (show false = true from hs) Bool.false_ne_true
  | str i =>
    obtain ⟨t, rfl⟩ := rx
    cases y with
    | non => cases ry; exact PySem.EqNone.eq_str_none (fin_bl I q (by simp))
    | bl j => cases ry; exact PySem.EqMixed.eq_str_bool (fin_bl I q (by simp))
    | int j => obtain ⟨t', rfl⟩ := ry; exact PySem.EqMixed.eq_str_int (fin_bl I q (by simp))
    | str j => obtain ⟨t', rfl⟩ := ry; exact eq_str (fin_bl I q dec_str)
    | _ => exact absurd (show false = true from hs) Bool.false_ne_true
  | byt i =>
    obtain ⟨t, rfl⟩ := rx
    cases y with
    | byt j => obtain ⟨t', rfl⟩ := ry; exact PySem.W.eq_bytes (fin_bl I q dec_byt)
    | _ => exact absurd (show false = true from hs) Bool.false_ne_true
  | _ => cases y <;> exact absurd (show false = true from hs) Bool.false_ne_true
theorem op_ne : OpR X (compareOp .NotEq) rNe := by
  intro pins s σ H x y v u Q I rx ry h
  obtain ⟨hs, q⟩ := h
  cases x with
  | non =>
    cases rx
    cases y with
    | non => cases ry; exact PySem.EqNone.ne_none_none (fin_bl I q (by simp))
    | bl j => cases ry; exact PySem.EqNone.ne_none_bool (fin_bl I q (by simp))
    | int j => obtain ⟨t', rfl⟩ := ry; exact PySem.EqNone.ne_none_int (fin_bl I q (by simp))
    | str j => obtain ⟨t', rfl⟩ := ry; exact PySem.EqNone.ne_none_str (fin_bl I q (by simp))
    | _ => exact absurd (show false = true from hs) Bool.false_ne_true
  | bl i =>
    cases rx
    cases y with
    | non => cases ry; exact PySem.EqNone.ne_bool_none (fin_bl I q (by simp))
    | bl j => cases ry; exact ne_bool (fin_bl I q (congrArg not dec_bl))
    | str j => obtain ⟨t', rfl⟩ := ry; exact PySem.EqMixed.ne_bool_str (fin_bl I q (by simp))
    | _ => exact absurd (show false = true from hs) Bool.false_ne_true
  | int i =>
    obtain ⟨t, rfl⟩ := rx
    cases y with
    | non => cases ry; exact PySem.EqNone.ne_int_none (fin_bl I q (by simp))
    | int j => obtain ⟨t', rfl⟩ := ry; exact ne_int (fin_bl I q (congrArg not dec_int))
    | str j => obtain ⟨t', rfl⟩ := ry; exact PySem.EqMixed.ne_int_str (fin_bl I q (by simp))
    | _ => exact absurd (show false = true from hs) Bool.false_ne_true
  | str i =>
    obtain ⟨t, rfl⟩ := rx
    cases y with
    | non => cases ry; exact PySem.EqNone.ne_str_none (fin_bl I q (by simp))
    | bl j => cases ry; exact PySem.EqMixed.ne_str_bool (fin_bl I q (by simp))
    | int j => obtain ⟨t', rfl⟩ := ry; exact PySem.EqMixed.ne_str_int (fin_bl I q (by simp))
    | str j => obtain ⟨t', rfl⟩ := ry; exact ne_str (fin_bl I q (congrArg not dec_str))
    | _ => exact absurd (show false = true from hs) Bool.false_ne_true
  | byt i =>
    obtain ⟨t, rfl⟩ := rx
    cases y with
    | byt j => obtain ⟨t', rfl⟩ := ry; exact PySem.W.ne_bytes (fin_bl I q (congrArg not dec_byt))
    | _ => exact absurd (show false = true from hs) Bool.false_ne_true
  | _ => cases y <;> exact absurd (show false = true from hs) Bool.false_ne_true

theorem op_lt : OpR X (compareOp .Lt) (rI0 fun i j => .bl (decide (i < j))) := opB0 fun _ _ _ _ _ _ _ q => lt_int q
theorem op_le : OpR X (compareOp .LtE) (rI0 fun i j => .bl (decide (i ≤ j))) := opB0 fun _ _ _ _ _ _ _ q => le_int q
theorem op_gt : OpR X (compareOp .Gt) (rI0 fun i j => .bl (decide (j < i))) := opB0 fun _ _ _ _ _ _ _ q => gt_int q
theorem op_ge : OpR X (compareOp .GtE) (rI0 fun i j => .bl (decide (j ≤ i))) := opB0 fun _ _ _ _ _ _ _ q => ge_int q
theorem op_isN : OpR X (compareOp .Is) (fun x y H Q => y = .non ∧ Q (.bl (decide (x = .non))) H) := by
  intro pins s σ H x y v u Q I rx ry h
  obtain ⟨rfl, q⟩ := h
  cases ry
  refine is_none_gen (fin_bl I q ?_)
  cases x <;> first
    | (cases rx; rfl)
    | (obtain ⟨t, rfl⟩ := rx; rfl)
theorem nomark (b : Expr) {op : CmpOp} (h : op ≠ .In := by decide) (h2 : op ≠ .NotIn := by decide) : behindInMarks op b = false := by
  have e1 : (op == CmpOp.In) = false := by cases op <;> first | rfl | exact absurd rfl h
  have e2 : (op == CmpOp.NotIn) = false := by cases op <;> first | rfl | exact absurd rfl h2
  cases b <;> simp [behindInMarks, e1, e2]
theorem pe_cmpR {op : CmpOp} {r : R2} (ho : OpR X (compareOp op) r) (ha : PE X a ta) (hb : PE X b tb) (hm : behindInMarks op b = false) : PE X (.Compare a [op] [b] pos) (tOp r ta tb) := by
  intro pins s σ H Q I h
  exact wpAny_Compare1 (binT ha hb I h fun v u s2 x y H2 I2 rx ry q => ho pins s2 σ H2 x y v u Q I2 rx ry q) hm
def tTest (t : TE) : TT := fun σ H Q => t σ H fun x H' => ∃ k, x = .bl k ∧ Q k H'
theorem pt_cmpR {op : CmpOp} {r : R2} (ho : OpR X (compareOp op) r) (ha : PE X a ta) (hb : PE X b tb) (hm : behindInMarks op b = false) : PT X (.Compare a [op] [b] pos) (tTest (tOp r ta tb)) := by
  intro pins s σ H Q I h
  refine wpAny_isTrue_Compare1 (thn (ha pins s σ H _ I h) fun v s1 ⟨x, H1, I1, r1, q1⟩ => thn (hb pins s1 σ H1 _ I1 q1) fun u s2 ⟨y, H2, I2, r2, q2⟩ =>
    thn (ho pins s2 σ H2 x y v u _ I2 r1 r2 q2) fun c s3 ⟨z, H3, I3, r3, k, e, q3⟩ => ?_) hm
  subst e
  cases r3
  exact wpAny_truthy_bool ⟨H3, I3, q3⟩
def tChain (r r' : R2) (ta tb tc : TE) : TE := fun σ H Q => ta σ H fun x H1 => tb σ H1 fun y H2 => r x y H2 fun z H3 => ∃ k, z = .bl k ∧
  (if k = true then tc σ H3 fun w' H4 => r' y w' H4 Q else Q (.bl false) H3)
theorem pe_chain {op op' : CmpOp} {r r' : R2} (ho : OpR X (compareOp op) r) (ho' : OpR X (compareOp op') r') (ha : PE X a ta) (hb : PE X b tb) (hc : PE X c tc)
    (hm : lastMarks [op, op'] [b, c] = false := by with_unfolding_all rfl) : PE X (.Compare a [op, op'] [b, c] pos) (tChain r r' ta tb tc) := by
  intro pins s σ H Q I h
  refine Compare_chain (thn (ha pins s σ H _ I h) fun v s1 ⟨x, H1, I1, r1, q1⟩ => chain_link (thn (hb pins s1 σ H1 _ I1 q1) fun u s2 ⟨y, H2, I2, r2, q2⟩ =>
    thn (ho pins s2 σ H2 x y v u _ I2 r1 r2 q2) fun d s3 ⟨z, H3, I3, r3, k, e, q3⟩ => ?_)) hm
  subst e
  cases r3
  refine wpAny_truthy_bool ?_
  cases k with
  | false => exact ite_ff ⟨.bl false, H3, I3, rfl, q3⟩
  | true => exact ite_tt (chain_last (thn (hc pins s3 σ H3 _ I3 q3) fun w' s4 ⟨z', H4, I4, r4, q4⟩ => ho' pins s4 σ H4 y z' u w' Q I4 r2 r4 q4))
/-! ### truth -/
theorem line63 : (sizeLine : Nat) < 2 ^ 63 := by rw [sizeLine_eq]; decide
/-! ### strs and bytes -/
theorem op_add_str : OpR X (binaryOp .Add) (fun x y H Q => ∃ i j, x = .str i ∧ y = .str j ∧ i.length + j.length ≤ sizeLine ∧ Q (.str (i ++ j)) H) := by
  intro pins s σ H x y v u Q I rx ry h
  obtain ⟨i, j, rfl, rfl, hz, q⟩ := h
  obtain ⟨t, rfl⟩ := rx
  obtain ⟨t', rfl⟩ := ry
  exact add_str (fun t' tk => ⟨.str (i ++ j), H, I.tok _, ⟨_, rfl⟩, q⟩) hz
/-! ### scalar builtins, by CallR -/
theorem vals1 {x : V} {us : List Value} (r : Vals [x] us) : ∃ u, us = [u] ∧ RelV x u := by
  cases r with
  | cons r1 r2 => cases r2; exact ⟨_, rfl, r1⟩
theorem vals2 {x y : V} {us : List Value} (r : Vals [x, y] us) : ∃ u w', us = [u, w'] ∧ RelV x u ∧ RelV y w' := by
  cases r with
  | cons r1 r2 =>
    cases r2 with
    | cons r3 r4 => cases r4; exact ⟨_, _, rfl, r1, r3⟩
theorem call_max2 (hc : X.calm = true) : CallR X (.builtin "max") (fun xs H Q => ∃ i j, xs = [.int i, .int j] ∧ Q (.int (if j > i then j else i)) H) := by
  intro pins s σ H xs us Q I r h
  obtain ⟨i, j, rfl, q⟩ := h
  obtain ⟨u, w', rfl, ⟨t, rfl⟩, ⟨t', rfl⟩⟩ := vals2 r
  refine max_two_ints (I.ok.hd hc) fun h' tk k => ⟨_, H, I.kept k, ?_, q⟩
  by_cases hj : j > i
  · rw [if_pos hj, if_pos hj]; exact ⟨_, rfl⟩
  · rw [if_neg hj, if_neg hj]; exact ⟨_, rfl⟩
theorem call_min2 (hc : X.calm = true) : CallR X (.builtin "min") (fun xs H Q => ∃ i j, xs = [.int i, .int j] ∧ Q (.int (if j < i then j else i)) H) := by
  intro pins s σ H xs us Q I r h
  obtain ⟨i, j, rfl, q⟩ := h
  obtain ⟨u, w', rfl, ⟨t, rfl⟩, ⟨t', rfl⟩⟩ := vals2 r
  refine min_two_ints (I.ok.hd hc) fun h' tk k => ⟨_, H, I.kept k, ?_, q⟩
  by_cases hj : j < i
  · rw [if_pos hj, if_pos hj]; exact ⟨_, rfl⟩
  · rw [if_neg hj, if_neg hj]; exact ⟨_, rfl⟩
end
end L2

namespace L2
open PySem PySem.Spec PyProof.Rows

/-! ### an instance, its attributes a map -/
structure ObjM (h : Heap) (x dx C : Addr) (mA : Str → Option Value) : Prop where
  obj : h.get? x = some (PySem.W.instObj C dx)
  ns : h.Ns1 dx mA
  ne : dx ≠ x

theorem lookIn_ns {h : Heap} {dx : Addr} {mA : Str → Option Value} (n : h.Ns1 dx mA) : ∃ od, h.get? dx = some od ∧ ∀ name, PySem.W.lookIn name od = some (mA name) := by
  obtain ⟨o, es, ep, ho, hd, hk, _, hm⟩ := n
  refine ⟨o, ho, fun name => ?_⟩
  have e := hm name
  unfold nsFind findBy at e
  rw [← Array.find?_toList] at e
  unfold PySem.W.lookIn
  rw [hd]
  dsimp only
  split
  · rename_i y q
    rw [q] at e
    exact congrArg some e
  · rename_i q
    rw [q] at e
    have a : es.toList.any (·.refKey) = false := by
      rw [List.any_eq_false]
      intro y hy
      obtain ⟨z, t, hkey⟩ := hk y (Array.mem_toList_iff.mp hy)
      simp [DictEntry.refKey, hkey]
    have a' : ¬ es.toList.any (·.refKey) = true := by rw [a]; exact Bool.false_ne_true
    rw [if_neg a']
    exact congrArg some e

theorem ObjM.look {h : Heap} {x dx C : Addr} {mA : Str → Option Value} (I : ObjM h x dx C mA) : ∃ od, PySem.W.InstAt h x (PySem.W.instObj C dx) C (some od) ∧ ∀ name, PySem.W.lookIn name od = some (mA name) :=
  let ⟨od, ho, hl⟩ := lookIn_ns I.ns
  ⟨od, ⟨I.obj, rfl, rfl, ho⟩, hl⟩

section
variable {prog : Program} {w : World} {A : Around} {E : Value → Shared → Prop} {s : Shared} {K : PySem.W.Frag} {x dx C f : Addr} {mA : Str → Option Value} {name : Str} {v : Value}

end

/-! ### the attributes as a list of pairs -/
section
variable {P : Program} {w : World} {H H' : Hp} {h h' : Heap} {a C dx : Addr} {fs fs' : List (Str × V)}
theorem ins_get (hok : HOk P w H h) (e : H a = some (.ins C dx fs)) : ∃ mA, ObjM h a dx C mA ∧ (∀ f, RelO (fs.lookup f) (mA f)) ∧ PySem.Within mA (fs.map (·.1)) ∧ fs.length ≤ 1000 ∧ H dx = some (.own a) := by
  obtain ⟨d, z, ne, ob, mA, n, r, q⟩ := (show ObjOk P w H h a (.ins C dx fs) from hok a _ e)
  exact ⟨mA, ⟨ob, n, ne⟩, r, q, z, d⟩
end

/-! ### what of the text a class must have -/
structure Cls (K : PySem.W.Frag) (C : Addr) : Prop where
  pg : PySem.W.plainGet K C Str.empty = true
  hd : PySem.W.hasDictIn K C = true
  po : PySem.W.plainOver K C = true
  sa : PySem.W.findIn K (.ref C) "__setattr__" = some (some (.builtin "object.__setattr__"))
theorem Cls.get {K : PySem.W.Frag} {C : Addr} (c : Cls K C) (f : Str) : PySem.W.plainGet K C f = true := c.pg
section
variable {X : Cx} {pins : List (Addr × Obj)} {σ : St} {H : Hp} {s : Shared} {a C dx : Addr} {fs : List (Str × V)} {f : Str} {v : V} {A : Around} {E : Value → Shared → Prop}

end

/-! ### readings and rules -/
section
variable {X : Cx} {o e value : Expr} {f : Str} {pos pos' tpos : Pos} {ta tv : TE}
end

/-! ### isinstance -/
section
variable {X : Cx} {pins : List (Addr × Obj)} {σ : St} {H : Hp} {s : Shared} {A : Around} {E : Value → Shared → Prop} {Q : Value → Shared → Prop} {c : Value} {b : Bool}
inductive TyOf (K : PySem.W.Frag) (H : Hp) : V → Value → Prop where
  | non : TyOf K H .non (.type "NoneType")
  | bl (x : Bool) : TyOf K H (.bl x) (.type "bool")
  | int (i : Int) : TyOf K H (.int i) (.type "int")
  | str (x : Str) : TyOf K H (.str x) (.type "str")
  | flt (x : UInt64) : TyOf K H (.flt x) (.type "float")
  | lst {a : Addr} {xs : List V} (e : H a = some (.lst xs)) : TyOf K H (.ref a) (.type "list")
  | frz {a : Addr} {o : Obj} {xs : List V} (e : H a = some (.frz o (.lst xs))) : TyOf K H (.ref a) (.type "list")
  | tup {a : Addr} {xs : List V} (e : H a = some (.tup xs)) : TyOf K H (.ref a) (.type "tuple")
  | dK {a : Addr} {kvs : List (Key × V)} (e : H a = some (.dK kvs)) : TyOf K H (.ref a) (.type "dict")
  | dT {a : Addr} {kvs : List (List Key × V)} (e : H a = some (.dT kvs)) : TyOf K H (.ref a) (.type "dict")
  | ins {a C dx : Addr} {fs : List (Str × V)} (e : H a = some (.ins C dx fs)) (cl : Cls K C) (ha : PySem.W.findIn K (.ref C) "__class__" = some (some (.builtin "object.__class__")))
      (hn : PySem.W.specialIn K (.builtin "object.__class__") "__get__" = some (some (.builtin "getset_descriptor.__get__"))) (htk : PySem.W.takesIn K (.builtin "object.__class__") = some true)
      (hm : PySem.W.mroIn K C (.type "object") = some true) : TyOf K H (.ref a) (.ref C)
theorem isinst_ok {x : V} {u t : Value} (I : Inv X pins σ H s) (rx : RelV x u) (ty : TyOf X.K H x t) (e : PySem.W.kitOne X.K t c = some b) (h : ∀ tk, Q (.bool b) { s with toks := tk }) :
    wpAny (model X.prog X.w) A (call (.builtin "isinstance") [u, c]) Q E s := by
  cases ty with
  | non => cases (show u = Value.none from rx); exact PySem.W.kia_one PySem.W.kitx_none I.kIn True.intro e (fun z => nomatch z) h
  | bl y => cases (show u = Value.bool y from rx); exact PySem.W.kia_one PySem.W.kitx_bool I.kIn True.intro e (fun z => nomatch z) h
  | int i => obtain ⟨t, q⟩ := (show ∃ t, u = Value.int i t from rx); cases q; exact PySem.W.kia_one PySem.W.kitx_int I.kIn True.intro e (fun z => nomatch z) h
  | str y => obtain ⟨t, q⟩ := (show ∃ t, u = Value.str y t from rx); cases q; exact PySem.W.kia_one PySem.W.kitx_str I.kIn True.intro e (fun z => nomatch z) h
  | flt y => obtain ⟨t, q⟩ := (show ∃ t, u = Value.float y t from rx); cases q; exact PySem.W.kia_one PySem.W.kitx_float I.kIn True.intro e (fun z => nomatch z) h
  | @lst a xs ea =>
    cases (show u = Value.ref a from rx)
    obtain ⟨_, _, n, _, h1⟩ := (show ObjOk X.prog X.w H s.heap a (.lst xs) from I.hok a _ ea)
    exact PySem.W.kia_one PySem.W.kitx_list I.kIn ⟨_, h1, rfl⟩ e (fun z => nomatch z) h
  | @frz a ob xs ea =>
    cases (show u = Value.ref a from rx)
    obtain ⟨_, _, _, n, _, h1⟩ := (show ObjOk X.prog X.w H s.heap a (.frz ob (.lst xs)) from I.hok a _ ea)
    exact PySem.W.kia_one PySem.W.kitx_list I.kIn ⟨_, h1, rfl⟩ e (fun z => nomatch z) h
  | @tup a xs ea =>
    cases (show u = Value.ref a from rx)
    obtain ⟨_, _, _, p⟩ := (show ObjOk X.prog X.w H s.heap a (.tup xs) from I.hok a _ ea)
    obtain ⟨o, h1, h2, _⟩ := p
    exact PySem.W.kia_one PySem.W.kitx_tuple I.kIn ⟨o, h1, h2⟩ e (fun z => nomatch z) h
  | @dK a kvs ea =>
    cases (show u = Value.ref a from rx)
    obtain ⟨_, _, vs, _, p⟩ := (show ObjOk X.prog X.w H s.heap a (.dK kvs) from I.hok a _ ea)
    obtain ⟨o, es, ep, h1, h2, _⟩ := p
    exact PySem.W.kia_one PySem.W.kitx_dict I.kIn ⟨o, h1, h2.1⟩ e (fun z => nomatch z) h
  | @dT a kvs ea =>
    cases (show u = Value.ref a from rx)
    obtain ⟨_, _, xs, _, o, es, ep, h1, h2, _⟩ := (show ObjOk X.prog X.w H s.heap a (.dT kvs) from I.hok a _ ea)
    exact PySem.W.kia_one PySem.W.kitx_dict I.kIn ⟨o, h1, h2.1⟩ e (fun z => nomatch z) h
  | @ins a C dx fs ea cl ha hn htk hm =>
    cases (show u = Value.ref a from rx)
    obtain ⟨mA, O, _⟩ := ins_get I.hok ea
    obtain ⟨od, J, _⟩ := O.look
    exact PySem.W.kia_one (PySem.W.kitx_own (cl.get _) cl.hd ha hn htk hm) I.kIn J e (fun z => nomatch z) h
end
end L2

namespace L2
open PySem PySem.Spec PyProof.Rows

/-! ### room -/
structure Room (k : Nat) (A : Around) : Prop where
  hd : A.handled = none
  dp : A.depth + 3 * k + 5 < recursionLimit
  un : A.units + 16 * k + 200 < cLine
theorem Room.mono {j k : Nat} {A : Around} (r : Room k A) (h : j ≤ k) : Room j A := ⟨r.hd, by have := r.dp; omega, by have := r.un; omega⟩
theorem Room.deeper {k : Nat} {A : Around} (r : Room (k + 1) A) (env : Env) : Room k (A.deeper env) :=
  ⟨r.hd, by have := r.dp; show A.depth + 1 + 3 * k + 5 < _; omega, by have := r.un; show A.units + 3 + 16 * k + 200 < _; omega⟩
theorem Room.depth {k : Nat} {A : Around} (r : Room k A) : A.depth < recursionLimit := by have := r.dp; omega
theorem Room.units {k : Nat} {A : Around} (r : Room k A) : A.units + 64 < cLine := by have := r.un; omega
/-! ### argument lists and displays -/
def tNil : TA := fun _ H Q => Q [] H
def tCons (ta : TE) (tr : TA) : TA := fun σ H Q => ta σ H fun x H1 => tr σ H1 fun xs H2 => Q (x :: xs) H2
section
variable {X : Cx} {e : Expr} {es : List Expr} {te : TE} {t : TA} {pos : Pos}
theorem pa_nil : PA X [] tNil := fun _ _ _ _ H Q I h => Calls.spliced_nil ⟨[], H, I, .nil, h⟩
theorem pa_cons (ha : PE X e te) (hr : PA X es t) (hs : starEach (e :: es) X.env = (false, eval e X.env) :: starEach es X.env := by rfl) : PA X (e :: es) (tCons te t) := by
  intro pos pins s σ H Q I h
  rw [hs]
  show wpAny _ _ (spliced ((false, eval e X.env) :: backTo pos (starEach es X.env))) _ _ s
  refine Calls.spliced_cons (thn (ha pins s σ H _ I h) fun u s1 ⟨x, H1, I1, r1, q1⟩ => ?_)
  exact thn (hr pos pins s1 σ H1 _ I1 q1) fun us s2 ⟨xs, H2, I2, r2, q2⟩ => ⟨x :: xs, H2, I2, .cons r1 r2, q2⟩

def tTup (t : TA) : TE := fun σ H Q => t σ H fun xs H1 => xs.length ≤ sizeLine ∧ ∀ p, H1 p = none → Q (.ref p) (upd H1 p (.tup xs))
def tLst (t : TA) : TE := fun σ H Q => t σ H fun xs H1 => xs.length ≤ sizeLine ∧ ∀ p, H1 p = none → Q (.ref p) (upd H1 p (.lst xs))
theorem pe_tup {x1} (h : PA X es t) : PE X (.Tuple es x1 pos) (tTup t) := by
  intro pins s σ H Q I hq
  refine wpAny_Tuple_spliced (thn (h pos pins s σ H _ I hq) fun us s1 ⟨xs, H1, I1, r, z, q⟩ => ⟨by rw [← r.length]; exact z, ?_⟩)
  have hf : H1 s1.heap.objs.size = none := I1.hok.fresh (Nat.le_refl _)
  refine ⟨.ref s1.heap.objs.size, upd H1 s1.heap.objs.size (.tup xs), I1.laid (t' := s1.toks) (fun b u e => Heap.get?_push_of_some _ e) (Nat.le_refl _) ?_, rfl, q _ hf⟩
  exact ⟨z, us, r, ⟨_, Heap.get?_push_size _ rfl, rfl, _, rfl⟩⟩
theorem pe_lst (h : PA X es t) : PE X (.List es pos) (tLst t) := by
  intro pins s σ H Q I hq
  refine wpAny_List_spliced (thn (h pos pins s σ H _ I hq) fun us s1 ⟨xs, H1, I1, r, z, q⟩ => ⟨by rw [← r.length]; exact z, ?_⟩)
  have hf : H1 s1.heap.objs.size = none := I1.hok.fresh (Nat.le_refl _)
  refine ⟨.ref s1.heap.objs.size, upd H1 s1.heap.objs.size (.lst xs), I1.laid (t' := s1.toks) (fun b u e => Heap.get?_push_of_some _ e) (Nat.le_refl _) ?_, rfl, q _ hf⟩
  exact ⟨z, us, 0, r, Heap.get?_push_size _ rfl⟩
end

/-! ### what a def promises -/
abbrev Sp := List V → Hp → VK → XK → Prop
abbrev CXT := List Env → Hp → Shared → XK → Value → Shared → Prop

structure Env0 (P : Program) (w : World) (K : PySem.W.Frag) (mg : Str → Option Value) (base : Heap) (A : Around) (outer : List Env) (s : Shared) (H : Hp) : Prop where
  frames : A.frames = some outer
  mod : Mod K mg base
  bs : ∀ b o, base.get? b = some o → s.heap.get? b = some o ∧ H b = none
  bsz : base.objs.size ≤ s.heap.objs.size
  funs : s.heap.FunFrames base outer
  frf : ∀ b ∈ frs outer, H b = none
  hok : HOk P w H s.heap
  bare : AllBare s.gens
def CE (outer : List Env) (P : Program) (w : World) (H : Hp) (s : Shared) (Q : VK) (u : Value) (s' : Shared) : Prop :=
  ∃ v H', s'.os = s.os ∧ AllBare s'.gens ∧ Un (frs outer) [] H H' s.heap s'.heap ∧ HOk P w H' s'.heap ∧ RelV v u ∧ Q v H'
def CR (CX : CXT) (outer : List Env) (P : Program) (w : World) (H : Hp) (s : Shared) (Q : VK) (E : XK) (r : Result) (s' : Shared) : Prop :=
  match r with
  | .ok (.ret u) => CE outer P w H s Q u s'
  | .ok _ => False
  | .error e => CX outer H s E e s'
structure FnOk (P : Program) (w : World) (K : PySem.W.Frag) (mg : Str → Option Value) (base : Heap) (CX : CXT) (k : Nat) (f : Addr) (fd : FuncData) (ps : List Str) (sp : Sp) : Prop where
  len : ∀ vs H Q E, sp vs H Q E → vs.length = ps.length
  run : ∀ (A : Around) (outer : List Env) (s : Shared) (H : Hp) (args : Args) (us : List Value) (vs : List V) (Q : VK) (E : XK), Room k A → Env0 P w K mg base A outer s H → BindsTo s fd args (ps.zip us) → Vals vs us → sp vs H Q E →
    codeAny (model P w) A (.call (.ref f) args) (CR CX outer P w H s Q E) s
theorem FnOk.imp {P : Program} {w : World} {K : PySem.W.Frag} {mg : Str → Option Value} {base : Heap} {CX : CXT} {k : Nat} {f : Addr} {fd : FuncData} {ps : List Str} {sp sp' : Sp} (F : FnOk P w K mg base CX k f fd ps sp)
    (h : ∀ vs H Q E, sp' vs H Q E → sp vs H Q E) : FnOk P w K mg base CX k f fd ps sp' :=
  ⟨fun vs H Q E q => F.len vs H Q E (h _ _ _ _ q), fun A outer s H args us vs Q E hr he hb hv hs => F.run A outer s H args us vs Q E hr he hb hv (h _ _ _ _ hs)⟩

section
variable {X : Cx} {pins : List (Addr × Obj)} {σ : St} {H : Hp} {s s' : Shared}
theorem Inv.env0 (I : Inv X pins σ H s) : Env0 X.prog X.w X.K X.mg X.base X.A X.stack s H :=
  ⟨I.ok.frames, I.ok.mod, I.bs, Nat.le_trans I.ok.bsz I.sz, I.stack, I.stkFree, I.hok, I.bare⟩
theorem Inv.after {Q : VK} {u : Value} (I : Inv X pins σ H s) (h : CE X.stack X.prog X.w H s Q u s') : EP X pins σ Q u s' := by
  obtain ⟨v, H', os, bare, un, hok, r, q⟩ := h
  obtain ⟨hh, g, d, t, os'⟩ := s'
  obtain rfl : os' = s.os := os
  exact ⟨v, H', I.call (h' := hh) (g' := g) (d' := d) (t' := t) (ch := []) un hok bare (fun b z => absurd z (by simp)), r, q⟩
end

/-! ### calls -/
def tCall (sp : Sp) (dvs : List V) (E : XK) (t : TA) : TE := fun σ H Q => t σ H fun vs H1 => sp (vs ++ dvs) H1 Q E
def Binds (K : PySem.W.Frag) (fd : FuncData) (ps : List Str) (ds : List Value) : Prop :=
  ∀ (s : Shared) (us : List Value), K.In s.heap → (us ++ ds).length = ps.length → BindsTo s fd ⟨us, []⟩ (ps.zip (us ++ ds))
theorem Binds.all {K : PySem.W.Frag} {fd : FuncData} {ps : List Str} (h : ∀ us : List Value, us.length = ps.length → bindArgs fd ⟨us, []⟩ = pure (ps.zip us)) : Binds K fd ps [] := fun s us _ hl => by
  rw [List.append_nil] at hl ⊢
  exact .of_eq (h us hl)

def Passes (CX : CXT) (X : Cx) (E : XK) : Prop := ∀ (pins : List (Addr × Obj)) (σ : St) (H : Hp) (s : Shared) (e : Value) (s' : Shared), Inv X pins σ H s → CX X.stack H s E e s' → X.xe e s'

section
variable {X : Cx} {CX : CXT} {k : Nat} {f C : Addr} {fd : FuncData} {ps : List Str} {sp : Sp} {dvs : List V} {ds : List Value} {E : XK} {x m : Str} {p pos apos : Pos} {e o : Expr} {es : List Expr} {ta : TE} {t : TA}

theorem run_fn {pins : List (Addr × Obj)} {σ : St} {H : Hp} {s : Shared} {Q : VK} {us : List Value} {vs : List V} (F : FnOk X.prog X.w X.K X.mg X.base CX k f fd ps sp) (hr : Room k X.A) (hb : Binds X.K fd ps ds) (hd : Vals dvs ds) (hx : Passes CX X E)
    (I : Inv X pins σ H s) (r : Vals vs us) (h : sp (vs ++ dvs) H Q E) : wpAny (model X.prog X.w) X.A (call (.ref f) us) (EP X pins σ Q) X.xe s := by
  have r2 : Vals (vs ++ dvs) (us ++ ds) := r.append hd
  have hl : (us ++ ds).length = ps.length := by rw [← r2.length]; exact F.len _ _ _ _ h
  refine wpAny_call (codeAny_mono (F.run X.A X.stack s H ⟨us, []⟩ (us ++ ds) (vs ++ dvs) Q E hr I.env0 (hb s us I.kIn hl) r2 h) fun r s' hq => ?_)
  cases r with
  | error e => exact hx pins σ H s e s' I hq
  | ok fl =>
    cases fl with
    | ret u => exact I.after hq
    | next => exact False.elim hq
    | brk => exact False.elim hq
    | cont => exact False.elim hq

theorem pe_call (F : FnOk X.prog X.w X.K X.mg X.base CX k f fd ps sp) (hr : Room k X.A) (hg : Gl X x) (hm : X.mg x = some (.ref f)) (hk : PySem.W.keepIn X.K (.ref f) = true) (hb : Binds X.K fd ps ds) (hd : Vals dvs ds) (hx : Passes CX X E)
    (ha : PA X (e :: es) t) (hdb : (x == ("__debug__" : Str)) = false := by decide) (he : starEach (e :: es) X.env = (false, eval e X.env) :: starEach es X.env := by rfl) (hpl : (backTo pos (starEach es X.env)).any (·.1) = false := by rfl) :
    PE X (.Call (.Name x p) (e :: es) [] pos) (tCall sp dvs E t) := by
  intro pins s σ H Q I h
  refine wpAny_Call_Name_kw (ld_glob I hg hm ?_ hdb)
  refine PySem.W.callWith_K (h₀ := X.base) I.ok.mod.kin hk (thn (ha pos pins s σ H _ I h) fun us s1 ⟨vs, H1, I1, r, q⟩ => ⟨I1.kIn, ?_⟩) he hpl
  exact run_fn F hr hb hd hx I1 r q
end

/-! ### keywords -/
section
variable {X : Cx} {CX : CXT} {k : Nat} {f C : Addr} {fd : FuncData} {ps ks : List Str} {sp : Sp} {E : XK} {x m : Str} {p pos apos kpos : Pos} {e o : Expr} {es : List Expr} {kws : List Keyword} {te ta : TE} {t tk : TA} {nm : Option Str}
variable {g : List Value → List Value → List Value} {gV : List V → List V → List V}
end

/-! ### a def's body keeps its promise -/
structure FnScope (N P : List Str) (sc : Scope) : Prop where
  kind : sc.kind = .function
  co : sc.isCoroutine = false
  gen : sc.isGenerator = false
  nd : N.Nodup
  pre : N.take P.length = P
  par : ∀ x ∈ P, sc.names.lookup x = some .local ∨ sc.names.lookup x = some .cell
  nofree : ∀ y ∈ sc.names, y.2 ≠ .free

theorem bindL_out {kindOf : Str → Option NameKind} {x : Str} : ∀ {binds : List (Str × Value)} {m : Str → Option Value}, (∀ v, (x, v) ∉ binds) → bindL kindOf binds m x = m x
  | [], _, _ => rfl
  | (n, v) :: r, m, h => by
    unfold bindL
    rw [bindL_out fun w hw => h w (List.mem_cons_of_mem _ hw)]
    split
    · have : x ≠ n := by rintro rfl; exact h v List.mem_cons_self
      simp [this]
    · rfl
theorem bindC_out {kindOf : Str → Option NameKind} {x : Str} : ∀ {binds : List (Str × Value)} {m : Str → Option Value}, (∀ v, (x, v) ∉ binds) → bindC kindOf binds m x = m x
  | [], _, _ => rfl
  | (n, v) :: r, m, h => by
    unfold bindC
    rw [bindC_out fun w hw => h w (List.mem_cons_of_mem _ hw)]
    split
    · rfl
    · have : x ≠ n := by rintro rfl; exact h v List.mem_cons_self
      simp [this]
theorem bindL_get {kindOf : Str → Option NameKind} {x : Str} {v : Value} : ∀ {P : List Str} {vs : List Value} {i : Nat} {m : Str → Option Value}, P.Nodup → P[i]? = some x → vs[i]? = some v → kindOf x = some .local →
    bindL kindOf (P.zip vs) m x = some v
  | [], _, _, _, _, h, _, _ => by simp at h
  | _ :: _, [], _, _, _, _, h, _ => by simp at h
  | p :: P, w :: vs, 0, m, nd, h1, h2, hk => by
    simp at h1 h2; subst h1; subst h2
    show bindL kindOf ((p, w) :: P.zip vs) m p = _
    unfold bindL
    rw [bindL_out fun v hv => (List.nodup_cons.mp nd).1 (List.of_mem_zip hv).1, if_pos hk]
    simp
  | p :: P, w :: vs, i + 1, m, nd, h1, h2, hk => by
    show bindL kindOf ((p, w) :: P.zip vs) m x = _
    unfold bindL
    exact bindL_get (i := i) (List.nodup_cons.mp nd).2 (by simpa using h1) (by simpa using h2) hk
theorem bindC_get {kindOf : Str → Option NameKind} {x : Str} {v : Value} : ∀ {P : List Str} {vs : List Value} {i : Nat} {m : Str → Option Value}, P.Nodup → P[i]? = some x → vs[i]? = some v → kindOf x ≠ some .local →
    bindC kindOf (P.zip vs) m x = some v
  | [], _, _, _, _, h, _, _ => by simp at h
  | _ :: _, [], _, _, _, _, h, _ => by simp at h
  | p :: P, w :: vs, 0, m, nd, h1, h2, hk => by
    simp at h1 h2; subst h1; subst h2
    show bindC kindOf ((p, w) :: P.zip vs) m p = _
    unfold bindC
    rw [bindC_out fun v hv => (List.nodup_cons.mp nd).1 (List.of_mem_zip hv).1, if_neg hk]
    simp
  | p :: P, w :: vs, i + 1, m, nd, h1, h2, hk => by
    show bindC kindOf ((p, w) :: P.zip vs) m x = _
    unfold bindC
    exact bindC_get (i := i) (List.nodup_cons.mp nd).2 (by simpa using h1) (by simpa using h2) hk

def start (N : List Str) (vs : List V) : St := vs.map some ++ List.replicate (N.length - vs.length) none

def cxOf (CX : CXT) (P : Program) (w : World) (K : PySem.W.Frag) (mg : Str → Option Value) (base : Heap) (N : List Str) (qual : Str) (scope : Scope) (f : Addr) (cd : Value) (A : Around) (outer : List Env) (s : Shared) (H : Hp) (E : XK) : Cx where
  prog := P
  w := w
  K := K
  mg := mg
  base := base
  A := A.deeper (envOfC qual scope s.heap.objs.size f cd)
  N := N
  s₀ := s
  H₀ := H
  env := envOfC qual scope s.heap.objs.size f cd
  outer := outer
  stack := envOfC qual scope s.heap.objs.size f cd :: outer
  ex := []
  calm := true
  fn := fun _ => true
  pn := []
  xe := fun e s' => wpAny (model P w) (A.deeper (envOfC qual scope s.heap.objs.size f cd)) (leaving (envOfC qual scope s.heap.objs.size f cd) e) (fun _ s'' => CX outer H s E e s'') (fun e' s'' => CX outer H s E e' s'') s'

theorem cell_has {sc : Scope} {n : Nat} {x : Str} (h : sc.names.lookup x = some .cell) : ∃ c, (cellsFrom n sc.names []).lookup x = some c := by
  have q := PySem.W.cellsFrom_some sc.names n [] (.inl h)
  exact Option.isSome_iff_exists.mp q

theorem inv_start {CX : CXT} {P : Program} {w : World} {K : PySem.W.Frag} {mg : Str → Option Value} {base : Heap} {N ps : List Str} {qual : Str} {scope : Scope} {f : Addr} {cd : Value} {A : Around} {outer : List Env} {s s1 : Shared} {H : Hp} {E : XK} {us : List Value} {vs : List V}
    (S : FnScope N ps scope) (hd : A.handled = none) (e0 : Env0 P w K mg base A outer s H) (hl : vs.length = ps.length) (r : Vals vs us)
    (x : InCallC s s.heap.objs.size (bindL (envOfC qual scope s.heap.objs.size f cd).kindOf (ps.zip us) fun _ => none) (cellsFrom (s.heap.objs.size + 1) scope.names []) (bindC (envOfC qual scope s.heap.objs.size f cd).kindOf (ps.zip us) fun _ => none) s1) :
    Inv (cxOf CX P w K mg base N qual scope f cd A outer s H E) [] (start N vs) H s1 := by
  have hpl : ps.length ≤ N.length := by have := congrArg List.length S.pre; rw [List.length_take] at this; omega
  obtain ⟨h1, tk, rfl, hk⟩ := x.done
  have noA : ∀ b : Addr, b ∉ (cxOf CX P w K mg base N qual scope f cd A outer s H E).ex := fun b z => absurd (show b ∈ ([] : List Addr) from z) (by simp)
  refine ⟨⟨e0.mod, S.kind, rfl, rfl, Nat.le_refl _, fun y z c h1 h2 => ?_, fun y hy => ?_, fun y c _ h => ?_, fun _ => hd, Around.frames_deeper e0.frames, .inr ⟨rfl, rfl⟩, fun b z => absurd z (noA b), e0.bs, e0.bsz, fun b _ _ => noA b, fun b z => absurd z (noA b), e0.funs, e0.frf⟩,
    rfl, e0.bare, Un.kept hk, ⟨_, x.toInCall.ns, fun i y v h1 h2 h3 => ?_⟩, fun y c h => ⟨_, x.cell y c h⟩, e0.hok.fresh (Nat.le_refl _), fun y c h => ?_, fun p hp => absurd (show p ∈ ([] : List (Addr × Obj)) from hp) (by simp), e0.hok.kept hk, ?_⟩
  · exact name_of_addr x.apart (PySem.mem_of_lookup h1) (PySem.mem_of_lookup h2)
  · have hy : scope.names.lookup y = some .cell ∨ scope.names.lookup y = some .free := hy
    rcases hy with hy | hy
    · exact cell_has hy
    · exact absurd rfl (S.nofree _ (PySem.mem_of_lookup hy))
  · exact Nat.le_of_lt (x.above y c (PySem.mem_of_lookup h))
  · have hi : i < vs.length := by
      unfold start at h2
      by_cases hi : i < vs.length
      · exact hi
      · rw [List.getElem?_append_right (by simpa using hi)] at h2
        rw [List.getElem?_replicate] at h2
        split at h2 <;> cases h2
    have ha : vs[i]? = some v := by
      unfold start at h2
      rw [List.getElem?_append_left (by simpa using hi), List.getElem?_map] at h2
      cases e : vs[i]? with
      | none => rw [e] at h2; cases h2
      | some a => rw [e] at h2; cases h2; rfl
    obtain ⟨u, hu, rv⟩ := r.get ha
    have hp : ps[i]? = some y := by
      rw [← S.pre, List.getElem?_take_of_lt (by omega)]; exact h1
    have ndP : ps.Nodup := by rw [← S.pre]; exact S.nd.sublist (List.take_sublist _ _)
    refine ⟨u, rv, ?_⟩
    rcases S.par y (List.mem_of_getElem? hp) with k | k
    · exact .inl ⟨k, bindL_get ndP hp hu k⟩
    · obtain ⟨c, e⟩ := cell_has (n := s.heap.objs.size + 1) k
      refine .inr ⟨.inl k, c, e, ?_⟩
      have q := x.cell y c e
      rw [bindC_get ndP hp hu (by show scope.names.lookup y ≠ _; rw [k]; decide)] at q
      exact q
  · exact e0.hok.fresh (Nat.le_of_lt (x.above y c (PySem.mem_of_lookup h)))
  · unfold start
    show _ = N.length
    rw [List.length_append, List.length_map, List.length_replicate]
    omega

theorem fn_of {CX : CXT} {P : Program} {w : World} {K : PySem.W.Frag} {mg : Str → Option Value} {base : Heap} {k : Nat} {f : Addr} {name qual : Str} {params : Arguments} {body : List Stmt} {scope : Scope} {dV kV doc pm cdv ct oc : Value} {an od : Option Addr}
    {osl : Array (Option Value)} {N ps : List Str} {sp : Sp} (lk : K.lookup f = some ⟨oc, od, .func (PySem.W.fnOf name qual params body scope dV kV doc pm an cdv ct), osl⟩) (hcd : PySem.W.codeIn K cdv qual = true) (S : FnScope N ps scope)
    (len : ∀ vs H Q E, sp vs H Q E → vs.length = ps.length)
    (hbody : ∀ (A : Around) (outer : List Env) (s : Shared) (H : Hp) (vs : List V) (Q : VK) (E : XK), Room k (A.deeper (envOfC qual scope s.heap.objs.size f cdv)) → sp vs H Q E →
      ∃ t, PSs (cxOf CX P w K mg base N qual scope f cdv A outer s H E) body t ∧ t { nx := fun _ H' => Q .non H', rt := Q } (start N vs) H) :
    FnOk P w K mg base CX (k + 1) f (PySem.W.fnOf name qual params body scope dV kV doc pm an cdv ct) ps sp := by
  refine ⟨len, fun A outer s H args us vs Q E hr e0 hb r hsp => ?_⟩
  have hl := len _ _ _ _ hsp
  have KX : K.In s.heap := e0.mod.kin.keeps fun b o e => (e0.bs b o e).1
  have lim : s.heap.NoLimit := e0.mod.nolimit.keeps fun b o e => (e0.bs b o e).1
  have hkind : ∀ y ∈ ps.zip us, scope.names.lookup y.1 = some .local ∨ (scope.names.lookup y.1 = some .cell ∧ ((cellsFrom (s.heap.objs.size + 1) scope.names []).lookup y.1).isSome = true) := fun ⟨n, v⟩ hy => by
    rcases S.par n (List.of_mem_zip hy).1 with q | q
    · exact .inl q
    · exact .inr ⟨q, PySem.W.cellsFrom_some _ _ _ (.inl q)⟩
  refine codeAny_call_function hr.depth (KX _ _ lk) rfl S.co S.gen rfl (PySem.W.codeRec_of KX hcd) (hb _ _ _ _ ?_)
  refine wpAny_newFunctionEnv_cells S.kind hkind fun env he s1 x => ?_
  subst he
  refine ⟨lim.keeps x.toInCall.keep, codeAny_func ?_⟩
  obtain ⟨t, ht, hq⟩ := hbody A outer s H vs Q E (hr.deeper _) hsp
  have I : Inv (cxOf CX P w K mg base N qual scope f cdv A outer s H E) [] (start N vs) H s1 := inv_start S hr.hd e0 hl r x
  refine wpAny_mono (ht [] s1 (start N vs) H _ I hq) (fun fl s' hs => ?_) fun e s' hs => hs
  have fin : ∀ {σ' : St} {H' : Hp} {v : V} {u : Value}, Inv (cxOf CX P w K mg base N qual scope f cdv A outer s H E) [] σ' H' s' → RelV v u → Q v H' → CE outer P w H s Q u s' :=
    fun {σ' H' v u} J rv q => ⟨v, H', J.os, J.bare, J.base, J.hok, rv, q⟩
  cases fl with
  | ret u =>
    obtain ⟨v, σ', H', J, rv, q⟩ := hs
    exact fin J rv q
  | next =>
    obtain ⟨σ', H', J, q⟩ := hs
    exact fin (v := V.non) (u := Value.none) J rfl q
  | brk =>
    obtain ⟨_, _, _, q⟩ := hs
    exact False.elim q
  | cont =>
    obtain ⟨_, _, _, q⟩ := hs
    exact False.elim q
end L2

namespace L2
open PySem PySem.Spec PyProof.Rows
section
variable {X : Cx} {x : Str} {p pos : Pos} {e : Expr} {es : List Expr} {t : TA} {id T : String} {r : List V → Hp → VK → Prop}

def tCB (r : List V → Hp → VK → Prop) (t : TA) : TE := fun σ H Q => t σ H fun vs H1 => r vs H1 Q
theorem pe_callB (hc : CallR X (.builtin id) r) (hg : Gl X x) (hm : X.mg x = none) (hv : bootBuiltins x = some (.builtin id)) (ha : PA X (e :: es) t) (hn : x ≠ "__name__" := by decide) (hdb : (x == ("__debug__" : Str)) = false := by decide)
    (he : starEach (e :: es) X.env = (false, eval e X.env) :: starEach es X.env := by rfl) (hpl : (backTo pos (starEach es X.env)).any (·.1) = false := by rfl) : PE X (.Call (.Name x p) (e :: es) [] pos) (tCB r t) := by
  intro pins s σ H Q I h
  refine wpAny_Call_Name_kw (ld_blt I hg hm hv ?_ hn hdb)
  exact PyProof.Rows.callWith_builtin1 (thn (ha pos pins s σ H _ I h) fun us s1 ⟨vs, H1, I1, r1, q1⟩ => hc pins s1 σ H1 vs us Q I1 r1 q1) he hpl
end
end L2

namespace HT
open PySem PyProof.Rows

section
open PySem.SeqAt
open PySem.AutoSeq1 (wpAny_loadPart')
open PySem.MeetsSeq PySem.MeetsSeq2 PySem.MeetsSeq3

end

section
variable {prog : Program} {w : World} {A : Around} {E : Value → Shared → Prop} {s : Shared}

/-! ### t[a:b], not the whole -/
def sIx (n d : Nat) : Option Int → Nat
  | none => d
  | some v => if v < 0 then (v + (n : Int)).toNat else min v.toNat n
theorem sIx_none (n d : Nat) : sIx n d none = d := rfl
theorem sIx_nat (n d k : Nat) : sIx n d (some (k : Int)) = min k n := by
  show (if (k : Int) < 0 then ((k : Int) + (n : Int)).toNat else min (k : Int).toNat n) = min k n
  rw [if_neg (by omega), Int.toNat_natCast]
theorem sIx_le (n d : Nat) (hd : d ≤ n) (o : Option Int) : sIx n d o ≤ n := by
  cases o with
  | none => exact hd
  | some v =>
    show (if v < 0 then (v + (n : Int)).toNat else min v.toNat n) ≤ n
    by_cases hv : v < 0
    · rw [if_pos hv]; omega
    · rw [if_neg hv]; exact Nat.min_le_right _ _
end
end HT

namespace L2
open PySem PySem.Spec PyProof.Rows

/-! ### the parts of a slice -/
abbrev TO := St → Hp → (Option Int → Hp → Prop) → Prop
def PO (X : Cx) (e : Option Expr) (t : TO) : Prop :=
  ∀ (pins : List (Addr × Obj)) (s : Shared) (σ : St) (H : Hp) (Q : Option Int → Hp → Prop), Inv X pins σ H s → t σ H Q →
    wpAny (model X.prog X.w) X.A (evalPart e X.env) (fun u s' => ∃ o H', Inv X pins σ H' s' ∧ IsPart u o ∧ Q o H') X.xe s
def tNoPart : TO := fun _ H Q => Q none H
def tPart (t : TE) : TO := fun σ H Q => t σ H fun x H1 => ∃ i, x = .int i ∧ Q (some i) H1

section
variable {X : Cx} {e : Expr} {te : TE} {lo hi : Option Expr} {tl th : TO} {pos p2 : Pos}

theorem po_none : PO X none tNoPart := by
  intro pins s σ H Q I h
  rw [evalPart_none]
  exact wpAny_pure ⟨none, H, I, .none, h⟩
theorem po_some (h : PE X e te) : PO X (some e) (tPart te) := by
  intro pins s σ H Q I hw
  rw [evalPart_some]
  refine thn (h pins s σ H _ I hw) fun u s1 ⟨x, H1, I1, r1, q1⟩ => ?_
  obtain ⟨i, rfl, q⟩ := q1
  obtain ⟨t, rfl⟩ := r1
  exact ⟨some i, H1, I1, .int i t, q⟩

def SlR (X : Cx) (r : V → Option Int → Option Int → Hp → VK → Prop) : Prop :=
  ∀ (pins : List (Addr × Obj)) (s : Shared) (σ : St) (H : Hp) (x : V) (v vl vu : Value) (lo hi : Option Int) (sl : Addr) (Q : VK), Inv X pins σ H s → RelV x v → s.heap.IsSliceOf sl vl vu .none → IsPart vl lo → IsPart vu hi → r x lo hi H Q →
    ∃ T id, typeLookup (.type T) "__getitem__" = pure (some (.builtin id)) ∧ s.TypeIs v T ∧ wpAny (model X.prog X.w) X.A (getItem v (.ref sl)) (EP X pins σ Q) X.xe s
def tSl (r : V → Option Int → Option Int → Hp → VK → Prop) (te : TE) (tl th : TO) : TE := fun σ H Q => te σ H fun x H1 => tl σ H1 fun l H2 => th σ H2 fun u H3 => r x l u H3 Q
theorem pe_slice {r : V → Option Int → Option Int → Hp → VK → Prop} (hr : SlR X r) (he : PE X e te) (hl : PO X lo tl) (hu : PO X hi th) : PE X (.Subscript e (.Slice lo hi none p2) pos) (tSl r te tl th) := by
  intro pins s σ H Q I h
  refine Subscript_ (thn (he pins s σ H _ I h) fun v s1 ⟨x, H1, I1, r1, q1⟩ => ?_)
  refine wpAny_Slice (thn (hl pins s1 σ H1 _ I1 q1) fun vl s2 ⟨l, H2, I2, pl, q2⟩ => thn (hu pins s2 σ H2 _ I2 q2) fun vu s3 ⟨u, H3, I3, pu, q3⟩ => ?_)
  rw [evalPart_none]
  refine wpAny_pure ?_
  have I4 : Inv X pins σ H3 { s3 with heap := s3.heap.push { cls := .type "slice", data := .fields #[vl, vu, .none] } } := I3.kept (t' := s3.toks) fun b ob q => Heap.get?_push_of_some _ q
  obtain ⟨T, id, hT, ht, hg⟩ := hr pins { s3 with heap := s3.heap.push { cls := .type "slice", data := .fields #[vl, vu, .none] } } σ H3 x v vl vu l u s3.heap.objs.size Q I4 r1 (Heap.IsSliceOf.new ..) pl pu q3
  show wpAny (model X.prog X.w) X.A (subscriptTail e (.Slice lo hi none p2) v (.ref s3.heap.objs.size)) (EP X pins σ Q) X.xe { s3 with heap := s3.heap.push { cls := .type "slice", data := .fields #[vl, vu, .none] } }
  exact tail_any (ops := [.ref s3.heap.objs.size, v]) ht hT hg (by with_unfolding_all rfl)

def cutV (xs : List V) (lo hi : Option Int) : List V := (xs.drop (HT.sIx xs.length 0 lo)).take (HT.sIx xs.length xs.length hi - HT.sIx xs.length 0 lo)
theorem cutV_length (xs : List V) (lo hi : Option Int) : (cutV xs lo hi).length ≤ xs.length := by
  unfold cutV
  rw [List.length_take, List.length_drop]
  omega
/-! ### t < u, t + u -/
end
end L2

namespace L2
open PySem PySem.Spec PyProof.Rows

/-! ### places -/
def ixN (n : Nat) (i : Int) : Option Nat := if 0 ≤ i then (if i < n then some i.toNat else none) else if -(n : Int) ≤ i then some (i + n).toNat else none
def atI {α : Type} (xs : List α) (i : Int) : Option α := (ixN xs.length i).bind fun j => xs[j]?
theorem ixN_seq {n : Nat} {i : Int} {j : Nat} (h : ixN n i = some j) : seqIndex? i n = some j ∧ j < n ∧ -(n : Int) ≤ i ∧ i < n := by
  unfold ixN at h
  by_cases h0 : 0 ≤ i
  · rw [if_pos h0] at h
    by_cases h1 : i < n
    · rw [if_pos h1] at h
      have e : i.toNat = j := Option.some.inj h
      exact ⟨by rw [seqIndex_of h0 h1, e], by omega, by omega, h1⟩
    · rw [if_neg h1] at h; cases h
  · rw [if_neg h0] at h
    by_cases h1 : -(n : Int) ≤ i
    · rw [if_pos h1] at h
      have e : (i + n).toNat = j := Option.some.inj h
      exact ⟨by rw [seqIndex_neg (by omega) h1, e], by omega, h1, by omega⟩
    · rw [if_neg h1] at h; cases h
theorem atI_get {α : Type} {xs : List α} {i : Int} {v : α} (h : atI xs i = some v) : ∃ j, seqIndex? i xs.length = some j ∧ xs[j]? = some v ∧ j < xs.length ∧ -(xs.length : Int) ≤ i ∧ i < xs.length := by
  unfold atI at h
  cases e : ixN xs.length i with
  | none => rw [e] at h; cases h
  | some j =>
    rw [e] at h
    obtain ⟨h1, h2, h3, h4⟩ := ixN_seq e
    exact ⟨j, h1, h, h2, h3, h4⟩
theorem atI_nat {α : Type} {xs : List α} {j : Nat} {v : α} (h : xs[j]? = some v) : atI xs (j : Int) = some v := by
  have hj : j < xs.length := (List.getElem?_eq_some_iff.mp h).1
  have e : ixN xs.length (j : Int) = some j := by
    unfold ixN
    rw [if_pos (by omega), if_pos (by omega)]; simp
  unfold atI; rw [e]; exact h
/-! ### what may be subscripted -/
def PlainIx (b : Expr) : Prop := ∀ o i, subscripted b false o i = operate [o, i] (getItem o i)
def IxR (X : Cx) (r : R2) : Prop :=
  ∀ (value slice : Expr) (pins : List (Addr × Obj)) (s : Shared) (σ : St) (H : Hp) (x y : V) (v u : Value) (Q : VK), Inv X pins σ H s → RelV x v → RelV y u → r x y H Q →
    subscripted slice false v u = operate [v, u] (getItem v u) → wpAny (model X.prog X.w) X.A (subscriptTail value slice v u) (EP X pins σ Q) X.xe s
def MtR (X : Cx) (id : String) (r : V → List V → Hp → VK → Prop) : Prop :=
  ∀ (pins : List (Addr × Obj)) (s : Shared) (σ : St) (H : Hp) (x : V) (xs : List V) (v : Value) (us : List Value) (Q : VK), Inv X pins σ H s → RelV x v → Vals xs us → r x xs H Q →
    wpAny (model X.prog X.w) X.A (call (.builtin id) (v :: us)) (EP X pins σ Q) X.xe s
section
variable {X : Cx} {a b : Expr} {ta tb : TE} {pos : Pos}
theorem pe_ix {r : R2} (hr : IxR X r) (ha : PE X a ta) (hb : PE X b tb) (hs : PlainIx b) : PE X (.Subscript a b pos) (tOp r ta tb) := by
  intro pins s σ H Q I h
  exact Subscript_ (binT ha hb I h fun v u s2 x y H2 I2 rx ry q => hr a b pins s2 σ H2 x y v u Q I2 rx ry q (hs _ _))

def rIxL (K : PySem.W.Frag) : R2 := fun x y H Q => ∃ p xs i v, x = .ref p ∧ y = .int i ∧ SqL K H p xs ∧ atI xs i = some v ∧ Q v H
def rIxT (K : PySem.W.Frag) : R2 := fun x y H Q => ∃ p xs i v, x = .ref p ∧ y = .int i ∧ SqT K H p xs ∧ atI xs i = some v ∧ Q v H
def rIxS : R2 := fun x y H Q => ∃ z i c, x = .str z ∧ y = .int i ∧ z.length ≤ sizeLine ∧ atI z.cps.toList i = some c ∧ Q (.str ⟨#[c]⟩) H
theorem ix_list : IxR X (rIxL X.K) := by
  intro value slice pins s σ H x y v u Q I rx ry h hs
  obtain ⟨p, xs, i, z, rfl, rfl, hq, he, q⟩ := h
  cases rx
  obtain ⟨t, rfl⟩ := ry
  obtain ⟨its, r, pl, hz⟩ := I.list hq
  obtain ⟨j, h1, h2, h3, h4, h5⟩ := atI_get he
  obtain ⟨w, ew, rw'⟩ := r.get h2
  have hl := r.length
  have hn := line63
  have fin : EP X pins σ Q w s := ⟨z, H, I, rw', q⟩
  by_cases h0 : 0 ≤ i
  · have hj : i.toNat = j := by
      rw [seqIndex_of h0 h5] at h1
      exact Option.some.inj h1
    exact item_listR pl.isList h0 (by omega) (by rw [hj]; simpa using ew) fin hs
  · have hj : (i + (its.toArray.size : Int)).toNat = j := by
      rw [seqIndex_neg (by omega) h4] at h1
      rw [List.size_toArray, ← hl]
      exact Option.some.inj h1
    exact subscriptTail_builtinR (x := w) pl.isList.typeIs slot_list_getitem.lookup
      (wpAny_getItem_list_neg (Q := fun r s' => r = w ∧ EP X pins σ Q r s') pl.isList (by omega) (by rw [List.size_toArray] <;> omega) (by omega) (by rw [hj]; simpa using ew) ⟨rfl, fin⟩) hs
theorem ix_tup : IxR X (rIxT X.K) := by
  intro value slice pins s σ H x y v u Q I rx ry h hs
  obtain ⟨p, xs, i, z, rfl, rfl, hq, he, q⟩ := h
  cases rx
  obtain ⟨t, rfl⟩ := ry
  obtain ⟨its, r, pl, hz⟩ := I.tuple hq
  obtain ⟨j, h1, h2, h3, h4, h5⟩ := atI_get he
  obtain ⟨w, ew, rw'⟩ := r.get h2
  have hl := r.length
  have hn := line63
  have fin : EP X pins σ Q w s := ⟨z, H, I, rw', q⟩
  exact subscriptTail_builtinR (x := w) pl.typeIs slot_tuple_getitem.lookup
    (getItem_tuple (j := j) (Q := fun r s' => r = w ∧ EP X pins σ Q r s') pl (by omega) (by omega) (by rw [List.size_toArray, ← hl]; exact h1) (by simpa using ew) ⟨rfl, fin⟩) hs
theorem ix_str : IxR X rIxS := by
  intro value slice pins s σ H x y v u Q I rx ry h hs
  obtain ⟨z, i, c, rfl, rfl, hz, he, q⟩ := h
  obtain ⟨t, rfl⟩ := rx
  obtain ⟨t', rfl⟩ := ry
  obtain ⟨j, h1, h2, h3, h4, h5⟩ := atI_get he
  have hl : z.cps.toList.length = z.length := by simp [Str.length]
  rw [hl] at h1 h4 h5
  have hn := line63
  exact tail_any (typeIs_str s z t) slot_str_getitem.lookup (getItem_str (c := c) (by
    have e1 : decide (i < -(2 ^ 63 : Int)) = false := decide_eq_false (by omega)
    have e2 : decide (i ≥ 2 ^ 63) = false := decide_eq_false (by omega)
    rw [e1, e2, Bool.or_false]) (by rw [h1]; simpa using h2) ⟨.str ⟨#[c]⟩, H, I.tok _, ⟨_, rfl⟩, q⟩) hs
/-! ### xs[i] = v, any sign -/
/-! ### slices -/
theorem slice_bounds (lo hi : Option Int) (n : Nat) : (sliceBounds lo hi none n).1 = ((HT.sIx n 0 lo : Nat) : Int) ∧ (sliceBounds lo hi none n).2.1 = ((HT.sIx n n hi : Nat) : Int) ∧ (sliceBounds lo hi none n).2.2 = 1 := by
  refine ⟨?_, ?_, rfl⟩
  · cases lo with
    | none => simp [sliceBounds, HT.sIx]
    | some i =>
      simp only [sliceBounds, HT.sIx, Option.getD_none, show (1 : Int) > 0 by decide, if_true]
      by_cases h : i < 0
      · simp only [h, if_true] <;> omega
      · simp only [h, if_false] <;> omega
  · cases hi with
    | none => simp [sliceBounds, HT.sIx]
    | some i =>
      simp only [sliceBounds, HT.sIx, Option.getD_none, show (1 : Int) > 0 by decide, if_true]
      by_cases h : i < 0
      · simp only [h, if_true] <;> omega
      · simp only [h, if_false] <;> omega
theorem slicePick_cut (its : List Value) (lo hi : Option Int) : slicePick its.toArray lo hi none = ((its.drop (HT.sIx its.length 0 lo)).take (HT.sIx its.length its.length hi - HT.sIx its.length 0 lo)).toArray := by
  obtain ⟨h1, h2, h3⟩ := slice_bounds lo hi its.toArray.size
  unfold slicePick
  rw [h1, h2, h3]
  simp only [sliceRange_one, pick_run, List.size_toArray] <;> rfl
def rSlL (K : PySem.W.Frag) : V → Option Int → Option Int → Hp → VK → Prop := fun x lo hi H Q => ∃ a xs, x = .ref a ∧ SqL K H a xs ∧ ∀ p, H p = none → Q (.ref p) (upd H p (.lst (cutV xs lo hi)))
theorem sl_list : SlR X (rSlL X.K) := by
  intro pins s σ H x v vl vu lo hi sl Q I rx hs pl pu h
  obtain ⟨a, xs, rfl, hx, q⟩ := h
  cases rx
  obtain ⟨its, r, ht, hz⟩ := I.list hx
  have hlen := r.length
  refine ⟨"list", _, slot_list_getitem.lookup, ht.isList.typeIs, ?_⟩
  refine wpAny_getItem_list_slice ht.isList hs pl pu .none (by simp) ?_ (by rw [List.size_toArray] <;> omega)
  rw [slicePick_cut, ← hlen]
  refine ⟨.ref s.heap.objs.size, _, I.laid (t' := s.toks) (o := .lst (cutV xs lo hi)) (fun b ob q => Heap.get?_push_of_some _ q) (Nat.le_refl _) ?_, rfl, q _ (I.hok.fresh (Nat.le_refl _))⟩
  exact ⟨Nat.le_trans (cutV_length xs lo hi) hz, _, 0, (r.drop (HT.sIx xs.length 0 lo)).take (HT.sIx xs.length xs.length hi - HT.sIx xs.length 0 lo), Heap.get?_push_size _ rfl⟩

/-! ### in, not in: flat items -/
def flatV : V → Bool
  | .non => true
  | .bl _ => true
  | .int _ => true
  | .str _ => true
  | _ => false
def eqV : V → V → Bool
  | .non, .non => true
  | .bl a, .bl b => a == b
  | .bl a, .int b => (if a then 1 else 0) == b
  | .int a, .bl b => a == (if b then 1 else 0)
  | .int a, .int b => a == b
  | .str a, .str b => a == b
  | _, _ => false
theorem eqAt_V {A : Around} {s : Shared} {y x : V} {u v : Value} (ry : RelV y u) (rx : RelV x v) (fy : flatV y = true) (fx : flatV x = true) : SeqAt.EqAt A s u v (eqV y x) := by
  cases y with
  | non =>
    cases ry
    cases x with
    | non => cases rx; exact SeqAt.EqAt.same _
    | bl b => cases rx; exact SeqAt.EqAt.none_bool b
    | int b => obtain ⟨t, rfl⟩ := rx; exact SeqAt.EqAt.none_int b t
    | str b => obtain ⟨t, rfl⟩ := rx; exact SeqAt.EqAt.none_str b t
    | _ => exact absurd (show false = true from fx) Bool.false_ne_true
  | bl a =>
    cases ry
    cases x with
    | non => cases rx; exact SeqAt.EqAt.bool_none a
    | bl b => cases rx; exact SeqAt.EqAt.bool_bool a b
    | int b => obtain ⟨t, rfl⟩ := rx; exact SeqAt.EqAt.bool_int a b t
    | str b => obtain ⟨t, rfl⟩ := rx; exact SeqAt.EqAt.bool_str a b t
    | _ => exact absurd (show false = true from fx) Bool.false_ne_true
  | int a =>
    obtain ⟨t', rfl⟩ := ry
    cases x with
    | non => cases rx; exact SeqAt.EqAt.int_none a t'
    | bl b => cases rx; exact SeqAt.EqAt.int_bool a t' b
    | int b => obtain ⟨t, rfl⟩ := rx; exact SeqAt.EqAt.int_int a t' b t
    | str b => obtain ⟨t, rfl⟩ := rx; exact SeqAt.EqAt.int_str a t' b t
    | _ => exact absurd (show false = true from fx) Bool.false_ne_true
  | str a =>
    obtain ⟨t', rfl⟩ := ry
    cases x with
    | non => cases rx; exact SeqAt.EqAt.str_none a t'
    | bl b => cases rx; exact SeqAt.EqAt.str_bool a t' b
    | int b => obtain ⟨t, rfl⟩ := rx; exact SeqAt.EqAt.str_int a t' b t
    | str b => obtain ⟨t, rfl⟩ := rx; exact SeqAt.EqAt.str_str a t' b t
    | _ => exact absurd (show false = true from fx) Bool.false_ne_true
  | _ => exact absurd (show false = true from fy) Bool.false_ne_true
/-! ### len, list(x), tuple(x) of any list or tuple that is read -/
theorem call_len_seq : CallR X (.builtin "len") (fun xs H Q => ∃ p ys, xs = [.ref p] ∧ (SqL X.K H p ys ∨ SqT X.K H p ys) ∧ Q (.int ys.length) H) := by
  intro pins s σ H xs us Q I r h
  obtain ⟨p, ys, rfl, hq, q⟩ := h
  obtain ⟨u, rfl, rx⟩ := vals1 r
  cases rx
  have hn := line63
  rcases hq with hq | hq
  · obtain ⟨its, r', pl, hz⟩ := I.list hq
    have hlen := r'.length
    exact Calls.call_len_list pl.isList (by simp only [List.size_toArray] <;> omega) ⟨.int ys.length, H, I.tok _, ⟨s.toks + 1, by rw [List.size_toArray, hlen]⟩, q⟩
  · obtain ⟨its, r', pl, hz⟩ := I.tuple hq
    have hlen := r'.length
    exact len_tuple pl (by simp only [List.size_toArray] <;> omega) ⟨.int ys.length, H, I.tok _, ⟨s.toks + 1, by rw [List.size_toArray, hlen]⟩, q⟩
theorem call_len_str : CallR X (.builtin "len") (fun xs H Q => ∃ z, xs = [.str z] ∧ z.length ≤ sizeLine ∧ Q (.int z.length) H) := by
  intro pins s σ H xs us Q I r h
  obtain ⟨z, rfl, hz, q⟩ := h
  obtain ⟨u, rfl, t, rfl⟩ := vals1 r
  have hn := line63
  exact len_str (by omega) ⟨.int z.length, H, I.tok _, ⟨_, rfl⟩, q⟩
/-! ### the call of a builtin's method: o.m(..) -/
def tyV (K : PySem.W.Frag) (T : String) (x : V) (H : Hp) : Prop := match x with
  | .str _ => T = "str"
  | .int _ => T = "int"
  | .ref p => (T = "list" ∧ ∃ xs, SqL K H p xs) ∨ (T = "tuple" ∧ ∃ o, K.lookup p = some o ∧ o.cls = .type "tuple" ∧ o.dict = none) ∨
      (T = "dict" ∧ ((∃ kvs, H p = some (.dK kvs)) ∨ ∃ kvs, H p = some (.dT kvs))) ∨ (T = "set" ∧ ∃ S n, H p = some (.set S n))
  | _ => False
theorem tyV_is {pins : List (Addr × Obj)} {σ : St} {H : Hp} {s : Shared} {T : String} {x : V} {v : Value} (I : Inv X pins σ H s) (r : RelV x v) (ty : tyV X.K T x H) :
    s.TypeIs v T ∧ ∀ a, v = .ref a → ∃ ob, s.heap.get? a = some ob ∧ ob.dict = none := by
  cases x with
  | str z =>
    obtain ⟨t, rfl⟩ := r
    cases (show T = "str" from ty)
    exact ⟨typeIs_str s z t, fun _ e => nomatch e⟩
  | int i =>
    obtain ⟨t, rfl⟩ := r
    cases (show T = "int" from ty)
    exact ⟨typeIs_int s i t, fun _ e => nomatch e⟩
  | ref p =>
    cases r
    rcases ty with ⟨rfl, xs, hq⟩ | ⟨rfl, o, hk, hc, hd⟩ | ⟨rfl, hk⟩ | ⟨rfl, S, n, hk⟩
    · obtain ⟨its, _, pl, _⟩ := I.list hq
      refine ⟨pl.isList.typeIs, fun a e => ?_⟩
      cases e
      obtain ⟨o, n, e, c, hd, _⟩ := pl
      exact ⟨o, e, hd⟩
    · refine ⟨⟨o, I.kIn p o hk, hc⟩, fun a e => ?_⟩
      cases e
      exact ⟨o, I.kIn _ o hk, hd⟩
    · have z : ∃ o, s.heap.get? p = some o ∧ o.ExactDict := by
        rcases hk with ⟨kvs, hk⟩ | ⟨kvs, hk⟩
        · obtain ⟨_, _, _, _, o, _, _, e, ex, _⟩ := I.hok p _ hk
          exact ⟨o, e, ex⟩
        · obtain ⟨_, _, _, _, o, _, _, e, ex, _⟩ := I.hok p _ hk
          exact ⟨o, e, ex⟩
      obtain ⟨o, e, ex⟩ := z
      refine ⟨⟨o, e, ex.1⟩, fun a e2 => ?_⟩
      cases e2
      exact ⟨o, e, ex.2.1⟩
    · obtain ⟨o, _, _, _, e, ex, _⟩ := I.hok p _ hk
      refine ⟨⟨o, e, ex.1⟩, fun a e2 => ?_⟩
      cases e2
      exact ⟨o, e, ex.2.1⟩
  | _ => exact False.elim ty
def tBM (K : PySem.W.Frag) (T : String) (r : V → List V → Hp → VK → Prop) (to : TE) (t : TA) : TE := fun σ H Q => to σ H fun x H1 => tyV K T x H1 ∧ t σ H1 fun xs H2 => r x xs H2 Q
variable {o e : Expr} {es : List Expr} {to : TE} {t : TA} {name : Str} {apos cpos : Pos} {T id : String} {r : V → List V → Hp → VK → Prop}
theorem pe_bm (pa : PlainAttrs T) (slot : Slot T name id) (hty : typeOf (.builtin id) = pure (.type "method_descriptor")) (hm : MtR X id r) (ho : PE X o to) (ha : PA X (e :: es) t)
    (hbase : attributeBase o name X.env (eval o X.env) = eval o X.env := by rfl)
    (hfew : ((backTo cpos (starEach (e :: es) X.env)).all (fun x => !x.1) && (backToKw cpos (keywordEach [] X.env)).all (fun x => x.1.isSome)
      && decide ((e :: es).length + ([] : List Keyword).length + (if ([] : List Keyword).isEmpty then 0 else 1) < 30)) = true := by rfl)
    (hline : (apos.endLine == cpos.line) = true := by rfl) (hs : starEach (e :: es) X.env = (false, eval e X.env) :: starEach es X.env := by rfl) (hplain : (backTo cpos (starEach es X.env)).any (·.1) = false := by rfl) :
    PE X (.Call (.Attribute o name apos) (e :: es) [] cpos) (tBM X.K T r to t) := by
  intro pins s σ H Q I h
  refine wpAny_Call_method_late hbase hfew hline rfl (thn (ho pins s σ H _ I h) fun v s1 ⟨x, H1, I1, r1, ty, q1⟩ => ?_)
  obtain ⟨h1, h2⟩ := tyV_is I1 r1 ty
  refine ⟨T, id, pa, slot, hty, h1, h2, ?_⟩
  have hA := ha cpos pins s1 σ H1 _ I1 q1
  rw [hs] at hA ⊢
  refine Calls.callWith_builtin (by show (false || (backTo cpos (starEach es X.env)).any (·.1)) = false; rw [hplain] <;> rfl) (Calls.evalArgs_plain ?_)
  exact thn hA fun us s2 ⟨vs, H2, I2, r2, q2⟩ => hm pins s2 σ H2 x vs v us Q I2 r1 r2 q2
/- xs.append(e), list.index on a module's tuple .. are MtR facts of 06m -/
end
end L2

namespace L2
open PySem PySem.Spec PyProof.Rows

def MtM (X : Cx) (id : String) (r : V → List V → Hp → VK → Prop) : Prop :=
  ∀ (pins : List (Addr × Obj)) (s : Shared) (σ : St) (H : Hp) (x : V) (xs : List V) (v : Value) (us : List Value) (Q : VK), Inv X pins σ H s → RelV x v → Vals xs us → r x xs H Q →
    wpAny (model X.prog X.w) X.A (call (.builtin id) (v :: us)) (EP X pins σ Q) X.xe s

/-! ### lists of values -/
theorem Vals.one : ∀ {x : V} {us : List Value}, Vals [x] us → ∃ u, us = [u] ∧ RelV x u
  | _, _, .cons r .nil => ⟨_, rfl, r⟩
theorem Vals.two : ∀ {x y : V} {us : List Value}, Vals [x, y] us → ∃ u v, us = [u, v] ∧ RelV x u ∧ RelV y v
  | _, _, _, .cons r (.cons q .nil) => ⟨_, _, rfl, r, q⟩
section
variable {X : Cx} {pins : List (Addr × Obj)} {σ : St} {H : Hp} {s : Shared} {l b : Addr} {xs ys zs : List V}

/-! ### the two steps: a tracked list is rewritten, a new list is laid -/
theorem Inv.lset {its its' : List Value} {n : Nat} {f : Array Value → Array Value} {t' : Nat} (I : Inv X pins σ H s) (hH : H l = some (.lst xs))
    (e : s.heap.get? l = some { cls := .type "list", data := .seq its.toArray n }) (hf : f its.toArray = its'.toArray) (hv : Vals ys its') (hz : ys.length ≤ sizeLine) :
    Inv X pins σ (upd H l (.lst ys)) { s with heap := s.heap.update l (Obj.mapSeq f), toks := t' } := by
  have q := PySem.IsL.update e f
  rw [hf] at q
  refine I.write (x := l) (e := l) (by rw [hH]; exact trivial) (.inl rfl) (fun b' u hb hu => (Heap.get?_update_other s.heap (Obj.mapSeq f) (Ne.symm hb)).trans hu) ⟨_, q⟩ ?_
  exact ⟨hz, its', _, hv, q⟩
theorem Inv.lnew {its : List Value} {t' : Nat} (I : Inv X pins σ H s) (hv : Vals ys its) (hz : ys.length ≤ sizeLine) :
    Inv X pins σ (upd H s.heap.objs.size (.lst ys)) { s with heap := s.heap.push { cls := .type "list", data := .seq its.toArray }, toks := t' } :=
  I.laid (fun _ _ q => Heap.get?_push_of_some _ q) (Nat.le_refl _) ⟨hz, its, 0, hv, Heap.get?_push_size _ rfl⟩
theorem Inv.fresh (I : Inv X pins σ H s) : H s.heap.objs.size = none := I.hok.fresh (Nat.le_refl _)
theorem Inv.lstM (I : Inv X pins σ H s) (hH : H l = some (.lst xs)) : xs.length ≤ sizeLine ∧ ∃ (its : List Value) (n : Nat), Vals xs its ∧ xs.length = its.length ∧ s.heap.get? l = some { cls := .type "list", data := .seq its.toArray n } := by
  obtain ⟨z, its, n, r, e⟩ := I.hok l _ hH
  exact ⟨z, its, n, r, r.length, e⟩

end

section
variable {X : Cx}

/-! ### methods -/
def rAppend : V → List V → Hp → VK → Prop := fun x vs H Q => ∃ l xs y, x = .ref l ∧ vs = [y] ∧ H l = some (.lst xs) ∧ xs.length < sizeLine ∧ Q .non (upd H l (.lst (xs ++ [y])))
theorem mt_append : MtM X "list.append" rAppend := by
  intro pins s σ H x vs v us Q I rx rv h
  obtain ⟨l, xs, y, rfl, rfl, hH, hz, q⟩ := h
  cases rx
  obtain ⟨u, rfl, ru⟩ := rv.one
  obtain ⟨z, its, n, r, hl, e⟩ := I.lstM hH
  refine call_meets F.slot_list_append ⟨_, e, rfl⟩ F.entry_list_append (F.args_list_append_2 _ _) (PySem.list_append l its.toArray n u (by rw [List.size_toArray]; omega)) ⟨e, ?_⟩
  refine ⟨.non, _, I.lset (its' := its ++ [u]) hH e (by simp) (r.append (.cons ru .nil)) ?_, rfl, q⟩
  rw [List.length_append, List.length_singleton]
  omega

/-! ### list + list, list += list, list * int -/
def rCat : R2 := fun x y H Q => ∃ l b xs zs, x = .ref l ∧ y = .ref b ∧ H l = some (.lst xs) ∧ H b = some (.lst zs) ∧ xs.length + zs.length ≤ sizeLine ∧ ∀ p, H p = none → Q (.ref p) (upd H p (.lst (xs ++ zs)))
theorem op_cat : OpR X (binaryOp .Add) rCat := by
  intro pins s σ H x y v u Q I rx ry h
  obtain ⟨l, b, xs, zs, rfl, rfl, hH, hB, hz, q⟩ := h
  cases rx
  cases ry
  obtain ⟨z, its, n, r, hl, e⟩ := I.lstM hH
  obtain ⟨z2, its2, n2, r2, hl2, e2⟩ := I.lstM hB
  refine PySem.P.add_list e e2 ?_ (by rw [List.size_toArray, List.size_toArray]; omega)
  have ea : its.toArray ++ its2.toArray = (its ++ its2).toArray := by simp
  rw [ea]
  exact ⟨.ref _, _, I.lnew (t' := s.toks) (r.append r2) (by rw [List.length_append]; omega), rfl, q _ I.fresh⟩
/-! ### del xs[i] -/
end

/-! ### xs[a:b] = ys -/
section
variable {prog : Program} {w : World} {A : Around} {E : Value → Shared → Prop} {s : Shared}
set_option maxRecDepth 100000 in
end

section
variable {X : Cx}
end
end L2

namespace Att
open PySem PySem.W PySem.Calls PyProof.Rows

/-! ### the script -/
theorem ints_of_wellAll {P : Params} {h : Heap} : ∀ (ns : List Int) (vs : List Value), WellAll P h vs (ns.map WData.int) → IntsAre vs ns := by
  intro ns
  induction ns with
  | nil =>
    intro vs w
    rw [List.map_nil] at w
    cases w
    exact .nil
  | cons n ns ih =>
    intro vs w
    rw [List.map_cons] at w
    cases w with
    | cons a b =>
      cases a
      exact .cons _ _ (ih _ b)

theorem script_of {l : OpenLaw} {n : Nat} (hn : l.most = some n) {P : Params} {h : Heap} {args : List WData} {vals : List Value}
    (hpre : l.row.toRowW.claim.pre args = true) (hwl : WellAll P h vals args) :
    ∃ a vs ns, vals = [Value.ref a] ∧ args = [WData.list (ns.map WData.int)] ∧ h.get? a = some { cls := .type "list", data := .seq vs.toArray } ∧ IntsAre vs ns ∧ ns.length ≤ n := by
  have hsh : WShape.hasAll [] args [.list .int] = true := (pre_splitW hpre).1
  have hc : l.pre.holds [] { args := args } = true := (pre_splitW hpre).2
  obtain ⟨d, r, rfl, h1, h2⟩ := hasAllW_cons hsh
  obtain rfl := hasAllW_nil h2
  obtain ⟨xs, rfl, h3⟩ := hasW_list h1
  obtain ⟨ns, rfl⟩ := items_int h3
  have hlen : ns.length ≤ n := by
    unfold OpenLaw.pre at hc
    have h4 : (WTm.not (.lt (.lit (.int (n : Int))) (.len (.arg 0)))).holds [] { args := [.list (ns.map .int)] } = true := by
      have h4 := (holds_andW hc).1
      rw [hn] at h4
      exact h4
    have h5 := condW_of h4 (w_not (w_lt w_lit (w_len_list (w_arg rfl))))
    rw [List.length_map] at h5
    refine Nat.le_of_not_lt fun q => ?_
    have q' : (n : Int) < ((ns.length : Nat) : Int) := by omega
    first
      | (rw [decide_eq_true q'] at h5; exact absurd h5 (by decide))
      | (simp at h5; omega)
  cases hwl with
  | cons w1 w2 =>
    cases w2
    cases w1 with
    | list ho hall => exact ⟨_, _, ns, rfl, rfl, ho, ints_of_wellAll ns _ hall, hlen⟩

theorem post_true (l : OpenLaw) (args : List WData) : l.row.toRowW.claim.post args (.bool true) args = true :=
  postW_of (r := l.row.toRowW) (X := (true == true))
    (show WShape.has [] (.bool true) .bool = true by first | rfl | decide | simp [WShape.has, WShape.arms, WShape.armsAll])
    (show (WTm.eq .res (.lit (.bool true))).value [] { args := args, res := some (.bool true), after := args } = some (.bool (true == true)) from w_eq_bool (w_res rfl) w_lit) rfl

/-! ### the attachment: holds_open's last premise (the goal 'hc' behind k_head) from a wpAny of the law's body -/
theorem attach_call {l : OpenLaw} {n : Nat} {q : Program} {loose : List Str} {XP : (Str → Option Value) → Heap → Prop} {YP : World → Heap → Prop} {d : DefRec}
    (hn : l.most = some n) (hdf : d.params.defaults = [])
    (call : ∀ (w : World) (s₀ s₁ : Shared) (mg mb : Str → Option Value) (fa : Addr) (o : Obj) (pm cd doc : Value) (a : Addr) (vs : List Value) (ns : List Int),
      Ground q loose [] XP w s₀ mg mb s₁.heap → YP w s₁.heap →
      s₁.heap.get? fa = some o → o.data = .func (docDef d.name d.params d.body d.scope pm cd doc) → s₁.heap.CodeRec cd d.name → mg d.name = some (.ref fa) →
      s₁.heap.get? a = some { cls := .type "list", data := .seq vs.toArray } → IntsAre vs ns → ns.length ≤ n → s₁.gens = #[] →
      codeAny (model l.prog w) callerA (.call (.ref fa) ⟨[.ref a], []⟩) (fun r s' => r = .ok (.ret (.bool true)) ∧ OldK s₁.heap s'.heap ∧ s'.os = s₁.os ∧ AllBare s'.gens) s₁) :
    WalkO q loose XP YP l.row.toRowW d [] (fun f vs => PySem.call f vs) := by
  intro w s₀ s₁ mg mb G Y fa o pm cd doc dV kV ho hd hcd hD hmg hg args vals as hpre hlay hrd hwl hlo
  obtain rfl : dV = .none := Dflts.none hD hdf
  obtain rfl : kV = .none := Dflts.noKw hD
  obtain ⟨a, vs, ns, rfl, rfl, hobj, hints, hlen⟩ := script_of hn hpre hwl
  refine enter_call (codeAny_mono (call w s₀ s₁ mg mb fa o pm cd doc a vs ns G Y ho (fd_plain hd) hcd hmg hobj hints hlen hg) fun r s' hq => ?_)
  obtain ⟨rfl, h2, h3, h4⟩ := hq
  exact ⟨.inl ⟨.bool true, .bool true, [], rfl, fun _ => rfl, .bool true, post_true l _, fun _ => ⟨List.Pairwise.nil, fun _ hm => (nomatch hm)⟩⟩, h2, h3, h4⟩

/-! ### rules over ANY heap (no ledger) from facts about the written part K: the library's own take a ledger (News) for what they write -/
section
variable {prog : Program} {w : World} {A : Around} {E : Value → Shared → Prop} {s : Shared} {K : Frag}

/-! the whole heap as the ledger: makes every rule that writes through a ledger a rule over any heap -/
end
end Att

namespace L2
open PySem PySem.Spec PyProof.Rows

theorem vals_ints : ∀ {vs : List Value} {ns : List Int}, IntsAre vs ns → Vals (ns.map V.int) vs
  | _, _, .nil => .nil
  | _, _, .cons n t h => .cons ⟨t, rfl⟩ (vals_ints h)

def Only (H : Hp) : Prop := ∀ b, H b = none ∨ ∃ o xs, H b = some (.frz o (.lst xs))

theorem law_call {P : Program} {w : World} {K : PySem.W.Frag} {mg mb : Str → Option Value} {CX : CXT} {k : Nat} {fa a : Addr} {fd : FuncData} {x : Str} {sp : Sp} {s₁ : Shared} {vs : List Value} {ns : List Int}
    (KX : K.In s₁.heap) (hns : s₁.heap.Ns mainGlobals mg) (hb : s₁.heap.Ns builtinsNs mb) (hbb : ∀ x : Str, x ≠ "__name__" → mb x = bootBuiltins x) (hlim : s₁.heap.NoLimit) (hg : s₁.gens = #[])
    (ha : s₁.heap.get? a = some { cls := .type "list", data := .seq vs.toArray }) (hi : IntsAre vs ns) (hl : ns.length ≤ sizeLine) (hr : Room k callerA)
    (F : ∀ base : Heap, K.In base → base.Ns mainGlobals mg → FnOk P w K mg base CX k fa fd [x] sp) (hbind : ∀ (s : Shared) (u : Value), BindsTo s fd ⟨[u], []⟩ [(x, u)])
    (hsp : ∀ H : Hp, Only H → SqL K H a (ns.map V.int) → sp [.ref a] H (fun v _ => v = .bl true) fun _ _ _ => False)
    (hCX : ∀ H e s', CX [] H s₁ (fun _ _ _ => False) e s' → False) :
    codeAny (model P w) callerA (.call (.ref fa) ⟨[.ref a], []⟩) (fun r s' => r = .ok (.ret (.bool true)) ∧ OldK s₁.heap s'.heap ∧ s'.os = s₁.os ∧ AllBare s'.gens) s₁ := by
  have rv := vals_ints hi
  have lenV := hi.length
  -- from an abstract heap in which nothing but the script may be tracked
  have core : ∀ H : Hp, Only H → SqL K H a (ns.map V.int) → HOk P w H s₁.heap → (∀ b, H b ≠ none → b = a) → (H a ≠ none → K.lookup a = none) →
      codeAny (model P w) callerA (.call (.ref fa) ⟨[.ref a], []⟩) (fun r s' => r = .ok (.ret (.bool true)) ∧ OldK s₁.heap s'.heap ∧ s'.os = s₁.os ∧ AllBare s'.gens) s₁ := by
    intro H hO hS hok hA hK
    have base_of : ∀ {b : Addr} {o : Obj}, s₁.heap.get? b = some o → H b = none → (hidT s₁.heap H).get? b = some o := fun e n => hidT_get e n
    have noA : ∀ {b : Addr} {o : Obj} {es : Array DictEntry} {ep : Nat}, s₁.heap.get? b = some o → o.data = .dict es ep → H b = none := fun {b o es ep} e d => by
      cases q : H b with
      | none => rfl
      | some u =>
        have e' : b = a := hA b (by rw [q]; simp)
        subst e'
        rw [ha] at e; cases e
        have d' : Data.seq vs.toArray _ = Data.dict es ep := d
        cases d'
    have nsK : ∀ {b : Addr} {m : Str → Option Value}, s₁.heap.Ns b m → (hidT s₁.heap H).Ns b m := fun {b m} ⟨o, es, ep, e, d, r⟩ => ⟨o, es, ep, base_of e (noA e d), d, r⟩
    have hKb : K.In (hidT s₁.heap H) := fun b o e => base_of (KX b o e) (by
      cases q : H b with
      | none => rfl
      | some u =>
        have e' : b = a := hA b (by rw [q]; simp)
        subst e'
        rw [hK (by rw [q]; simp)] at e; cases e)
    have hM : Mod K mg (hidT s₁.heap H) := ⟨hKb, nsK hns, ⟨mb, nsK hb, hbb⟩, let ⟨mc, h1, h2⟩ := hlim; ⟨mc, nsK h1, h2⟩⟩
    have e0 : Env0 P w K mg (hidT s₁.heap H) callerA [] s₁ H := ⟨rfl, hM, fun b o e => of_hidT e, Nat.le_of_eq (hidT_size _ _), trivial, fun b hb => absurd (show b ∈ ([] : List Addr) from hb) (by simp), hok, .of_eq hg⟩
    refine codeAny_mono ((F _ hKb (nsK hns)).run callerA [] s₁ H ⟨[.ref a], []⟩ [.ref a] [.ref a] _ _ hr e0 (hbind s₁ (.ref a)) (.cons rfl .nil) (hsp H hO hS)) fun r s' h => ?_
    cases r with
    | error e => exact (hCX H e s' h).elim
    | ok fl =>
      cases fl with
      | next => exact False.elim h
      | brk => exact False.elim h
      | cont => exact False.elim h
      | ret u =>
        obtain ⟨v, H', os, bare, un, hok', r', q⟩ := h
        have q' : v = .bl true := q
        subst q'
        obtain rfl : u = Value.bool true := r'
        refine ⟨rfl, OldK.of_keep fun b o e => ?_, os, bare⟩
        cases q : H b with
        | none => exact un.keep b o e q (by intro z; exact absurd (show b ∈ ([] : List Addr) from z) (by simp)) (by simp)
        | some u =>
          rcases hO b with z | ⟨ob, xs, z⟩
          · rw [q] at z; cases z
          · have z2 := un.frzs b ob _ z
            obtain ⟨e1, _⟩ := hok b _ z
            obtain ⟨e2, _⟩ := hok' b _ z2
            rw [e] at e1; cases e1
            exact e2
  cases hk : K.lookup a with
  | some o =>
    -- the script is one of the module's own objects
    have e := KX a o hk
    rw [ha] at e
    cases e
    refine core (fun _ => none) (fun _ => .inl rfl) (.inr ⟨_, vs.toArray, _, hk, rfl, rfl, rfl, by rw [List.size_toArray, lenV]; exact hl, by simpa using rv⟩) (fun b u z => by have z' : (none : Option HO) = some u := z; cases z') (fun b z => absurd rfl z) fun z => absurd rfl z
  | none =>
    refine core (fun b => if b = a then some (.frz { cls := .type "list", data := .seq vs.toArray } (.lst (ns.map V.int))) else none) (fun b => ?_) (.inl (.inr ⟨{ cls := .type "list", data := .seq vs.toArray }, if_pos rfl⟩)) (fun b u z => ?_) (fun b z => ?_) fun _ => hk
    · by_cases hb : b = a
      · exact .inr ⟨_, _, if_pos hb⟩
      · exact .inl (if_neg hb)
    · by_cases hb : b = a
      · have z' := (if_pos hb).symm.trans z
        cases z'
        subst hb
        exact ⟨ha, by rw [List.length_map]; exact hl, vs, _, rv, ha⟩
      · have z' := (if_neg hb).symm.trans z
        cases z'
    · by_cases hb : b = a
      · exact hb
      · exact absurd (if_neg hb) z
end L2

namespace L2
open PySem PySem.Spec PyProof.Rows

theorem walk_of {l : PySem.W.OpenLaw} {n k : Nat} {q : Program} {loose : List Str} {XP : (Str → Option Value) → Heap → Prop} {YP : World → Heap → Prop} {d : DefRec} {K : Params → PySem.W.Frag} {CX : World → CXT} {sp : World → Sp} {x : Str}
    (hn : l.most = some n) (hn2 : n ≤ sizeLine) (hdf : d.params.defaults = []) (hr : Room k callerA)
    (hY : ∀ (w : World) (h : Heap), YP w h → (K w.params).In h)
    (F : ∀ (w : World) (mg : Str → Option Value) (fa : Addr) (h : Heap), (K w.params).In h → h.Ns mainGlobals mg → mg d.name = some (.ref fa) →
      ∃ fd : FuncData, (∀ (s : Shared) (u : Value), BindsTo s fd ⟨[u], []⟩ [(x, u)]) ∧
        ∀ base : Heap, (K w.params).In base → base.Ns mainGlobals mg → FnOk l.prog w (K w.params) mg base (CX w) k fa fd [x] (sp w))
    (hsp : ∀ (w : World) (H : Hp) (a : Addr) (ns : List Int), ns.length ≤ n → Only H → SqL (K w.params) H a (ns.map V.int) → sp w [.ref a] H (fun v _ => v = .bl true) fun _ _ _ => False)
    (hCX : ∀ (w : World) (H : Hp) (s : Shared) (e : Value) (s' : Shared), CX w [] H s (fun _ _ _ => False) e s' → False) :
    PySem.W.WalkO q loose XP YP l.row.toRowW d [] (fun f vs => PySem.call f vs) := by
  refine Att.attach_call hn hdf fun w s₀ s₁ mg mb fa o pm cd doc a vs ns G Y ho hd hcd hmg hobj hints hlen hg => ?_
  have KX := hY w _ Y
  obtain ⟨fd, hb, hF⟩ := F w mg fa _ KX G.T.g hmg
  exact law_call KX G.T.g G.T.b G.T.builtins G.T.nolimit hg hobj hints (Nat.le_trans hlen hn2) hr hF hb (fun H hO hS => hsp w H a ns hlen hO hS) fun H e s' => hCX w H s₁ e s'
end L2

/- THE LAST THEOREM (shape; LID, My.* are yours):
   My.Adr: a structure of the addresses that your layer names (classes, functions); My.Txt K t: a structure (Prop) of the equations over K;
   My.txt_mk : {K} {implicit addresses ..} (e1 : nsIn K mainGlobals "law" = some (some (.ref f))) (e2 : K.lookup f = some ⟨oc, od, .func (fnOf "law" "law" params body scope dV kV doc pm an cdv ct), sl⟩) (e3 : codeIn K cdv "law" = true) .. : ∃ t, My.Txt K t

set_option maxRecDepth 100000 in
set_option maxHeartbeats 0 in
theorem PySem.Challenge.cw_LID_holds : PySem.Challenge.rw_LID.Holds := by
  w_on; o_law; k_head; (case hw => w_witness2)
  k_fill
  refine L2.walk_of (l := PySem.Challenge.rw_LID) (n := 63) (k := 40) (x := "script") (CX := fun w => ..) (sp := fun _ => My.sp_law) rfl (by decide) rfl ⟨rfl, by decide, by decide⟩ (fun w h Y => PySem.W.kIn_of Y) ?F ?S ?C
  case F =>
    intro w mg fa h KX G hmg
    have T : ∃ t, My.Txt (L2.KOf KX) t := by
      dsimp only [L2.KOf]                          -- K must stand as «<heap const> w.params» for k_is
      refine' My.txt_mk ?e1 ?e2 ?e3 ..
      (case e1 => PySem.W.k_is)                    -- in the order: a name -> its address -> its object -> its parts
      (case e2 => PySem.W.k_is)
      ..
    obtain ⟨t, T⟩ := T
    have e0 := hmg.symm.trans (PySem.W.mg_of KX G T.law)
    cases e0                                       -- fa is the law's own address
    exact ⟨_, fun s u => .of_eq rfl, fun base kb nb => My.law_fn T kb nb⟩     -- if «.of_eq rfl» comes too early: refine' ⟨_, ?b, fun base kb nb => My.law_fn T kb nb⟩; exact fun s u => .of_eq rfl
  case S => exact fun w H a ns hl hO hS => ..
  case C => exact ..
(the tactic k_is has no namespace: write k_is) -/

/-! SHORT WORDS over the layer: a def of the text, its body, what a loop and a test want. -/
namespace L2
open PySem PySem.Spec PyProof.Rows

/-! ### the text by places -/
def defArgs (s : Stmt) : Arguments := match s with
  | .FunctionDef _ a _ _ _ _ _ _ _ _ => a
  | _ => { posonlyargs := [], args := [], vararg := none, kwonlyargs := [], kw_defaults := [], kwarg := none, defaults := [] }
def defBody (s : Stmt) : List Stmt := match s with
  | .FunctionDef _ _ b _ _ _ _ _ _ _ => b
  | _ => []
def defScope (s : Stmt) : Scope := match s with
  | .FunctionDef _ _ _ _ _ _ sc _ _ _ => sc
  | _ => { kind := .function, names := [], isGenerator := false, isCoroutine := false }

/-! ### no exception leaves a def -/
abbrev CX0 : CXT := fun _ _ _ _ _ _ => False
abbrev E0 : XK := fun _ _ _ => False
theorem pass0 {X : Cx} : Passes CX0 X E0 := fun _ _ _ _ _ _ _ h => h.elim

/-! ### a def (or method) of the text as it stands behind the top -/
structure Fun (K : PySem.W.Frag) (x qual : Str) (st : Stmt) (f : Addr) (fd : FuncData) : Prop where
  ex : ∃ (oc : Value) (od : Option Addr) (kV doc pm : Value) (an : Option Addr) (cdv ct : Value) (osl : Array (Option Value)),
    fd = PySem.W.fnOf x qual (defArgs st) (defBody st) (defScope st) .none kV doc pm an cdv ct ∧ K.lookup f = some ⟨oc, od, .func fd, osl⟩ ∧ PySem.W.codeIn K cdv qual = true
  kp : PySem.W.keepIn K (.ref f) = true
section
variable {P : Program} {w : World} {K : PySem.W.Frag} {mg : Str → Option Value} {base : Heap}
theorem Fun.ok {x qual : Str} {st : Stmt} {f : Addr} {fd : FuncData} {N ps : List Str} {k : Nat} {sp : Sp} (F : Fun K x qual st f fd) (S : FnScope N ps (defScope st)) (len : ∀ vs H Q E, sp vs H Q E → vs.length = ps.length)
    (hbody : ∀ (cdv : Value) (A : Around) (outer : List Env) (s : Shared) (H : Hp) (vs : List V) (Q : VK) (E : XK), Room k (A.deeper (envOfC qual (defScope st) s.heap.objs.size f cdv)) → sp vs H Q E →
      ∃ t, PSs (cxOf CX0 P w K mg base N qual (defScope st) f cdv A outer s H E).nox (defBody st) t ∧ t { nx := fun _ H' => Q .non H', rt := Q } (start N vs) H) : FnOk P w K mg base CX0 (k + 1) f fd ps sp := by
  obtain ⟨oc, od, kV, doc, pm, an, cdv, ct, osl, rfl, lk, hcd⟩ := F.ex
  refine fn_of lk hcd S len fun A outer s H vs Q E hr hsp => ?_
  obtain ⟨t, h, q⟩ := hbody cdv A outer s H vs Q E hr hsp
  exact ⟨t, h.nox, q⟩
theorem Fun.binds {x qual : Str} {st : Stmt} {f : Addr} {fd : FuncData} {ps : List Str} (F : Fun K x qual st f fd)
    (h : ∀ (kV doc pm : Value) (an : Option Addr) (cdv ct : Value) (us : List Value), us.length = ps.length → bindArgs (PySem.W.fnOf x qual (defArgs st) (defBody st) (defScope st) .none kV doc pm an cdv ct) ⟨us, []⟩ = pure (ps.zip us)) : Binds K fd ps [] := by
  obtain ⟨oc, od, kV, doc, pm, an, cdv, ct, osl, rfl, lk, hcd⟩ := F.ex
  exact .all (h kV doc pm an cdv ct)
theorem fun_mk {x qual : Str} {st : Stmt} {f : Addr} {oc : Value} {od an : Option Addr} {osl : Array (Option Value)} {kV doc pm cdv ct : Value} (l : K.lookup f = some ⟨oc, od, .func (PySem.W.fnOf x qual (defArgs st) (defBody st) (defScope st) .none kV doc pm an cdv ct), osl⟩)
    (c : PySem.W.codeIn K cdv qual = true) (k : PySem.W.keepIn K (.ref f) = true) : Fun K x qual st f (PySem.W.fnOf x qual (defArgs st) (defBody st) (defScope st) .none kV doc pm an cdv ct) := ⟨⟨oc, od, kV, doc, pm, an, cdv, ct, osl, rfl, l, c⟩, k⟩
end
/-! ### expressions in short: the name that stands in the i-th slot -/
section
variable {X : Cx}
theorem pv (i : Nat) {x : Str} {pos : Pos} (hN : X.N[i]? = some x := by rfl) (hv : Vis X.env.scope x := by first | exact Or.inl rfl | exact Or.inr (Or.inl rfl) | exact Or.inr (Or.inr rfl)) (hd : (x == ("__debug__" : Str)) = false := by decide)
    (hcd : (x == ("__classdict__" : Str)) = false := by decide) : PE X (.Name x pos) (tVar i) := pe_var hN hv hd hcd
end

/-! ### tests -/
theorem iteF {A B : Prop} (h : B) : if false = true then A else B := by
  rw [if_neg Bool.false_ne_true]
  exact h
theorem iteT {A B : Prop} (h : A) : if true = true then A else B := by
  rw [if_pos rfl]
  exact h
theorem ite2 {c A B : Prop} [Decidable c] (h1 : c → A) (h2 : ¬ c → B) : if c then A else B := by
  by_cases h : c
  · rw [if_pos h]
    exact h1 h
  · rw [if_neg h]
    exact h2 h
theorem iteNS {c A B : Prop} [Decidable c] (hc : c) (h : B) : if (!decide c) = true then A else B := by
  rw [decide_eq_true hc]
  exact iteF h

/-! ### heaps -/
def Same (H H' : Hp) : Prop := ∀ b o, H b = some o → H' b = some o
theorem Same.refl (H : Hp) : Same H H := fun _ _ h => h
theorem Same.trans {H H1 H2 : Hp} (a : Same H H1) (b : Same H1 H2) : Same H H2 := fun c o h => b c o (a c o h)
theorem Same.free {H H' : Hp} (e : Same H H') {l : Addr} (h : H' l = Option.none) : H l = Option.none := by
  cases q : H l with
  | none => rfl
  | some o =>
    rw [e l o q] at h
    cases h
theorem Same.seq {K : PySem.W.Frag} {H H' : Hp} {a : Addr} {xs : List V} (e : Same H H') (h : SqL K H a xs) : SqL K H' a xs := by
  rcases h with (h | ⟨o, h⟩) | h
  · exact .inl (.inl (e _ _ h))
  · exact .inl (.inr ⟨o, e _ _ h⟩)
  · exact .inr h

end L2

set_option Elab.async false
set_option linter.all false
set_option maxRecDepth 100000
set_option maxHeartbeats 4000000
namespace L2
open PySem PySem.Spec PyProof.Rows
/-! texts as lists of codes -/
abbrev S (l : List Nat) : Str := ⟨⟨l⟩⟩
theorem S_len (l : List Nat) : (S l).length = l.length := rfl
theorem S_app (a b : List Nat) : S a ++ S b = S (a ++ b) := by
  refine PyProof.Rows.ext_toList ?_
  rw [PySem.W.KT.app_list]
theorem S_inj {a b : List Nat} (h : S a = S b) : a = b := congrArg (fun x : Str => x.cps.toList) h
def cutL {α : Type} (l : List α) (lo hi : Option Int) : List α := (l.drop (HT.sIx l.length 0 lo)).take (HT.sIx l.length l.length hi - HT.sIx l.length 0 lo)
theorem clipS (v : Int) (n : Nat) : max 0 (min (if v < 0 then v + (n : Int) else v) (n : Int)) = ((HT.sIx n 0 (some v) : Nat) : Int) := by
  show _ = (((if v < 0 then (v + (n : Int)).toNat else min v.toNat n) : Nat) : Int)
  by_cases hv : v < 0
  · simp only [if_pos hv]; omega
  · simp only [if_neg hv]; omega
theorem strIx_eq (lo hi : Option Int) (n : Nat) : Builtin.Str.strSliceIndices lo hi 1 n = (List.range (HT.sIx n n hi - HT.sIx n 0 lo)).map (HT.sIx n 0 lo + ·) := by
  rw [← sliceRange_one]
  unfold Builtin.Str.strSliceIndices
  simp only [show (1 : Int) > 0 by decide, if_true]
  cases lo with
  | none =>
    cases hi with
    | none => rfl
    | some v => dsimp only; rw [clipS]; rfl
  | some u =>
    cases hi with
    | none => dsimp only; rw [clipS]; rfl
    | some v => dsimp only; rw [clipS, clipS]; rfl
theorem slice_S (l : List Nat) (lo hi : Option Int) : Txt.slice (S l) lo hi = S (cutL l lo hi) := by
  unfold Txt.slice
  rw [strIx_eq, pick_run]
  split
  · rename_i h
    have e : (List.map (HT.sIx (S l).length 0 lo + ·) (List.range (HT.sIx (S l).length (S l).length hi - HT.sIx (S l).length 0 lo))).length = (S l).length := by
      simpa using h
    rw [List.length_map, List.length_range, S_len] at e
    have h1 : HT.sIx l.length l.length hi ≤ l.length := HT.sIx_le _ _ (Nat.le_refl _) _
    have h0 : HT.sIx l.length 0 lo ≤ l.length := HT.sIx_le _ _ (Nat.zero_le _) _
    have z : l.length = 0 ∨ HT.sIx l.length 0 lo = 0 := by omega
    unfold cutL
    rcases z with z | z
    · have : l = [] := List.length_eq_zero_iff.mp z
      subst this
      simp
    · rw [z, List.drop_zero, List.take_of_length_le (by omega)]
  · rfl
section
variable {X : Cx}
theorem sl_str : SlR X (fun x lo hi H Q => ∃ l, x = .str (S l) ∧ l.length ≤ sizeLine ∧ Q (.str (S (cutL l lo hi))) H) := by
  intro pins s σ H x v vl vu lo hi sl Q I rx hs pl pu h
  obtain ⟨l, rfl, hz, q⟩ := h
  obtain ⟨t, rfl⟩ := rx
  refine ⟨"str", _, F.slot_str_getitem.lookup, typeIs_str _ _ _, ?_⟩
  have fin : ∀ t' k, EP X pins σ Q (.str (Txt.slice (S l) lo hi) t') { s with toks := k } := fun t' k => ⟨.str (S (cutL l lo hi)), H, I.tok _, ⟨t', by rw [slice_S]⟩, q⟩
  have hz' : ∀ lo hi, (Txt.slice (S l) lo hi).length ≤ sizeLine := fun lo hi => Nat.le_trans (Txt.slice_le _ _ _) hz
  cases pl with
  | none =>
    cases pu with
    | none => exact wpAny_getItem_str_slice (l := none) (u := none) (st := none) hs rfl (post_val_or_str ⟨hz' _ _, fin⟩)
    | int j tj => exact wpAny_getItem_str_slice (l := none) (u := some (j, tj)) (st := none) hs rfl (post_val_or_str ⟨hz' _ _, fin⟩)
  | int i ti =>
    cases pu with
    | none => exact wpAny_getItem_str_slice (l := some (i, ti)) (u := none) (st := none) hs rfl (post_val_or_str ⟨hz' _ _, fin⟩)
    | int j tj => exact wpAny_getItem_str_slice (l := some (i, ti)) (u := some (j, tj)) (st := none) hs rfl (post_val_or_str ⟨hz' _ _, fin⟩)
theorem op_adS : OpR X (binaryOp .Add) (fun x y H Q => ∃ a b, x = .str (S a) ∧ y = .str (S b) ∧ a.length + b.length ≤ sizeLine ∧ Q (.str (S (a ++ b))) H) := by
  intro pins s σ H x y v u Q I rx ry h
  obtain ⟨a, b, rfl, rfl, hz, q⟩ := h
  exact op_add_str pins s σ H _ _ v u Q I rx ry ⟨S a, S b, rfl, rfl, hz, by rw [S_app]; exact q⟩
theorem call_lenS : CallR X (.builtin "len") (fun xs H Q => ∃ l, xs = [.str (S l)] ∧ l.length ≤ sizeLine ∧ Q (.int l.length) H) := by
  intro pins s σ H xs us Q I r h
  obtain ⟨l, rfl, hz, q⟩ := h
  exact call_len_str pins s σ H _ us Q I r ⟨S l, rfl, hz, q⟩
theorem ix_S : IxR X (fun x y H Q => ∃ l i c, x = .str (S l) ∧ y = .int i ∧ l.length ≤ sizeLine ∧ atI l i = some c ∧ Q (.str (S [c])) H) := by
  intro value slice pins s σ H x y v u Q I rx ry h hs
  obtain ⟨l, i, c, rfl, rfl, hz, he, q⟩ := h
  exact ix_str value slice pins s σ H _ _ v u Q I rx ry ⟨S l, i, c, rfl, rfl, hz, he, q⟩ hs
def clsV : V → Value
  | .ty n => .type n
  | .ref a => .ref a
  | _ => .none
theorem call_isi : CallR X (.builtin "isinstance") (fun xs H Q => ∃ x c t b, xs = [x, c] ∧ (∃ n, c = .ty n ∨ ∃ a, c = .ref a) ∧ TyOf X.K H x t ∧ PySem.W.kitOne X.K t (clsV c) = some b ∧ Q (.bl b) H) := by
  intro pins s σ H xs us Q I r h
  obtain ⟨x, c, t, b, rfl, hc, ty, e, q⟩ := h
  obtain ⟨u, w, rfl, ru, rw'⟩ := r.two
  have ew : w = clsV c := by
    obtain ⟨n, rfl | ⟨a, rfl⟩⟩ := hc
    · exact rw'
    · exact rw'
  subst ew
  exact isinst_ok I ru ty e fun tk => ⟨.bl b, H, I.tok _, rfl, q⟩
end
/-! an own def, bundled -/
structure Own (P : Program) (w : World) (K : PySem.W.Frag) (mg : Str → Option Value) (base : Heap) (CX : CXT) (k : Nat) (x : Str) (ps : List Str) (sp : Sp) : Prop where
  ex : ∃ f fd, FnOk P w K mg base CX k f fd ps sp ∧ Binds K fd ps [] ∧ PySem.W.keepIn K (.ref f) = true ∧ mg x = some (.ref f)
section
variable {X : Cx} {CX : CXT} {j k : Nat} {ps : List Str} {sp : Sp} {E : XK} {x : Str} {p pos : Pos} {e : Expr} {es : List Expr} {t : TA}
theorem pe_own (O : Own X.prog X.w X.K X.mg X.base CX j x ps sp) (hr : Room k X.A) (hg : Gl X x) (hx : Passes CX X E) (ha : PA X (e :: es) t) (hj : j ≤ k := by decide) (hdb : (x == ("__debug__" : Str)) = false := by decide)
    (he : starEach (e :: es) X.env = (false, eval e X.env) :: starEach es X.env := by rfl) (hpl : (backTo pos (starEach es X.env)).any (·.1) = false := by rfl) : PE X (.Call (.Name x p) (e :: es) [] pos) (tCall sp [] E t) := by
  obtain ⟨f, fd, F, b, kp, m⟩ := O.ex
  exact pe_call F (hr.mono hj) hg m kp b .nil hx ha hdb he hpl
end
theorem boot_isi : bootBuiltins "isinstance" = some (.builtin "isinstance") := by first | exact PySem.boot_isinstance | decide +kernel
theorem small {n : Nat} (h : n ≤ 1000000) : n ≤ sizeLine := by rw [PySem.sizeLine_eq]; omega
theorem boot_int : bootBuiltins "int" = some (.type "int") := by decide +kernel
theorem boot_bool : bootBuiltins "bool" = some (.type "bool") := by decide +kernel
theorem boot_str : bootBuiltins "str" = some (.type "str") := by decide +kernel
theorem boot_tuple : bootBuiltins "tuple" = some (.type "tuple") := by decide +kernel
theorem boot_list : bootBuiltins "list" = some (.type "list") := by decide +kernel
theorem kit_ii {K : PySem.W.Frag} : PySem.W.kitOne K (.type "int") (.type "int") = some true := by rfl
theorem kit_ib {K : PySem.W.Frag} : PySem.W.kitOne K (.type "int") (.type "bool") = some false := by first | rfl | decide +kernel | (unfold PySem.W.kitOne; rfl)
theorem kit_ss {K : PySem.W.Frag} : PySem.W.kitOne K (.type "str") (.type "str") = some true := by rfl
theorem kit_tt {K : PySem.W.Frag} : PySem.W.kitOne K (.type "tuple") (.type "tuple") = some true := by rfl
theorem kit_ll {K : PySem.W.Frag} : PySem.W.kitOne K (.type "list") (.type "list") = some true := by rfl
theorem atI_in {α : Type} (l : List α) {i : Int} (h0 : 0 ≤ i) (h : i.toNat < l.length) : atI l i = some (l[i.toNat]) := by
  have e : ((i.toNat : Nat) : Int) = i := by omega
  have z := atI_nat (List.getElem?_eq_getElem h)
  rw [e] at z
  exact z
theorem cutL_nn {α : Type} (l : List α) (k hi : Nat) : cutL l (some (k : Int)) (some (hi : Int)) = (l.drop k).take (hi - k) := by
  unfold cutL
  rw [HT.sIx_nat, HT.sIx_nat]
  by_cases h : k ≤ l.length
  · rw [Nat.min_eq_left h]
    by_cases h2 : hi ≤ l.length
    · rw [Nat.min_eq_left h2]
    · rw [Nat.min_eq_right (by omega), List.take_of_length_le (by simp), List.take_of_length_le (by simp; omega)]
  · rw [List.drop_eq_nil_of_le (by omega), List.drop_eq_nil_of_le (by omega)]
    simp
theorem cutL_n {α : Type} (l : List α) (k : Nat) : cutL l (some (k : Int)) none = l.drop k := by
  unfold cutL
  rw [HT.sIx_nat, HT.sIx_none]
  by_cases h : k ≤ l.length
  · rw [Nat.min_eq_left h, List.take_of_length_le (by simp)]
  · rw [List.drop_eq_nil_of_le (by omega), List.drop_eq_nil_of_le (by omega)]
    simp
theorem cutL_m {α : Type} (l : List α) (k : Nat) : cutL l none (some (k : Int)) = l.take k := by
  unfold cutL
  rw [HT.sIx_nat, HT.sIx_none, List.drop_zero, Nat.sub_zero]
  by_cases h : k ≤ l.length
  · rw [Nat.min_eq_left h]
  · rw [Nat.min_eq_right (by omega), List.take_of_length_le (by omega), List.take_of_length_le (by omega)]
theorem cutL_j {α : Type} (l : List α) {i : Int} (hi : 0 ≤ i) : cutL l none (some i) = l.take i.toNat := by
  have e : i = (i.toNat : Int) := by omega
  rw [e, cutL_m]
  rfl
theorem cutL_map {α β : Type} (f : α → β) (l : List α) (lo hi : Option Int) : cutL (l.map f) lo hi = (cutL l lo hi).map f := by
  unfold cutL
  rw [List.length_map, List.map_take, List.map_drop]
theorem cutL_le {α : Type} (l : List α) (lo hi : Option Int) : (cutL l lo hi).length ≤ l.length := by
  unfold cutL
  rw [List.length_take, List.length_drop]
  omega
theorem same_new {H : Hp} {p : Addr} (h : H p = none) (o : HO) : Same H (upd H p o) := fun b u q => by rw [upd_ne (ne_of_none q h)]; exact q
theorem sq_cut {K : PySem.W.Frag} {H : Hp} {p : Addr} {cs : List Int} {lo hi : Option Int} : SqL K (upd H p (.lst (cutV (cs.map V.int) lo hi))) p ((cutL cs lo hi).map V.int) := by
  rw [← cutL_map]
  exact SqL.of upd_same
theorem iteDT {c A B : Prop} [Decidable c] (h : c) (x : A) : if decide c = true then A else B := by
  rw [decide_eq_true h]
  exact iteT x
theorem iteDF {c A B : Prop} [Decidable c] (h : ¬ c) (x : B) : if decide c = true then A else B := by
  rw [decide_eq_false h]
  exact iteF x
end L2

set_option Elab.async false
set_option linter.all false
set_option maxRecDepth 100000
set_option maxHeartbeats 4000000
namespace L2
open PySem PySem.Spec PyProof.Rows PySem.W PySem.Builtin.ObjectAttr PySem.Builtin.Getset_descriptor
/-! ## exceptions of own classes -/
section
variable {K : Frag} {e C : Addr} {M : Model} {h : Heap}
end
section
variable {X : Cx}
end
/-! ## how an exception lies behind a call: it flies; whatever is done to its own records, the rest stands -/
section
variable {X : Cx} {pins : List (Addr × Obj)} {σ : St} {H : Hp} {s : Shared}
end
section
variable {P : Program} {w : World} {K : Frag} {mg : Str → Option Value} {base : Heap} {N : List Str} {qual : Str} {scope : Scope} {f : Addr} {cd : Value} {A : Around} {outer : List Env} {s : Shared} {H : Hp} {E : XK}
end
/-! ## raise C(..) -/
section
variable {X : Cx} {x : Str} {C : Addr} {np cpos pos : Pos} {e0 : Expr} {t : TA} {E : XK}
end
/-! ## try: body; except M as n: suite -/
section
variable {X : Cx} {CX : CXT} {j k : Nat} {ps : List Str} {sp : Sp} {E : St → XK} {x : Str} {p pos : Pos} {e : Expr} {es : List Expr} {t : TA}
end
section
variable {X : Cx} {pins pins' : List (Addr × Obj)} {σ : St} {H : Hp} {s : Shared} {E : St → XK} {e : Addr}
end
section
variable {X : Cx} {pins : List (Addr × Obj)} {σ : St} {H H' : Hp} {s : Shared}
end
section
variable {X : Cx} {n x : Str} {i : Nat} {M : Addr} {body suite : List Stmt} {b₀ : Stmt} {np hpos pos : Pos} {tb : (St → XK) → TS} {ts : Addr → TS}
end
/-! ## a def that is called in an except suite -/
section
variable {P : Program} {w : World} {K : Frag} {mg : Str → Option Value} {base : Heap}
end
section
variable {X : Cx} {j k : Nat} {ps : List Str} {sp : Sp} {x : Str} {p pos : Pos} {e : Expr} {es : List Expr} {t : TA}
end
end L2

set_option Elab.async false
set_option linter.all false
set_option maxRecDepth 100000
set_option maxHeartbeats 4000000
namespace L2
open PySem PySem.Spec PyProof.Rows PySem.StrLaws
/-! ## texts: count, rfind of one sign; l * n -/
theorem occ_go (l : List Nat) (c : Nat) : ∀ (m a : Nat) (st : Array Nat × Nat), st.snd ≤ a → st.fst.size ≤ a → a + m ≤ l.length + 1 →
    (forIn (List.range' a m) st (occBody (S l) (S [c]) l.length (l.length + 1))).run.fst.toList = st.fst.toList ++ (List.range' a m).filter (fun i => l[i]? == some c)
  | 0, a, st, _, _, _ => by simp
  | m + 1, a, st, h1, h2, h3 => by
    rw [List.range'_succ, List.forIn_cons]
    unfold occBody
    have key := subAt_one (S l) c a
    by_cases hc : l[a]? = some c
    · have z := key.mpr hc
      rw [if_pos ⟨⟨⟨by omega, h1⟩, z.1⟩, z.2⟩]
      have ih := occ_go l c m (a + 1) (st.fst.push a, a + 1) (Nat.le_refl _) (by simp; omega) (by omega)
      rw [List.filter_cons, if_pos (by rw [hc]; exact beq_self_eq_true _)]
      refine Eq.trans ih ?_
      simp
    · have z : ¬ (((st.fst.size < l.length + 1 ∧ st.snd ≤ a) ∧ a + (S [c]).length ≤ l.length) ∧ Builtin.Str.subAt (S l) (S [c]) a = true) := fun q => hc (key.mp ⟨q.1.2, q.2⟩)
      rw [if_neg z]
      have ih := occ_go l c m (a + 1) (st.fst, st.snd) (by show st.snd ≤ a + 1; omega) (by show st.fst.size ≤ a + 1; omega) (by omega)
      rw [List.filter_cons, if_neg (by intro q; exact hc (beq_iff_eq.mp q))]
      exact ih
theorem occ_one (l : List Nat) (c : Nat) : Builtin.Str.occurrences (S l) (S [c]) 0 l.length (l.length + 1) = (List.range (l.length + 1)).filter (fun i => l[i]? == some c) := by
  rw [occ_eq, Nat.sub_zero, occ_go l c (l.length + 1) 0 (#[], 0) (Nat.le_refl _) (by simp) (by omega), List.range_eq_range']
  simp
theorem snoc_ind {α : Type} {P : List α → Prop} (h0 : P []) (h1 : ∀ l x, P l → P (l ++ [x])) (l : List α) : P l := by
  have z : ∀ l : List α, P l.reverse := fun l => by
    induction l with
    | nil => exact h0
    | cons x l ih => rw [List.reverse_cons]; exact h1 _ _ ih
  have e := z l.reverse
  rw [List.reverse_reverse] at e
  exact e
theorem places_len (c : Nat) (l : List Nat) : ((List.range l.length).filter (fun i => l[i]? == some c)).length = l.count c := by
  refine snoc_ind (P := fun l => ((List.range l.length).filter (fun i => l[i]? == some c)).length = l.count c) (by simp) (fun l x ih => ?_) l
  · rw [List.length_append, List.length_singleton, List.range_succ, List.filter_append, List.length_append, List.count_append]
    have e : (List.range l.length).filter (fun i => (l ++ [x])[i]? == some c) = (List.range l.length).filter (fun i => l[i]? == some c) := by
      apply List.filter_congr
      intro i hi
      rw [List.getElem?_append_left (List.mem_range.mp hi)]
    rw [e, ih, List.filter_cons, List.filter_nil, List.getElem?_append_right (Nat.le_refl _), Nat.sub_self]
    by_cases h : x = c
    · subst h; simp
    · have h' : ¬ (some x == some c) = true := fun q => h (Option.some.inj (beq_iff_eq.mp q))
      simp [h]
theorem count_one (l : List Nat) (c : Nat) : Txt.count (S l) (S [c]) = (l.count c : Int) := by
  unfold Txt.count
  rw [S_len, occ_one, List.range_succ, List.filter_append, List.length_append, places_len]
  simp
theorem at_iff (l : List Nat) (c i : Nat) : StrLaws.At (S l) (S [c]) l.length i ↔ l[i]? = some c := subAt_one (S l) c i
def rep (l : List Nat) (n : Nat) : List Nat := (List.replicate n l).flatten
theorem rep_len (l : List Nat) (n : Nat) : (rep l n).length = n * l.length := by
  unfold rep
  induction n with
  | zero => simp
  | succ n ih => rw [List.replicate_succ, List.flatten_cons, List.length_append, ih, Nat.succ_mul]; omega
theorem rep_all {l : List Nat} {n : Nat} {p : Nat → Prop} (h : ∀ c ∈ l, p c) : ∀ c ∈ rep l n, p c := by
  intro c hc
  unfold rep at hc
  obtain ⟨l', h1, h2⟩ := List.mem_flatten.mp hc
  rw [(List.mem_replicate.mp h1).2] at h2
  exact h c h2
theorem foldl_cps (l : List Nat) : ∀ (n : Nat) (acc : Array Nat), ((List.replicate n (⟨l⟩ : Array Nat)).foldl (· ++ ·) acc).toList = acc.toList ++ (List.replicate n l).flatten
  | 0, acc => by simp
  | n + 1, acc => by
    rw [List.replicate_succ, List.foldl_cons, foldl_cps l n, List.replicate_succ, List.flatten_cons, Array.toList_append, List.append_assoc]
theorem mul_S (l : List Nat) {n : Int} (h : 0 ≤ n) : Txt.mul (S l) n = S (rep l n.toNat) := by
  unfold Txt.mul
  split
  · have : n.toNat = 0 := by omega
    rw [this]
    rfl
  · split
    · rename_i h1 h2
      rw [Bool.or_eq_true, beq_iff_eq, beq_iff_eq] at h2
      rcases h2 with h2 | h2
      · subst h2
        unfold rep
        simp
      · have : l = [] := List.length_eq_zero_iff.mp h2
        subst this
        unfold rep
        simp
    · refine PyProof.Rows.ext_toList ?_
      show ((List.replicate n.toNat (⟨l⟩ : Array Nat)).foldl (· ++ ·) #[]).toList = (List.replicate n.toNat l).flatten
      rw [foldl_cps]
      simp
section
variable {X : Cx}
theorem op_mulS : OpR X (binaryOp .Mult) (fun x y H Q => ∃ l n, x = .str (S l) ∧ y = .int n ∧ 0 ≤ n ∧ n ≤ 1000 ∧ l.length ≤ 1000 ∧ Q (.str (S (rep l n.toNat))) H) := by
  intro pins s σ H x y v u Q I rx ry h
  obtain ⟨l, n, rfl, rfl, h0, h1, h2, q⟩ := h
  obtain ⟨t, rfl⟩ := rx
  obtain ⟨t', rfl⟩ := ry
  refine SB.mul ⟨?_, fun a b => ?_, fun a b => ?_⟩ fun t' k => ⟨.str (S (rep l n.toNat)), H, I.tok _, ⟨t', by rw [mul_S l h0]⟩, q⟩
  · have e1 : decide (n < -(2 ^ 63 : Int)) = false := decide_eq_false (by omega)
    have e2 : decide (n ≥ 2 ^ 63) = false := decide_eq_false (by omega)
    rw [e1, e2, Bool.or_false]
  · show ¬ ((l.length : Int) > (2 ^ 63 - 1) / n)
    have : (1000 : Int) ≤ (2 ^ 63 - 1) / n := by
      rw [Int.le_ediv_iff_mul_le (by omega)]
      omega
    omega
  · have hz : l.length * n.toNat ≤ 1000000 := by
      have := Nat.mul_le_mul h2 (show n.toNat ≤ 1000 by omega)
      omega
    show Builtin.Str.tooLong (l.length * n.toNat) = false
    unfold Builtin.Str.tooLong
    have := small hz
    simp
    omega
theorem mt_count : MtR X "str.count" (fun x vs H Q => ∃ l c, x = .str (S l) ∧ vs = [.str (S [c])] ∧ Q (.int (l.count c)) H) := by
  intro pins s σ H x vs v us Q I rx rv h
  obtain ⟨l, c, rfl, rfl, q⟩ := h
  obtain ⟨t, rfl⟩ := rx
  obtain ⟨u, rfl, t', rfl⟩ := rv.one
  refine SC.count ⟨.int (l.count c), H, I.tok _, ⟨_, by rw [count_one]⟩, q⟩
end
/-! ## == of two lists, of two tuples of flat values -/
def eqs : List V → List V → Bool
  | [], [] => true
  | x :: xs, y :: ys => eqV x y && eqs xs ys
  | _, _ => false
def eqAtJ (xs ys : List V) (j : Nat) : Bool := match xs[j]?, ys[j]? with
  | some x, some y => eqV x y
  | _, _ => false
theorem eqs_all : ∀ {xs ys : List V}, xs.length = ys.length → (List.range xs.length).all (eqAtJ xs ys) = eqs xs ys
  | [], [], _ => rfl
  | [], _ :: _, h => by cases h
  | _ :: _, [], h => by cases h
  | x :: xs, y :: ys, h => by
    have ih := eqs_all (xs := xs) (ys := ys) (Nat.succ.inj h)
    rw [List.length_cons, List.range_succ_eq_map, List.all_cons, List.all_map]
    unfold eqs
    rw [← ih]
    rfl
theorem Vals.at {xs : List V} {us : List Value} (r : Vals xs us) {j : Nat} (h : j < us.toArray.size) : ∃ x, xs[j]? = some x ∧ RelV x us.toArray[j] := by
  have hj : j < us.length := by simpa using h
  have hx : j < xs.length := by rw [r.length]; exact hj
  obtain ⟨u, hu, ru⟩ := r.get (List.getElem?_eq_getElem hx)
  refine ⟨xs[j], List.getElem?_eq_getElem hx, ?_⟩
  rw [List.getElem?_eq_getElem hj] at hu
  cases hu
  simpa using ru
theorem flat_at {xs : List V} (h : xs.all flatV = true) {j : Nat} {x : V} (e : xs[j]? = some x) : flatV x = true := List.all_eq_true.mp h x (List.mem_of_getElem? e)
section
variable {X : Cx}
end
end L2

set_option Elab.async false
set_option linter.all false
set_option maxRecDepth 100000
set_option maxHeartbeats 4000000
namespace L2
open PySem PySem.Spec PyProof.Rows PySem.StrLaws
/-! ## != of lists and tuples; == of lists of the same references -/
section
variable {X : Cx}
theorem refs_same {as : List Addr} {us : List Value} (r : Vals (as.map V.ref) us) : us = as.map Value.ref := by
  induction as generalizing us with
  | nil => cases r; rfl
  | cons a as ih =>
    rw [List.map_cons] at r
    cases r with
    | cons r1 r2 => rw [ih r2, List.map_cons]; congr 1
theorem all_true (n : Nat) : (List.range n).all (fun _ => true) = true := by simp
end
/-! ## split('\n') -/
def occs (l : List Nat) : List Nat := (List.range l.length).filter (fun i => l[i]? == some 10)
theorem occ_nl (l : List Nat) : Builtin.Str.occurrences (S l) (S [10]) 0 l.length (l.length + 1) = occs l := by
  rw [occ_one, List.range_succ, List.filter_append]
  unfold occs
  simp
def starts (l : List Nat) : List Nat := 0 :: (occs l).map (· + 1)
def stops (l : List Nat) : List Nat := occs l ++ [l.length]
def splitL (l : List Nat) : List (List Nat) := ((starts l).zip (stops l)).map fun p => (l.drop p.1).take (p.2 - p.1)
theorem sub_S (l : List Nat) (i j : Nat) : Builtin.Str.strSub (S l) i j = S ((l.drop i).take (j - i)) := by
  refine PyProof.Rows.ext_toList ?_
  show ((⟨l⟩ : Array Nat).extract i j).toList = (l.drop i).take (j - i)
  simp [List.extract_eq_take_drop]
theorem parts_S (l : List Nat) : Builtin.Str.partsBetween (S l) (occs l) 1 = (splitL l).map S := by
  unfold Builtin.Str.partsBetween splitL starts stops
  rw [List.map_map]
  apply List.map_congr_left
  rintro ⟨i, j⟩ _
  exact sub_S l i j
theorem occs_len (l : List Nat) : (occs l).length = l.count 10 := places_len 10 l
theorem starts_len (l : List Nat) : (starts l).length = l.count 10 + 1 := by unfold starts; rw [List.length_cons, List.length_map, occs_len]
theorem stops_len (l : List Nat) : (stops l).length = l.count 10 + 1 := by unfold stops; rw [List.length_append, occs_len]; rfl
theorem splitL_len (l : List Nat) : (splitL l).length = l.count 10 + 1 := by unfold splitL; rw [List.length_map, List.length_zip, starts_len, stops_len, Nat.min_self]
theorem splitL_one {l : List Nat} (h : occs l = []) : splitL l = [l] := by
  unfold splitL starts stops
  rw [h]
  simp
theorem count_le (l : List Nat) : l.count 10 ≤ l.length := List.count_le_length
section
variable {X : Cx}
theorem vals_from (tk : Nat) : ∀ (ls : List (List Nat)), Vals (ls.map fun r => V.str (S r)) (strsFrom tk (ls.map S)) := by
  intro ls
  induction ls generalizing tk with
  | nil => exact .nil
  | cons r ls ih => exact .cons ⟨_, rfl⟩ (ih (tk + 1))
theorem mt_split : MtR X "str.split" (fun x vs H Q => ∃ l, x = .str (S l) ∧ vs = [.str (S [10])] ∧ l.length ≤ 100000 ∧ ∀ p, H p = none → Q (.ref p) (upd H p (.lst ((splitL l).map fun r => .str (S r))))) := by
  intro pins s σ H x vs v us Q I rx rv h
  obtain ⟨l, rfl, rfl, hl, q⟩ := h
  obtain ⟨t, rfl⟩ := rx
  obtain ⟨u, rfl, t', rfl⟩ := rv.one
  have hz : ((splitL l).map fun r => V.str (S r)).length ≤ sizeLine := by
    rw [List.length_map, splitL_len]
    have := count_le l
    exact small (by omega)
  have one : ∀ e : occs l = [], EP X pins σ Q (.ref s.heap.objs.size) { s with heap := s.heap.push { cls := .type "list", data := .seq [Value.str (S l) t].toArray } } := fun e => by
    have J := I.lnew (ys := (splitL l).map fun r => V.str (S r)) (its := [Value.str (S l) t]) (t' := s.toks) (by rw [splitL_one e]; exact .cons ⟨_, rfl⟩ .nil) hz
    exact ⟨.ref s.heap.objs.size, _, J, rfl, q _ I.fresh⟩
  have hw : (((S [10]).length == 0) : Bool) = false := rfl
  cases h1 : (decide ((S l).length < (S [10]).length) || decide (Builtin.Str.strKind (S l) < Builtin.Str.strKind (S [10]))) with
  | true =>
    have e : occs l = [] := by
      have k1 : Builtin.Str.strKind (S [10]) = 1 := by decide +kernel
      have k2 : 1 ≤ Builtin.Str.strKind (S l) := by unfold Builtin.Str.strKind; split <;> (try split) <;> omega
      rw [Bool.or_eq_true, decide_eq_true_eq, decide_eq_true_eq] at h1
      have hlen : (S [10]).length = 1 := rfl
      have : l.length = 0 := by
        rcases h1 with z | z
        · have z' : l.length < 1 := z
          omega
        · omega
      have : l = [] := List.length_eq_zero_iff.mp this
      subst this
      rfl
    exact call_meets F.slot_str_split (typeIs_str _ _ _) F.entry_str_split (F.args_str_split_2 _ _) (meets_str_split_cannot_occur (S l) (S [10]) t t' h1) (one e)
  | false =>
    have eo : Builtin.Str.occurrences (S l) (S [10]) 0 (S l).length ((S l).length + 1) = occs l := occ_nl l
    cases hf : (occs l).isEmpty with
    | true =>
      have e : occs l = [] := List.isEmpty_iff.mp hf
      exact call_meets F.slot_str_split (typeIs_str _ _ _) F.entry_str_split (F.args_str_split_2 _ _) (meets_str_split_not_found (S l) (S [10]) t t' h1 hw (by rw [eo]; exact hf)) (one e)
    | false =>
      have ep : Builtin.Str.partsBetween (S l) (Builtin.Str.occurrences (S l) (S [10]) 0 (S l).length ((S l).length + 1)) (S [10]).length = (splitL l).map S := by rw [eo]; exact parts_S l
      refine call_meets F.slot_str_split (typeIs_str _ _ _) F.entry_str_split (F.args_str_split_2 _ _) (meets_str_split_sep (S l) (S [10]) t t' h1 hw (by rw [eo]; exact hf) (small (by show l.length ≤ 1000000; omega)) (by rw [ep, List.length_map]; rw [List.length_map] at hz; exact hz)) ?_
      have J := I.lnew (ys := (splitL l).map fun r => V.str (S r)) (its := strsFrom s.toks ((splitL l).map S)) (t' := s.toks + ((splitL l).map S).length) (vals_from _ _) hz
      show EP X pins σ Q (.ref s.heap.objs.size) _
      rw [ep]
      exact ⟨.ref s.heap.objs.size, _, J, rfl, q _ I.fresh⟩
end
/-! ## the rows of a text, by their begins and ends -/
theorem occs_mem {l : List Nat} {i : Nat} (h : i ∈ occs l) : i < l.length := List.mem_range.mp (List.mem_filter.mp h).1
theorem occs_sorted (l : List Nat) : (occs l).Pairwise (· < ·) := List.Pairwise.filter _ List.pairwise_lt_range
theorem stops_sorted (l : List Nat) : (stops l).Pairwise (· < ·) := by
  unfold stops
  rw [List.pairwise_append]
  refine ⟨occs_sorted l, by simp, fun a ha b hb => ?_⟩
  rw [List.mem_singleton] at hb
  subst hb
  exact occs_mem ha
def endAt (l : List Nat) (i : Nat) : Nat := (stops l).getD i 0
def begAt (l : List Nat) : Nat → Nat
  | 0 => 0
  | i + 1 => endAt l i + 1
theorem stops_at {l : List Nat} {i : Nat} (h : i < l.count 10 + 1) : (stops l)[i]? = some (endAt l i) := by
  unfold endAt
  rw [List.getD_eq_getElem?_getD, List.getElem?_eq_getElem (by rw [stops_len]; exact h)]
  rfl
theorem end_le {l : List Nat} {i : Nat} (h : i < l.count 10 + 1) : endAt l i ≤ l.length := by
  have m := List.mem_of_getElem? (stops_at h)
  unfold stops at m
  rcases List.mem_append.mp m with z | z
  · exact Nat.le_of_lt (occs_mem z)
  · rw [List.mem_singleton] at z; omega
theorem starts_at {l : List Nat} {i : Nat} (h : i < l.count 10 + 1) : (starts l)[i]? = some (begAt l i) := by
  unfold starts
  cases i with
  | zero => rfl
  | succ i =>
    rw [List.getElem?_cons_succ, List.getElem?_map]
    have e := stops_at (l := l) (i := i) (by omega)
    unfold stops at e
    rw [List.getElem?_append_left (by rw [occs_len]; omega)] at e
    rw [e]
    rfl
theorem beg_le {l : List Nat} {i : Nat} (h : i < l.count 10 + 1) : begAt l i ≤ endAt l i := by
  cases i with
  | zero => exact Nat.zero_le _
  | succ i =>
    have s := stops_sorted l
    have e1 := stops_at (l := l) (i := i) (by omega)
    have e2 := stops_at (l := l) (i := i + 1) h
    obtain ⟨h1, g1⟩ := List.getElem?_eq_some_iff.mp e1
    obtain ⟨h2, g2⟩ := List.getElem?_eq_some_iff.mp e2
    have := (List.pairwise_iff_getElem.mp s) i (i + 1) h1 h2 (by omega)
    show endAt l i + 1 ≤ endAt l (i + 1)
    omega
theorem splitL_at {l : List Nat} {i : Nat} (h : i < l.count 10 + 1) : ∃ r : List Nat, (splitL l)[i]? = some r ∧ r.length = endAt l i - begAt l i := by
  refine ⟨(l.drop (begAt l i)).take (endAt l i - begAt l i), ?_, ?_⟩
  · unfold splitL
    have z : ((starts l).zip (stops l))[i]? = some (begAt l i, endAt l i) := by
      rw [List.getElem?_zip_eq_some]
      exact ⟨starts_at h, stops_at h⟩
    rw [List.getElem?_map, z]
    rfl
  · have := end_le h
    rw [List.length_take, List.length_drop]
    omega
theorem boot_min : bootBuiltins "min" = some (.builtin "min") := by decide +kernel
theorem boot_max : bootBuiltins "max" = some (.builtin "max") := by decide +kernel
theorem same_upd {H H' : Hp} {p : Addr} {o : HO} (h : Same H H') (n : H p = none) : Same H (upd H' p o) := fun b u q => by
  rw [upd_ne (ne_of_none q n)]
  exact h b u q
end L2

set_option Elab.async false
set_option linter.all false
set_option maxRecDepth 100000
set_option maxHeartbeats 4000000
namespace L2
open PySem PySem.Spec PyProof.Rows PySem.StrLaws
/-! ## split('\n', k): cut at the first k line feeds; find('\n', i) -/
theorem occ_goK (l : List Nat) (c k : Nat) : ∀ (m a : Nat) (st : Array Nat × Nat), st.snd ≤ a → st.fst.size ≤ k →
    (forIn (List.range' a m) st (occBody (S l) (S [c]) l.length k)).run.fst.toList = (st.fst.toList ++ (List.range' a m).filter (fun i => l[i]? == some c)).take k
  | 0, a, st, _, h2 => by
    have e : st.fst.toList.take k = st.fst.toList := List.take_of_length_le (by simpa using h2)
    simp [e]
  | m + 1, a, st, h1, h2 => by
    rw [List.range'_succ, List.forIn_cons]
    unfold occBody
    have key := subAt_one (S l) c a
    by_cases hc : l[a]? = some c
    · have z := key.mpr hc
      have ef : (a :: List.range' (a + 1) m).filter (fun i => l[i]? == some c) = a :: (List.range' (a + 1) m).filter (fun i => l[i]? == some c) := by
        rw [List.filter_cons, if_pos (by rw [hc]; exact beq_self_eq_true _)]
      rw [ef]
      by_cases hk : st.fst.size < k
      · rw [if_pos ⟨⟨⟨hk, h1⟩, z.1⟩, z.2⟩]
        have ih := occ_goK l c k m (a + 1) (st.fst.push a, a + 1) (Nat.le_refl _) (by simp; omega)
        refine Eq.trans ih ?_
        simp
      · rw [if_neg (fun q => hk q.1.1.1)]
        have ih := occ_goK l c k m (a + 1) (st.fst, st.snd) (by show st.snd ≤ a + 1; omega) h2
        refine Eq.trans ih ?_
        have e : k = st.fst.toList.length := by simp; omega
        rw [e, List.take_left', List.take_left'] <;> rfl
    · have z : ¬ (((st.fst.size < k ∧ st.snd ≤ a) ∧ a + (S [c]).length ≤ l.length) ∧ Builtin.Str.subAt (S l) (S [c]) a = true) := fun q => hc (key.mp ⟨q.1.2, q.2⟩)
      rw [if_neg z]
      have ih := occ_goK l c k m (a + 1) (st.fst, st.snd) (by show st.snd ≤ a + 1; omega) h2
      rw [List.filter_cons, if_neg (by intro q; exact hc (beq_iff_eq.mp q))]
      exact ih
theorem occ_K (l : List Nat) (k : Nat) : Builtin.Str.occurrences (S l) (S [10]) 0 l.length k = (occs l).take k := by
  rw [occ_eq, Nat.sub_zero, occ_goK l 10 k (l.length + 1) 0 (#[], 0) (Nat.le_refl _) (Nat.zero_le _), ← List.range_eq_range', List.range_succ, List.filter_append]
  unfold occs
  simp
def splitM (l : List Nat) (k : Nat) : List (List Nat) := (((0 :: ((occs l).take k).map (· + 1))).zip ((occs l).take k ++ [l.length])).map fun p => (l.drop p.1).take (p.2 - p.1)
theorem parts_M (l : List Nat) (k : Nat) : Builtin.Str.partsBetween (S l) ((occs l).take k) 1 = (splitM l k).map S := by
  unfold Builtin.Str.partsBetween splitM
  rw [List.map_map]
  apply List.map_congr_left
  rintro ⟨i, j⟩ _
  exact sub_S l i j
theorem takeK_len {l : List Nat} {k : Nat} (h : k ≤ l.count 10) : ((occs l).take k).length = k := by rw [List.length_take, occs_len]; omega
theorem splitM_len {l : List Nat} {k : Nat} (h : k ≤ l.count 10) : (splitM l k).length = k + 1 := by
  unfold splitM
  rw [List.length_map, List.length_zip, List.length_cons, List.length_map, List.length_append, takeK_len h, List.length_singleton, Nat.min_self]
theorem splitM_one {l : List Nat} {k : Nat} (h : (occs l).take k = []) : splitM l k = [l] := by
  unfold splitM
  rw [h]
  simp
theorem splitM_at {l : List Nat} {k : Nat} (h : k ≤ l.count 10) : (splitM l k)[k]? = some (l.drop (begAt l k)) := by
  unfold splitM
  have e2 : ((occs l).take k ++ [l.length])[k]? = some l.length := by
    rw [List.getElem?_append_right (by rw [takeK_len h]; exact Nat.le_refl _), takeK_len h, Nat.sub_self]
    rfl
  have e1 : (0 :: ((occs l).take k).map (· + 1))[k]? = some (begAt l k) := by
    have s := starts_at (l := l) (i := k) (by omega)
    unfold starts at s
    rw [← s]
    cases k with
    | zero => rfl
    | succ k => rw [List.getElem?_cons_succ, List.getElem?_cons_succ, List.getElem?_map, List.getElem?_map, List.getElem?_take_of_lt (by omega)]
  have z : ((0 :: ((occs l).take k).map (· + 1)).zip ((occs l).take k ++ [l.length]))[k]? = some (begAt l k, l.length) := by
    rw [List.getElem?_zip_eq_some]
    exact ⟨e1, e2⟩
  rw [List.getElem?_map, z]
  show some ((l.drop (begAt l k)).take (l.length - begAt l k)) = _
  rw [List.take_of_length_le (by rw [List.length_drop]; exact Nat.le_refl _)]
def ffN (l : List Nat) (i : Nat) : Int := Txt.find3 (S l) (S [10]) (i : Int)
theorem ffN_spec (l : List Nat) (i : Nat) : (ffN l i = -1 ∧ ∀ k : Nat, i ≤ k → ¬ l[k]? = some 10) ∨ ∃ j : Nat, ffN l i = (j : Int) ∧ i ≤ j ∧ l[j]? = some 10 ∧ ∀ k, i ≤ k → k < j → ¬ l[k]? = some 10 := by
  have ei : fromIndex (S l).length (i : Int) = i := by
    unfold fromIndex
    rw [if_neg (by omega)]
    omega
  unfold ffN Txt.find3
  rw [ei]
  rcases occ_head_from (S l) (S [10]) i 1 (Nat.le_refl _) with ⟨h1, h2⟩ | ⟨j, r, h1, h2, h3, h4⟩
  · refine .inl ⟨by rw [h1], fun k hk q => h2 k hk ((at_iff l 10 k).mpr q)⟩
  · refine .inr ⟨j, by rw [h1], h2, (at_iff l 10 j).mp h3, fun k hk hj q => h4 k hk hj ((at_iff l 10 k).mpr q)⟩
theorem occs_iff {l : List Nat} {i : Nat} : i ∈ occs l ↔ l[i]? = some 10 := by
  unfold occs
  rw [List.mem_filter, List.mem_range, beq_iff_eq]
  exact ⟨fun h => h.2, fun h => ⟨(List.getElem?_eq_some_iff.mp h).1, h⟩⟩
theorem endAt_last {l : List Nat} : endAt l (l.count 10) = l.length := by
  have s := stops_at (l := l) (i := l.count 10) (by omega)
  unfold stops at s
  rw [List.getElem?_append_right (by rw [occs_len]; exact Nat.le_refl _), occs_len, Nat.sub_self] at s
  exact (Option.some.inj s).symm
theorem occs_at {l : List Nat} {i : Nat} (h : i < l.count 10) : (occs l)[i]? = some (endAt l i) := by
  have s := stops_at (l := l) (i := i) (by omega)
  unfold stops at s
  rwa [List.getElem?_append_left (by rw [occs_len]; exact h)] at s
theorem occs_nth {l : List Nat} {j : Nat} (h : l[j]? = some 10) : ∃ i, i < l.count 10 ∧ endAt l i = j := by
  obtain ⟨i, hi, e⟩ := List.getElem_of_mem (occs_iff.mpr h)
  have hi' : i < l.count 10 := by rwa [occs_len] at hi
  refine ⟨i, hi', ?_⟩
  have := occs_at hi'
  rw [List.getElem?_eq_getElem hi, e] at this
  exact (Option.some.inj this).symm
theorem endAt_lt {l : List Nat} {i j : Nat} (h : i < j) (hj : j ≤ l.count 10) : endAt l i < endAt l j := by
  have s := stops_sorted l
  obtain ⟨h1, g1⟩ := List.getElem?_eq_some_iff.mp (stops_at (l := l) (i := i) (by omega))
  obtain ⟨h2, g2⟩ := List.getElem?_eq_some_iff.mp (stops_at (l := l) (i := j) (by omega))
  have := (List.pairwise_iff_getElem.mp s) i j h1 h2 h
  rwa [g1, g2] at this
theorem ffN_row {l : List Nat} {r : Nat} (h : r ≤ l.count 10) : (ffN l (begAt l r) = -1 ∧ endAt l r = l.length) ∨ ffN l (begAt l r) = (endAt l r : Nat) := by
  have hbe := beg_le (l := l) (i := r) (by omega)
  have no : ∀ k, begAt l r ≤ k → k < endAt l r → ¬ l[k]? = some 10 := by
    intro k h1 h2 q
    obtain ⟨i, hi, rfl⟩ := occs_nth q
    by_cases hir : i < r
    · obtain ⟨r', rfl⟩ : ∃ r', r = r' + 1 := ⟨r - 1, by omega⟩
      have e : begAt l (r' + 1) = endAt l r' + 1 := rfl
      rcases Nat.lt_or_ge i r' with z | z
      · have := endAt_lt (l := l) z (by omega); omega
      · have : i = r' := by omega
        subst this; omega
    · rcases Nat.lt_or_ge r i with z | z
      · have := endAt_lt (l := l) z (by omega); omega
      · have : i = r := by omega
        subst this; omega
  rcases ffN_spec l (begAt l r) with ⟨h1, h2⟩ | ⟨j, h1, h2, h3, h4⟩
  · refine .inl ⟨h1, ?_⟩
    rcases Nat.lt_or_ge r (l.count 10) with z | z
    · exact absurd (occs_iff.mp (List.mem_of_getElem? (occs_at z))) (h2 _ hbe)
    · have : r = l.count 10 := by omega
      rw [this]; exact endAt_last
  · refine .inr ?_
    rw [h1]
    have hj := (List.getElem?_eq_some_iff.mp h3).1
    have : ¬ j < endAt l r := fun z => no j h2 z h3
    rcases Nat.lt_or_ge r (l.count 10) with z | z
    · have : ¬ endAt l r < j := fun q => h4 _ hbe q (occs_iff.mp (List.mem_of_getElem? (occs_at z)))
      congr 1; omega
    · have e : r = l.count 10 := by omega
      have : endAt l r = l.length := by rw [e]; exact endAt_last
      omega
section
variable {X : Cx}
theorem mt_findN : MtR X "str.find" (fun x vs H Q => ∃ (l : List Nat) (i : Nat), x = .str (S l) ∧ vs = [.str (S [10]), .int (i : Int)] ∧ Q (.int (ffN l i)) H) := by
  intro pins s σ H x vs v us Q I rx rv h
  obtain ⟨l, i, rfl, rfl, q⟩ := h
  obtain ⟨t, rfl⟩ := rx
  obtain ⟨u1, u2, rfl, ⟨t1, rfl⟩, ⟨t2, rfl⟩⟩ := rv.two
  refine SC.find3 ⟨.int (ffN l i), H, I.tok _, ⟨_, rfl⟩, q⟩
theorem mt_splitM : MtR X "str.split" (fun x vs H Q => ∃ (l : List Nat) (k : Nat), x = .str (S l) ∧ vs = [.str (S [10]), .int (k : Int)] ∧ k ≤ l.count 10 ∧ l.length ≤ 100000 ∧ ∀ p, H p = none → Q (.ref p) (upd H p (.lst ((splitM l k).map fun r => .str (S r))))) := by
  intro pins s σ H x vs v us Q I rx rv h
  obtain ⟨l, k, rfl, rfl, hk, hl, q⟩ := h
  obtain ⟨t, rfl⟩ := rx
  obtain ⟨u1, u2, rfl, ⟨t1, rfl⟩, ⟨t2, rfl⟩⟩ := rv.two
  have hc := count_le l
  have hz : ((splitM l k).map fun r => V.str (S r)).length ≤ sizeLine := by
    rw [List.length_map, splitM_len hk]
    exact small (by omega)
  have hk2 : (decide ((k : Int) < -(2 ^ 63 : Int)) || decide ((k : Int) ≥ 2 ^ 63)) = false := by
    have e1 : decide ((k : Int) < -(2 ^ 63 : Int)) = false := decide_eq_false (by omega)
    have e2 : decide ((k : Int) ≥ 2 ^ 63) = false := decide_eq_false (by omega)
    rw [e1, e2, Bool.or_false]
  have elim : limitOf (S l) (k : Int) = k := by unfold limitOf; rw [if_neg (by omega)]; rfl
  have one : ∀ e : (occs l).take k = [], EP X pins σ Q (.ref s.heap.objs.size) { s with heap := s.heap.push { cls := .type "list", data := .seq [Value.str (S l) t].toArray } } := fun e => by
    have J := I.lnew (ys := (splitM l k).map fun r => V.str (S r)) (its := [Value.str (S l) t]) (t' := s.toks) (by rw [splitM_one e]; exact .cons ⟨_, rfl⟩ .nil) hz
    exact ⟨.ref s.heap.objs.size, _, J, rfl, q _ I.fresh⟩
  have hw : (((S [10]).length == 0) : Bool) = false := rfl
  cases h1 : (decide ((S l).length < (S [10]).length) || decide (Builtin.Str.strKind (S l) < Builtin.Str.strKind (S [10]))) with
  | true =>
    have e : occs l = [] := by
      have k1 : Builtin.Str.strKind (S [10]) = 1 := by decide +kernel
      have k2 : 1 ≤ Builtin.Str.strKind (S l) := by unfold Builtin.Str.strKind; split <;> (try split) <;> omega
      rw [Bool.or_eq_true, decide_eq_true_eq, decide_eq_true_eq] at h1
      have hlen : (S [10]).length = 1 := rfl
      have : l.length = 0 := by
        rcases h1 with z | z
        · have z' : l.length < 1 := z
          omega
        · omega
      have : l = [] := List.length_eq_zero_iff.mp this
      subst this
      rfl
    exact call_meets F.slot_str_split (typeIs_str _ _ _) F.entry_str_split (F.args_str_split_3 _ _ _) (meets_str_split_max_cannot_occur (S l) (S [10]) k t t1 t2 hk2 h1) (one (by rw [e]; exact List.take_nil))
  | false =>
    have eo : Builtin.Str.occurrences (S l) (S [10]) 0 (S l).length (limitOf (S l) (k : Int)) = (occs l).take k := by rw [elim]; exact occ_K l k
    cases hf : ((occs l).take k).isEmpty with
    | true =>
      have e : (occs l).take k = [] := List.isEmpty_iff.mp hf
      exact call_meets F.slot_str_split (typeIs_str _ _ _) F.entry_str_split (F.args_str_split_3 _ _ _) (meets_str_split_max_not_found (S l) (S [10]) k t t1 t2 hk2 h1 hw (by rw [eo]; exact hf)) (one e)
    | false =>
      have ep : Builtin.Str.partsBetween (S l) (Builtin.Str.occurrences (S l) (S [10]) 0 (S l).length (limitOf (S l) (k : Int))) (S [10]).length = (splitM l k).map S := by rw [eo]; exact parts_M l k
      refine call_meets F.slot_str_split (typeIs_str _ _ _) F.entry_str_split (F.args_str_split_3 _ _ _) (meets_str_split_sep_max (S l) (S [10]) k t t1 t2 hk2 h1 hw (by rw [eo]; exact hf) (small (by show l.length ≤ 1000000; omega)) (by rw [ep, List.length_map]; rw [List.length_map] at hz; exact hz)) ?_
      have J := I.lnew (ys := (splitM l k).map fun r => V.str (S r)) (its := strsFrom s.toks ((splitM l k).map S)) (t' := s.toks + ((splitM l k).map S).length) (vals_from _ _) hz
      show EP X pins σ Q (.ref s.heap.objs.size) _
      rw [ep]
      exact ⟨.ref s.heap.objs.size, _, J, rfl, q _ I.fresh⟩
end
end L2

set_option Elab.async false
set_option linter.all false
set_option maxRecDepth 100000
set_option maxHeartbeats 4000000
namespace L2
open PySem PySem.Spec PyProof.Rows
/-! ### comprehensions: the block runs in a context of its own -/
abbrev blk (X : Cx) (scope : Scope) (cl : List (Str × Addr)) (NB : List Str) (C : Addr) (fp : List Addr) (s3 : Shared) (H3 : Hp) : Cx :=
  { X with env := compEnvC scope cl C X.env, N := NB, s₀ := s3, H₀ := H3, outer := X.stack, stack := X.stack, ex := fp, fn := fun _ => false, xe := fun _ _ => False }
def around (ix : List (Option Nat)) (σ : St) : St := ix.map fun o => o.bind fun j => (σ[j]?).bind id
structure ClOk (X : Cx) (scope : Scope) (cl : List (Str × Addr)) (NB : List Str) (ix : List (Option Nat)) : Prop where
  clos : closureFor scope X.env = pure cl
  cell : ∀ y ∈ scope.names, y.2 ≠ .cell
  kind : scope.kind = .function
  names : ∀ y ∈ scope.names, y.2 = .local → scope.names.lookup y.1 = some .local
  sub : ∀ x c, cl.lookup x = some c → X.env.cells.lookup x = some c
  has : ∀ C x, ((compEnvC scope cl C X.env).kindOf x = some .cell ∨ (compEnvC scope cl C X.env).kindOf x = some .free) → ∃ c, cl.lookup x = some c
  len : ix.length = NB.length
  at_ : ∀ (i : Nat) x j, NB[i]? = some x → ix[i]? = some (some j) → X.N[j]? = some x ∧ (X.env.kindOf x = some .cell ∨ X.env.kindOf x = some .free) ∧ ∀ C, (compEnvC scope cl C X.env).kindOf x = some .cell ∨ (compEnvC scope cl C X.env).kindOf x = some .free
section
variable {X : Cx} {scope : Scope} {cl : List (Str × Addr)} {NB : List Str} {ix : List (Option Nat)} {fp : List Addr} {pins : List (Addr × Obj)} {σ : St} {H : Hp} {s : Shared}
theorem blk_ok (hb : ClOk X scope cl NB ix) (I : Inv X pins σ H s) (hf : ∀ b ∈ fp, FpOk X pins H b) (hl : ∀ b ∈ fp, b < s.heap.objs.size) : (blk X scope cl NB s.heap.objs.size fp s H).Ok where
  mod := I.mod
  kind := hb.kind
  glob := I.ok.glob
  blt := I.ok.blt
  above := Nat.le_refl _
  inj := fun x y c h1 h2 => I.ok.inj x y c (hb.sub x c h1) (hb.sub y c h2)
  has := fun x h => hb.has _ x h
  cab := fun _ _ z => nomatch z
  hd := I.ok.hd
  frames := I.ok.frames
  stk := .inl rfl
  exf := fun b z => ⟨Nat.ne_of_lt (hl b z), fun x c e => (hf b z).2.2.2.2.1 x c (hb.sub x c e)⟩
  bs := fun b o e => I.bs b o e
  bsz := Nat.le_trans I.ok.bsz I.sz
  noex := fun b o e z => by
    rcases (hf b z).2.2.2.1 with q | q
    · exact I.ok.noex b o e q
    · exact absurd (Nat.lt_of_lt_of_le (Heap.lt_size e) (Nat.le_trans I.ok.bsz q)) (Nat.lt_irrefl _)
  exfs := fun b z q => by
    rcases List.mem_cons.mp (I.stkSub b q) with e | e
    · exact (hf b z).2.1 e
    · exact (hf b z).2.2.1 e
  funs := I.stack
  frf := I.stkFree
theorem blk_inv (hb : ClOk X scope cl NB ix) (I : Inv X pins σ H s) (hf : ∀ b ∈ fp, FpOk X pins H b) (hl : ∀ b ∈ fp, b < s.heap.objs.size) {h' : Heap} {t' : Nat} {m : Str → Option Value} (hn : h'.Ns s.heap.objs.size m)
    (k : ∀ b o, s.heap.get? b = some o → h'.get? b = some o) : Inv (blk X scope cl NB s.heap.objs.size fp s H) pins (around ix σ) H { s with heap := h', toks := t' } where
  ok := blk_ok hb I hf hl
  os := rfl
  bare := I.bare
  base := Un.kept k
  loc := by
    refine ⟨m, hn, fun i x v e1 e2 e3 => ?_⟩
    have e2' : ∃ j, ix[i]? = some (some j) ∧ σ[j]? = some (some v) := by
      unfold around at e2
      rw [List.getElem?_map] at e2
      cases q : ix[i]? with
      | none => rw [q] at e2; cases e2
      | some o =>
        rw [q] at e2
        cases o with
        | none => cases e2
        | some j =>
          refine ⟨j, rfl, ?_⟩
          simp only [Option.map_some, Option.bind_some, Option.some.injEq] at e2
          cases r : σ[j]? with
          | none => rw [r] at e2; cases e2
          | some o => rw [r] at e2; simp only [Option.bind_some, id] at e2; rw [e2]
    obtain ⟨j, q1, q2⟩ := e2'
    obtain ⟨n1, n2, n3⟩ := hb.at_ i x j e1 q1
    obtain ⟨m0, _, hl0⟩ := I.loc
    have hv : Vis X.env.scope x := n2.elim (fun z => .inr (.inl z)) fun z => .inr (.inr z)
    obtain ⟨u, r, lk⟩ := hl0 j x v n1 q2 hv
    refine ⟨u, r, .inr ⟨n3 _, ?_⟩⟩
    rcases lk with ⟨z, _⟩ | ⟨_, c, ec, o, ho, hd⟩
    · rcases n2 with n2 | n2 <;> (rw [n2] at z; cases z)
    · obtain ⟨c', hc'⟩ := hb.has s.heap.objs.size x (n3 _)
      have := hb.sub x c' hc'
      rw [ec] at this; cases this
      exact ⟨c, hc', o, k c o ho, hd⟩
  cell := fun x c e => by
    obtain ⟨v, o, ho, hd⟩ := I.cell x c (hb.sub x c e)
    exact ⟨v, o, k c o ho, hd⟩
  free := I.hok.fresh (Nat.le_refl _)
  freeC := fun x c e => I.freeC x c (hb.sub x c e)
  pin := fun p hp => by
    obtain ⟨e, n, ne, nf, d⟩ := I.pin p hp
    refine ⟨k _ _ e, n, Nat.ne_of_lt (Heap.lt_size e), fun z => ?_, d⟩
    rcases List.mem_cons.mp (I.stkSub p.1 z) with q | q
    · exact ne q
    · exact nf q
  hok := I.hok.kept k
  len := by show (around ix σ).length = NB.length; unfold around; rw [List.length_map]; exact hb.len
theorem blk_back {C : Addr} {s' : Shared} {σ' : St} {H' : Hp} {h' : Heap} (I : Inv X pins σ H s) (hC : s.heap.objs.size ≤ C) (hf : ∀ b ∈ fp, FpOk X pins H b) (J : Inv (blk X scope cl NB C fp s H) pins σ' H' s') (hs : Heap.SameBut C s'.heap h') : Inv X pins σ H' { s' with heap := h' } := by
  have nC : ∀ b o, s.heap.get? b = some o → b ≠ C := fun b o e => Nat.ne_of_lt (Nat.lt_of_lt_of_le (Heap.lt_size e) hC)
  refine I.call' (ch := fp) J.os ?_ ?_ J.bare fun b hb => ?_
  · have B := J.base
    exact ⟨fun b o e n h1 h2 => (hs.2 b (nC b o e)).trans (B.keep b o e n h1 h2), fun b o e n h1 h2 => let ⟨sl, q⟩ := B.slot b o e n h1 h2; ⟨sl, (hs.2 b (nC b o e)).trans q⟩, B.free, fun b o e h1 => let ⟨o', q⟩ := B.there b o e h1; ⟨o', (hs.2 b (nC b o e)).trans q⟩, B.tups, B.frzs, B.tbls⟩
  · intro b ob e
    have fr : H' C = none := J.free
    refine (J.hok b ob e).stay (fun c w' hc q => (hs.2 c ?_).trans q) (fun _ q => q) fun _ _ q => q
    rintro rfl
    rcases hc with rfl | hc
    · rw [fr] at e; cases e
    · rw [fr] at hc; cases hc
  · obtain ⟨_, f1, _, f3, f4, f5⟩ := hf b hb
    exact ⟨f3, f1, f4, f5⟩
def PIf (X : Cx) (ifs : List Expr) (t : TT) : Prop :=
  ∀ (pins : List (Addr × Obj)) (s : Shared) (σ : St) (H : Hp) (Q : Bool → Hp → Prop), Inv X pins σ H s → t σ H Q →
    wpAny (model X.prog X.w) X.A (forIn ifs true fun c r => if r = true then do let ok ← isTrue c X.env (eval c X.env); pure (ForInStep.yield ok) else pure (ForInStep.yield r)) (TP X pins σ Q) X.xe s
def tYes : TT := fun _ H Q => Q true H
theorem pif_nil : PIf X [] tYes := fun _ _ _ H _ I h => wpAny_tests_nil ⟨H, I, h⟩
theorem pif_one {c : Expr} {t : TT} (h : PT X c t) : PIf X [c] t := fun pins s σ H Q I hq => wpAny_tests_one (h pins s σ H Q I hq)
def CompW (J : It) (D : Addr) (σ0 : St) (H0 : Hp) (g : TG) (tc : TT) (te : TE) (Q : VK) : Prop := ∃ W : Nat → Nat → St → Hp → Prop, (∃ m, W 0 m σ0 H0) ∧ ∀ i m σ H, W i m σ H →
  (J.stop i H ∧ Q (.ref D) H) ∨ (J.go i H ∧ ∃ N : St → Hp → Prop, (∀ σ' H', N σ' H' → ∃ m', m' < m ∧ W (i + 1) m' σ' H') ∧ ∀ x H', J.yld i H x H' → g x σ H' fun σ2 H2 => tc σ2 H2 fun b H3 =>
    if b = true then te σ2 H3 fun y H4 => ∃ ys, H4 D = some (.lst ys) ∧ ys.length < sizeLine ∧ N σ2 (upd H4 D (.lst (ys ++ [y]))) else N σ2 H3)
def tComp (ix : List (Option Nat)) (wi : TI) (g : TG) (tc : TT) (te : TE) : TE := fun σ H Q => wi σ H fun J H1 => ∀ D, H1 D = none → CompW J D (around ix σ) (upd H1 D (.lst [])) g tc te Q
theorem pe_comp {elt iter : Expr} {x : Str} {px : Pos} {ifs : List Expr} {pos : Pos} {wi : TI} {g : TG} {tc : TT} {te : TE} (NB : List Str) (ix : List (Option Nat)) (cl : List (Str × Addr)) (hc : X.calm = true) (hb : ClOk X scope cl NB ix) (hi : PI X (.Name x px) iter wi)
    (hg : ∀ C fp s3 H3, PG (blk X scope cl NB C fp s3 H3) (.Name x px) g) (ht : ∀ C fp s3 H3, PIf (blk X scope cl NB C fp s3 H3) ifs tc) (he : ∀ C fp s3 H3, PE (blk X scope cl NB C fp s3 H3) elt te)
    (hs : ∀ x, foldedSetIterable iter X.env x = pure x := by intro _; rfl) : PE X (.ListComp elt [⟨.Name x px, iter, ifs, 0⟩] scope pos) (tComp ix wi g tc te) := by
  intro pins s σ H Q I h
  rw [eval_ListComp]
  refine wpAny_comprehension_free (use := none) rfl hs hb.clos hb.kind hb.names (thn (hi pins s σ H _ I h) fun v s1 h1 => thn h1 fun itv s2 h2 => ?_)
  obtain ⟨it, fp, tn, J, H2, e, I2, T, st2, f2, turn0⟩ := h2
  subst e
  have hD : H2 s2.heap.objs.size = none := I2.hok.fresh (Nat.le_refl _)
  obtain ⟨W, ⟨m0, w0⟩, turn⟩ := turn0 _ hD
  have flt : ∀ b ∈ fp, b < s2.heap.objs.size := fun b z => let ⟨o, e, _⟩ := T.obj _ _ st2 b z; Heap.lt_size e
  refine wpAny_newObj_type (wpAny_newFunctionEnv hb.cell (by intro y hy; simp at hy) (fun h₁ hns₁ hsb₁ => ?_) hb.kind)
  dsimp only at hns₁ hsb₁ ⊢
  have I3 := I2.lnew (ys := []) (its := []) (t' := s2.toks) .nil (Nat.zero_le _)
  have hsz3 : (s2.heap.push { cls := .type "list", data := .seq ([] : List Value).toArray }).objs.size = s2.heap.objs.size + 1 := Heap.size_push ..
  have fp3 : ∀ b ∈ fp, FpOk X pins (upd H2 s2.heap.objs.size (.lst [])) b := fun b z => ⟨by rw [upd_ne (Nat.ne_of_lt (flt b z))]; exact (f2 b z).1, (f2 b z).2⟩
  have flt3 : ∀ b ∈ fp, b < (s2.heap.push { cls := .type "list", data := .seq ([] : List Value).toArray }).objs.size := fun b z => by rw [hsz3]; exact Nat.lt_succ_of_lt (flt b z)
  have k3 : ∀ b o, (s2.heap.push { cls := .type "list", data := .seq ([] : List Value).toArray }).get? b = some o → h₁.get? b = some o := fun b o e => hsb₁.extBut b o (Nat.ne_of_lt (Heap.lt_size e)) (Heap.get?_push_of_some _ e)
  have J0 := blk_inv hb I3 fp3 flt3 (h' := h₁) (t' := s2.toks + ([] : List (Str × Value)).length) hns₁ k3
  have st3 : tn 0 h₁ := T.keep _ _ _ st2 fun b z o e => k3 b o (Heap.get?_push_of_some _ e)
  have loop : ∀ s4 : Shared, s4 = { s2 with heap := h₁, toks := s2.toks + ([] : List (Str × Value)).length } →
      codeAny (model X.prog X.w) X.A (.compLoop (.ListComp elt [⟨.Name x px, iter, ifs, 0⟩] scope pos) 0 (.ref it) (.ref s2.heap.objs.size) (compEnvC scope cl (s2.heap.push { cls := .type "list", data := .seq ([] : List Value).toArray }).objs.size X.env))
        (compPost (model X.prog X.w) X.A X.xe none (EP X pins σ Q) (.ref s2.heap.objs.size) (s2.heap.push { cls := .type "list", data := .seq ([] : List Value).toArray }).objs.size) s4 := by
    rintro s4 rfl
    have J0' : Inv (blk X scope cl NB (s2.heap.push { cls := .type "list", data := .seq ([] : List Value).toArray }).objs.size fp _ _) pins _ _ _ := J0
    generalize hC : (s2.heap.push { cls := .type "list", data := .seq ([] : List Value).toArray }).objs.size = C at *
    refine codeAny_compLoop_tests (fun n s' => ∃ i σ' H', Inv (blk X scope cl NB C fp { s2 with heap := s2.heap.push { cls := .type "list", data := .seq ([] : List Value).toArray } } (upd H2 s2.heap.objs.size (.lst []))) pins σ' H' s' ∧ tn i s'.heap ∧ (∀ b ∈ fp, H' b = none) ∧ W i n σ' H') ?_ m0 ⟨0, _, _, J0', st3, fun b z => (fp3 b z).1, w0⟩
    rintro n s5 ⟨i, σ5, H5, I5, st5, fr5, w5⟩
    have stat : ∀ {H' : Hp}, (∀ b ∈ fp, H' b = none) → ∀ b ∈ fp, FpOk (blk X scope cl NB C fp { s2 with heap := s2.heap.push { cls := .type "list", data := .seq ([] : List Value).toArray } } (upd H2 s2.heap.objs.size (.lst []))) pins H' b := fun hn b z => by
      obtain ⟨_, f1, f2', f3, f4, f5⟩ := fp3 b z
      exact ⟨hn b z, Nat.ne_of_lt (flt3 b z), fun q => I5.ok.exfs b z q, .inl z, fun y c e => f4 y c (hb.sub y c e), f5⟩
    rcases turn i n σ5 H5 w5 with ⟨stop, qn⟩ | ⟨go, N, hN, step⟩
    · refine wpAny_mono (T.done (blk X scope cl NB C fp { s2 with heap := s2.heap.push { cls := .type "list", data := .seq ([] : List Value).toArray } } (upd H2 s2.heap.objs.size (.lst []))) rfl rfl rfl hc i pins s5 σ5 H5 (fun _ _ => False) I5 (stat fr5) st5 stop) (fun r s6 ⟨hr, I6⟩ => ?_) fun _ _ z => z.elim
      subst hr
      obtain ⟨m6, hn6, _⟩ := id I6.loc
      refine ⟨m6, hn6, fun h' hs' => ?_⟩
      exact ⟨.ref _, H5, blk_back I3 (Nat.le_of_eq hC) fp3 I6 hs', rfl, qn⟩
    · refine wpAny_mono (T.item (blk X scope cl NB C fp { s2 with heap := s2.heap.push { cls := .type "list", data := .seq ([] : List Value).toArray } } (upd H2 s2.heap.objs.size (.lst []))) rfl rfl rfl hc i pins s5 σ5 H5 (fun _ _ => False) I5 (stat fr5) st5 go) (fun r s6 ⟨u, hr, h6⟩ => ?_) fun _ _ z => z.elim
      subst hr
      show wpAny _ _ (pure () >>= fun _ => assign (.Name x px) _ u) _ _ s6
      refine wpAny_bind (wpAny_mono h6 (fun _ s7 ⟨y, H7, I7, r7, y7, st7, fr7⟩ => ?_) fun _ _ z => z.elim)
      have I7' := I7.pinned (stat fr7) (T.obj _ _ st7)
      refine wpAny_mono (hg _ _ _ _ _ s7 σ5 H7 y u _ I7' r7 (step y H7 y7)) (fun _ s8 ⟨σ8, H8, I8, q8⟩ => ?_) fun _ _ z => z.elim
      refine wpAny_mono (ht _ _ _ _ _ s8 σ8 H8 _ I8 q8) (fun ok s9 ⟨H9, I9, q9⟩ => ?_) fun _ _ z => z.elim
      have again : ∀ {s' : Shared} {H' : Hp}, Inv (blk X scope cl NB C fp { s2 with heap := s2.heap.push { cls := .type "list", data := .seq ([] : List Value).toArray } } (upd H2 s2.heap.objs.size (.lst []))) (pins ++ pinsAt fp s7.heap) σ8 H' s' → N σ8 H' → ∃ m, m < n ∧ ∃ i σ' H', Inv (blk X scope cl NB C fp { s2 with heap := s2.heap.push { cls := .type "list", data := .seq ([] : List Value).toArray } } (upd H2 s2.heap.objs.size (.lst []))) pins σ' H' s' ∧ tn i s'.heap ∧ (∀ b ∈ fp, H' b = none) ∧ W i m σ' H' := fun {s' H'} I' n' => by
        obtain ⟨m', hm, w'⟩ := hN _ _ n'
        refine ⟨m', hm, i + 1, _, H', I'.unpinned, T.keep _ _ _ st7 fun b z o e => (I'.pin (b, o) (List.mem_append_right _ (List.mem_append_right _ (mem_pinsAt z e)))).1, fun b z => ?_, w'⟩
        obtain ⟨o, e, d⟩ := T.obj _ _ st7 b z
        exact (I'.pin (b, o) (List.mem_append_right _ (List.mem_append_right _ (mem_pinsAt z e)))).2.1
      cases ok with
      | false => exact again I9 q9
      | true =>
        rw [if_pos rfl] at q9 ⊢
        refine wpAny_mono (he _ _ _ _ _ s9 σ8 H9 _ I9 q9) (fun w s10 ⟨z, H10, I10, r10, ys, hD10, hz10, n10⟩ => ?_) fun _ _ z => z.elim
        refine wpAny_mono (mt_append (X := (blk X scope cl NB C fp { s2 with heap := s2.heap.push { cls := .type "list", data := .seq ([] : List Value).toArray } } (upd H2 s2.heap.objs.size (.lst [])))) _ s10 σ8 H10 (.ref s2.heap.objs.size) [z] _ [w] (fun _ H' => H' = upd H10 s2.heap.objs.size (.lst (ys ++ [z]))) I10 rfl (.cons r10 .nil) ⟨_, ys, z, rfl, rfl, hD10, hz10, rfl⟩) (fun _ s11 ⟨_, H11, I11, _, e11⟩ => ?_) fun _ _ z => z.elim
        subst e11
        exact again I11 n10
  exact codeAny_compStart_list (loop _ rfl) (T.self _ 0 _ _ _ st3 (loop _ rfl))

/-! ### reversed(list) -/
theorem comp_list {K : PySem.W.Frag} {a D : Addr} {xs : List V} {ix : List (Option Nat)} {g : TG} {tc : TT} {te : TE} {σ : St} {H : Hp} {Q : VK} (Pv : Nat → St → Hp → Prop) (h0 : Pv 0 (around ix σ) (upd H D (.lst []))) (hl : ∀ i σ H, i ≤ xs.length → Pv i σ H → SqL K H a xs)
    (hs : ∀ i x σ H, xs[i]? = some x → Pv i σ H → g x σ H fun σ2 H2 => tc σ2 H2 fun b H3 => if b = true then te σ2 H3 fun y H4 => ∃ ys, H4 D = some (.lst ys) ∧ ys.length < sizeLine ∧ Pv (i + 1) σ2 (upd H4 D (.lst (ys ++ [y]))) else Pv (i + 1) σ2 H3)
    (hd : ∀ σ H, Pv xs.length σ H → Q (.ref D) H) :
    CompW (Itl K a) D (around ix σ) (upd H D (.lst [])) g tc te Q := by
  refine ⟨fun i m σ H => m = xs.length - i ∧ i ≤ xs.length ∧ Pv i σ H, ⟨xs.length, by simp, Nat.zero_le _, h0⟩, ?_⟩
  rintro i m σ H ⟨rfl, hi, p⟩
  have q := hl i σ H hi p
  by_cases hlt : i < xs.length
  · refine .inr ⟨⟨xs, xs[i], q, by simp [hlt]⟩, Pv (i + 1), fun σ' H' p' => ⟨xs.length - (i + 1), by omega, rfl, hlt, p'⟩, fun x H' y => ?_⟩
    obtain ⟨e, y⟩ := y
    subst e
    exact hs i x σ _ (y xs q) p
  · have e : i = xs.length := by omega
    subst e
    exact .inl ⟨⟨xs, q, Nat.le_refl _⟩, hd σ H p⟩
theorem yes {i : Nat} {v : V} {σ : St} {H : Hp} {F G : St → Hp → Prop} (h : F (σ.set i (some v)) H) : gName i v σ H (fun σ2 H2 => tYes σ2 H2 fun b H3 => if b = true then F σ2 H3 else G σ2 H3) := by
  show (if true = true then F (σ.set i (some v)) H else G (σ.set i (some v)) H)
  rw [if_pos rfl]
  exact h
theorem nd1 (x : Str) : [x].Nodup := by simp
theorem lookup_mem {α : Type} : ∀ {l : List (Str × α)} {x : Str} {k : α}, l.lookup x = some k → ∃ y, (y, k) ∈ l
  | (y, k') :: r, x, k, h => by
    rw [List.lookup_cons] at h
    split at h
    · cases h; exact ⟨y, List.mem_cons_self⟩
    · obtain ⟨z, hz⟩ := lookup_mem h
      exact ⟨z, List.mem_cons_of_mem _ hz⟩
theorem cl_none (NB : List Str) (hf : (scope.names.all fun y => y.2 != NameKind.free && y.2 != NameKind.cell) = true) (hk : scope.kind = .function) (hn : (scope.names.all fun y => y.2 != NameKind.local || scope.names.lookup y.1 == some NameKind.local) = true) : ClOk X scope [] NB (NB.map fun _ => none) := by
  have nf : ∀ y ∈ scope.names, y.2 ≠ .free ∧ y.2 ≠ .cell := fun y hy => by
    have := List.all_eq_true.mp hf y hy
    simpa using this
  have er : (scope.names.map fun (n, k) => if (k == NameKind.free && X.env.scope.kind == .function && X.env.kindOf n == some .cell) then (n, NameKind.cell) else (n, k)) = scope.names := by
    refine (List.map_congr_left fun y hy => ?_).trans (List.map_id _)
    obtain ⟨n, k⟩ := y
    have h1 : (k == NameKind.free) = false := by simpa using (nf _ hy).1
    show (if (k == NameKind.free && X.env.scope.kind == .function && X.env.kindOf n == some .cell) = true then (n, NameKind.cell) else (n, k)) = (n, k)
    rw [h1, Bool.false_and, Bool.false_and]
    rfl
  refine ⟨closureFor_none fun y hy => (nf y hy).1, fun y hy => (nf y hy).2, hk, fun y hy hl => ?_, fun x c h => (by cases h), fun C x h => ?_, by simp, fun i x j h1 h2 => ?_⟩
  · have := List.all_eq_true.mp hn y hy
    rw [hl] at this
    simpa using this
  · exfalso
    have hx : (compEnvC scope [] C X.env).kindOf x = scope.names.lookup x := by
      show List.lookup x (scope.names.map fun (n, k) => if (k == NameKind.free && X.env.scope.kind == .function && X.env.kindOf n == some .cell) then (n, NameKind.cell) else (n, k)) = _
      rw [er]
    rw [hx] at h
    rcases h with h | h
    · obtain ⟨y, hy⟩ := lookup_mem h
      exact (nf _ hy).2 rfl
    · obtain ⟨y, hy⟩ := lookup_mem h
      exact (nf _ hy).1 rfl
  · rw [List.getElem?_map] at h2
    cases q : NB[i]? with
    | none => rw [q] at h2; cases h2
    | some o => rw [q] at h2; cases h2
end
end L2

set_option Elab.async false
set_option linter.all false
set_option maxRecDepth 100000
set_option maxHeartbeats 4000000
namespace L2
open PySem PySem.Spec PyProof.Rows PySem.StrLaws
/-! ## texts: ''.join, in, <= -/
theorem strs_are : ∀ {ls : List (List Nat)} {us : List Value}, Vals (ls.map fun r => V.str (S r)) us → StrsAre us (ls.map S)
  | [], _, .nil => .nil
  | l :: ls, _, .cons r t => by
    obtain ⟨tk, rfl⟩ := r
    exact .cons _ tk (strs_are t)
theorem glue_S : ∀ (ls : List (List Nat)), Txt.join (S []) (ls.map S) = S ls.flatten := by
  intro ls
  refine (PySem.StrLaws.glued_eq_join (S []) (ls.map S)).trans ?_
  induction ls with
  | nil => rfl
  | cons l ls ih =>
    cases ls with
    | nil =>
      show S l = S [l].flatten
      simp
    | cons m ls =>
      show S l ++ S [] ++ Str.join (S []) ((m :: ls).map S) = _
      rw [ih, S_app, S_app]
      simp
theorem flat_len {ls : List (List Nat)} : ((ls.map S).map (·.length)).sum = ls.flatten.length := by
  rw [List.length_flatten, List.map_map]
  rfl
section
variable {X : Cx}
theorem mt_join : MtR X "str.join" (fun x vs H Q => ∃ (p : Addr) (ls : List (List Nat)), x = .str (S []) ∧ vs = [.ref p] ∧ SqL X.K H p (ls.map fun r => V.str (S r)) ∧ ls.flatten.length ≤ 1000000 ∧ Q (.str (S ls.flatten)) H) := by
  intro pins s σ H x vs v us Q I rx rv h
  obtain ⟨p, ls, rfl, rfl, hq, hl, q⟩ := h
  obtain ⟨t, rfl⟩ := rx
  obtain ⟨u, rfl, ru⟩ := rv.one
  cases ru
  obtain ⟨its, r, pl, hz⟩ := I.list hq
  refine join_list (items := its.toArray) (ys := ls.map S) pl.isList (by simpa using strs_are r) ?_ fun t' k => ?_
  · rw [flat_len]
    show _ + _ * 0 ≤ _
    omega
  · exact ⟨.str (S ls.flatten), H, I.tok _, ⟨t', by rw [glue_S]⟩, q⟩
end
end L2

set_option Elab.async false
set_option linter.all false
set_option maxRecDepth 100000
set_option maxHeartbeats 4000000
namespace L2
open PySem PySem.Spec PyProof.Rows
/-! ### name = comprehension -/
section
variable {X : Cx} {scope : Scope} {cl : List (Str × Addr)} {NB : List Str} {ix : List (Option Nat)} {fp : List Addr} {pins : List (Addr × Obj)} {σ : St} {H : Hp} {s : Shared}
theorem ps_setC {i : Nat} {y : Str} {py spos : Pos} {elt iter : Expr} {x : Str} {px : Pos} {ifs : List Expr} {pos : Pos} {wi : TI} {g : TG} {tc : TT} {te : TE} (NB : List Str) (ix : List (Option Nat)) (cl : List (Str × Addr)) (hN : X.N.Nodup) (hi' : X.N[i]? = some y) (hx' : Loc X.env.scope y) (hc : X.calm = true) (hb : ClOk X scope cl NB ix) (hi : PI X (.Name x px) iter wi)
    (hg : ∀ C fp s3 H3, PG (blk X scope cl NB C fp s3 H3) (.Name x px) g) (ht : ∀ C fp s3 H3, PIf (blk X scope cl NB C fp s3 H3) ifs tc) (he : ∀ C fp s3 H3, PE (blk X scope cl NB C fp s3 H3) elt te)
    (hs : ∀ x, foldedSetIterable iter X.env x = pure x := by intro _; rfl) (hsw : swapsWith (.ListComp elt [⟨.Name x px, iter, ifs, 0⟩] scope pos) (some (.Name y py)) spos.line X.env = pure true := by rfl)
    (hf' : X.fn y = true ∨ X.env.scope.names.lookup y = some .local := by first | exact .inl rfl | exact .inr rfl | assumption) : PS X (.Assign [.Name y py] (.ListComp elt [⟨.Name x px, iter, ifs, 0⟩] scope pos) spos) (tAsg (tComp ix wi g tc te) (gName i)) := by
  intro pins s σ H DE I h
  rw [exec_Assign_Name_used _ _ _ _ hsw]
  refine wpAny_bind (wpAny_standAt (wpAny_bind ?_))
  show wpAny _ X.A (do let _ ← comprehension (.ListComp elt [⟨.Name x px, iter, ifs, 0⟩] scope pos) scope X.env _ (newList []) false (eval iter X.env) (some (assign (.Name y py) X.env))) _ _ s
  refine wpAny_bind (wpAny_mono (wpAny_comprehension_free (use := some (assign (.Name y py) X.env)) (Q := fun _ s' => SP X pins DE .next s') rfl hs hb.clos hb.kind hb.names
    (thn (hi pins s σ H _ I h) fun v s1 h1 => thn h1 fun itv s2 h2 => ?_)) (fun _ s' hq => wpAny_pure (wpAny_pure hq)) fun _ _ e => e)
  obtain ⟨it, fp, tn, J, H2, e, I2, T, st2, f2, turn0⟩ := h2
  subst e
  have hD : H2 s2.heap.objs.size = none := I2.hok.fresh (Nat.le_refl _)
  obtain ⟨W, ⟨m0, w0⟩, turn⟩ := turn0 _ hD
  have flt : ∀ b ∈ fp, b < s2.heap.objs.size := fun b z => let ⟨o, e, _⟩ := T.obj _ _ st2 b z; Heap.lt_size e
  refine wpAny_newObj_type (wpAny_newFunctionEnv hb.cell (by intro y hy; simp at hy) (fun h₁ hns₁ hsb₁ => ?_) hb.kind)
  dsimp only at hns₁ hsb₁ ⊢
  have I3 := I2.lnew (ys := []) (its := []) (t' := s2.toks) .nil (Nat.zero_le _)
  have hsz3 : (s2.heap.push { cls := .type "list", data := .seq ([] : List Value).toArray }).objs.size = s2.heap.objs.size + 1 := Heap.size_push ..
  have fp3 : ∀ b ∈ fp, FpOk X pins (upd H2 s2.heap.objs.size (.lst [])) b := fun b z => ⟨by rw [upd_ne (Nat.ne_of_lt (flt b z))]; exact (f2 b z).1, (f2 b z).2⟩
  have flt3 : ∀ b ∈ fp, b < (s2.heap.push { cls := .type "list", data := .seq ([] : List Value).toArray }).objs.size := fun b z => by rw [hsz3]; exact Nat.lt_succ_of_lt (flt b z)
  have k3 : ∀ b o, (s2.heap.push { cls := .type "list", data := .seq ([] : List Value).toArray }).get? b = some o → h₁.get? b = some o := fun b o e => hsb₁.extBut b o (Nat.ne_of_lt (Heap.lt_size e)) (Heap.get?_push_of_some _ e)
  have J0 := blk_inv hb I3 fp3 flt3 (h' := h₁) (t' := s2.toks + ([] : List (Str × Value)).length) hns₁ k3
  have st3 : tn 0 h₁ := T.keep _ _ _ st2 fun b z o e => k3 b o (Heap.get?_push_of_some _ e)
  have loop : ∀ s4 : Shared, s4 = { s2 with heap := h₁, toks := s2.toks + ([] : List (Str × Value)).length } →
      codeAny (model X.prog X.w) X.A (.compLoop (.ListComp elt [⟨.Name x px, iter, ifs, 0⟩] scope pos) 0 (.ref it) (.ref s2.heap.objs.size) (compEnvC scope cl (s2.heap.push { cls := .type "list", data := .seq ([] : List Value).toArray }).objs.size X.env))
        (compPost (model X.prog X.w) X.A X.xe (some (assign (.Name y py) X.env)) (fun _ s' => SP X pins DE .next s') (.ref s2.heap.objs.size) (s2.heap.push { cls := .type "list", data := .seq ([] : List Value).toArray }).objs.size) s4 := by
    rintro s4 rfl
    have J0' : Inv (blk X scope cl NB (s2.heap.push { cls := .type "list", data := .seq ([] : List Value).toArray }).objs.size fp _ _) pins _ _ _ := J0
    generalize hC : (s2.heap.push { cls := .type "list", data := .seq ([] : List Value).toArray }).objs.size = C at *
    refine codeAny_compLoop_tests (fun n s' => ∃ i σ' H', Inv (blk X scope cl NB C fp { s2 with heap := s2.heap.push { cls := .type "list", data := .seq ([] : List Value).toArray } } (upd H2 s2.heap.objs.size (.lst []))) pins σ' H' s' ∧ tn i s'.heap ∧ (∀ b ∈ fp, H' b = none) ∧ W i n σ' H') ?_ m0 ⟨0, _, _, J0', st3, fun b z => (fp3 b z).1, w0⟩
    rintro n s5 ⟨i, σ5, H5, I5, st5, fr5, w5⟩
    have stat : ∀ {H' : Hp}, (∀ b ∈ fp, H' b = none) → ∀ b ∈ fp, FpOk (blk X scope cl NB C fp { s2 with heap := s2.heap.push { cls := .type "list", data := .seq ([] : List Value).toArray } } (upd H2 s2.heap.objs.size (.lst []))) pins H' b := fun hn b z => by
      obtain ⟨_, f1, f2', f3, f4, f5⟩ := fp3 b z
      exact ⟨hn b z, Nat.ne_of_lt (flt3 b z), fun q => I5.ok.exfs b z q, .inl z, fun y c e => f4 y c (hb.sub y c e), f5⟩
    rcases turn i n σ5 H5 w5 with ⟨stop, qn⟩ | ⟨go, N, hN, step⟩
    · refine wpAny_mono (T.done (blk X scope cl NB C fp { s2 with heap := s2.heap.push { cls := .type "list", data := .seq ([] : List Value).toArray } } (upd H2 s2.heap.objs.size (.lst []))) rfl rfl rfl hc i pins s5 σ5 H5 (fun _ _ => False) I5 (stat fr5) st5 stop) (fun r s6 ⟨hr, I6⟩ => ?_) fun _ _ z => z.elim
      subst hr
      obtain ⟨m6, hn6, _⟩ := id I6.loc
      have I6' : Inv X pins σ H5 { s6 with heap := s6.heap } := blk_back I3 (Nat.le_of_eq hC) fp3 I6 ⟨rfl, fun _ _ => rfl⟩
      have hCz : (s2.heap.push { cls := .type "list", data := .seq ([] : List Value).toArray }).objs.size = C := hC
      have nL : X.env.locals ≠ C := by
        obtain ⟨m0', hn0, _⟩ := I3.loc
        exact fun z => absurd (hn0.lt) (by rw [z]; show ¬ C < _; rw [← hCz]; exact Nat.lt_irrefl _)
      have nC : ∀ x c, X.env.cells.lookup x = some c → c ≠ C := fun x c e z => by
        obtain ⟨v, o, ho, _⟩ := I3.cell x c e
        exact absurd (Heap.lt_size ho) (by rw [z, ← hCz]; exact Nat.lt_irrefl _)
      refine wpAny_assign_Name (store_ok2 (v := .ref s2.heap.objs.size) I6' hN hi' hx' rfl (fun s7 I7 ⟨a, sb, ha⟩ => ?_) hf')
      have na : a ≠ C := ha.elim (fun z => z ▸ nL) fun z => nC _ _ z
      refine ⟨m6, hn6.sameBut sb (Ne.symm na), fun h' hs' => ?_⟩
      exact ⟨_, H5, I7.turned (t' := s7.toks) (it := C) (fun b o hb e => (hs'.2 b hb).trans e) I6.free (Ne.symm nL) (.inr (by rw [← hCz]; exact I3.sz)) nC (fun p hp z => absurd (Heap.lt_size (I3.pin p hp).1) (by rw [z, ← hCz]; exact Nat.lt_irrefl _)), qn⟩
    · refine wpAny_mono (T.item (blk X scope cl NB C fp { s2 with heap := s2.heap.push { cls := .type "list", data := .seq ([] : List Value).toArray } } (upd H2 s2.heap.objs.size (.lst []))) rfl rfl rfl hc i pins s5 σ5 H5 (fun _ _ => False) I5 (stat fr5) st5 go) (fun r s6 ⟨u, hr, h6⟩ => ?_) fun _ _ z => z.elim
      subst hr
      show wpAny _ _ (pure () >>= fun _ => assign (.Name x px) _ u) _ _ s6
      refine wpAny_bind (wpAny_mono h6 (fun _ s7 ⟨y, H7, I7, r7, y7, st7, fr7⟩ => ?_) fun _ _ z => z.elim)
      have I7' := I7.pinned (stat fr7) (T.obj _ _ st7)
      refine wpAny_mono (hg _ _ _ _ _ s7 σ5 H7 y u _ I7' r7 (step y H7 y7)) (fun _ s8 ⟨σ8, H8, I8, q8⟩ => ?_) fun _ _ z => z.elim
      refine wpAny_mono (ht _ _ _ _ _ s8 σ8 H8 _ I8 q8) (fun ok s9 ⟨H9, I9, q9⟩ => ?_) fun _ _ z => z.elim
      have again : ∀ {s' : Shared} {H' : Hp}, Inv (blk X scope cl NB C fp { s2 with heap := s2.heap.push { cls := .type "list", data := .seq ([] : List Value).toArray } } (upd H2 s2.heap.objs.size (.lst []))) (pins ++ pinsAt fp s7.heap) σ8 H' s' → N σ8 H' → ∃ m, m < n ∧ ∃ i σ' H', Inv (blk X scope cl NB C fp { s2 with heap := s2.heap.push { cls := .type "list", data := .seq ([] : List Value).toArray } } (upd H2 s2.heap.objs.size (.lst []))) pins σ' H' s' ∧ tn i s'.heap ∧ (∀ b ∈ fp, H' b = none) ∧ W i m σ' H' := fun {s' H'} I' n' => by
        obtain ⟨m', hm, w'⟩ := hN _ _ n'
        refine ⟨m', hm, i + 1, _, H', I'.unpinned, T.keep _ _ _ st7 fun b z o e => (I'.pin (b, o) (List.mem_append_right _ (List.mem_append_right _ (mem_pinsAt z e)))).1, fun b z => ?_, w'⟩
        obtain ⟨o, e, d⟩ := T.obj _ _ st7 b z
        exact (I'.pin (b, o) (List.mem_append_right _ (List.mem_append_right _ (mem_pinsAt z e)))).2.1
      cases ok with
      | false => exact again I9 q9
      | true =>
        rw [if_pos rfl] at q9 ⊢
        refine wpAny_mono (he _ _ _ _ _ s9 σ8 H9 _ I9 q9) (fun w s10 ⟨z, H10, I10, r10, ys, hD10, hz10, n10⟩ => ?_) fun _ _ z => z.elim
        refine wpAny_mono (mt_append (X := (blk X scope cl NB C fp { s2 with heap := s2.heap.push { cls := .type "list", data := .seq ([] : List Value).toArray } } (upd H2 s2.heap.objs.size (.lst [])))) _ s10 σ8 H10 (.ref s2.heap.objs.size) [z] _ [w] (fun _ H' => H' = upd H10 s2.heap.objs.size (.lst (ys ++ [z]))) I10 rfl (.cons r10 .nil) ⟨_, ys, z, rfl, rfl, hD10, hz10, rfl⟩) (fun _ s11 ⟨_, H11, I11, _, e11⟩ => ?_) fun _ _ z => z.elim
        subst e11
        exact again I11 n10
  exact codeAny_compStart_list (loop _ rfl) (T.self _ 0 _ _ _ st3 (loop _ rfl))
theorem turn_N {Pv : St → Hp → Prop} {μ : St → Hp → Nat} {σ : St} {H : Hp} : ∀ σ' H', (Pv σ' H' ∧ μ σ' H' < μ σ H) → ∃ m', m' < μ σ H ∧ m' = μ σ' H' ∧ Pv σ' H' := fun _ _ h => ⟨_, h.2, rfl, h.1⟩
theorem while_in {c : TT} {tb : TS} {D : Ends} {σ : St} {H : Hp} (Pv : St → Hp → Prop) (μ : St → Hp → Nat) (h0 : Pv σ H)
    (hs : ∀ σ H, Pv σ H → c σ H fun b H1 => if b = true then ∃ N : St → Hp → Prop, (∀ σ' H', N σ' H' → ∃ m', m' < μ σ H ∧ m' = μ σ' H' ∧ Pv σ' H') ∧ tb { D with nx := N, ct := N, bk := D.nx } σ H1 else D.nx σ H1) : tWhile c tb D σ H := by
  refine ⟨fun m σ H => m = μ σ H ∧ Pv σ H, ⟨_, rfl, h0⟩, ?_⟩
  rintro m σ H ⟨rfl, p⟩
  exact hs σ H p
theorem gname_go {i : Nat} {v : V} {σ : St} {H : Hp} {Q : St → Hp → Prop} (h : Q (σ.set i (some v)) H) : gName i v σ H Q := h
theorem seq_at {t u : TS} {D : Ends} {σ : St} {H : Hp} {r : VK} {b c : St → Hp → Prop} (h : tSeq t u D σ H) : ({ nx := tSeq t u D, rt := r, bk := b, ct := c } : Ends).nx σ H := h
theorem seq_to {t u : TS} {D : Ends} {σ : St} {H : Hp} (Out : St → Hp → Prop) (hs : ∀ nx : St → Hp → Prop, (∀ σ H, Out σ H → nx σ H) → t { D with nx := nx } σ H) (fin : ∀ σ H, Out σ H → u D σ H) : tSeq t u D σ H := hs _ fin
end
end L2

set_option Elab.async false
set_option linter.all false
set_option maxRecDepth 100000
set_option maxHeartbeats 4000000
namespace L2
open PySem PySem.Spec PyProof.Rows PySem.StrLaws
section
variable {X : Cx}
end
end L2

set_option Elab.async false
set_option linter.all false
set_option maxRecDepth 100000
set_option maxHeartbeats 4000000
namespace L2
open PySem PySem.Spec PyProof.Rows
/-! ## range with a step; list(range(..)) -/
def Its (lo c : Int) (n : Nat) : It := ⟨fun i _ => i < n, fun i H x H' => H' = H ∧ x = .int (lo + i * c), fun i _ => n ≤ i⟩
theorem turn_step {P : Program} {w : World} {K : PySem.W.Frag} {tg : Expr} (it : Addr) (lo c : Int) (n : Nat) : Turn P w K tg (Its lo c n) [it] it (fun i h => IsRangeIter h it (lo + (i : Nat) * c) ((n : Int) - (i : Nat)) c) where
  mem := by simp
  obj := fun i h st b hb => by
    have e : b = it := by simpa using hb
    subst e
    exact ⟨_, st, fun v z => by
      have z' : Data.fields _ = Data.cell v := z
      cases z'⟩
  keep := fun i h h' st k => k it (by simp) _ st
  item := by
    intro X hP hw hK hc i pins s σ H E I hf st hg
    subst hP hw hK
    obtain ⟨f0, f1, f2, f3, f4, f5⟩ := hf it (by simp)
    have W := Walks.range (prog := X.prog) (w := X.w) (I.ok.hd hc) it lo c n
    refine W.item i s _ _ hg st fun v h' tk hv st' kk => ?_
    obtain ⟨t, rfl⟩ := hv
    have I1 : Inv X pins σ H { s with heap := h', toks := tk } := I.turned (fun b o hb e => kk b o (by simpa using hb) e) f0 f1 f3 f4 f5
    exact ⟨_, rfl, go_of (s := { s with heap := h', toks := tk }) (n := "range_iterator") st' rfl rfl (by decide) ⟨.int (lo + i * c), H, I1, ⟨t, rfl⟩, ⟨rfl, rfl⟩, st', fun b hb => (hf b hb).1⟩⟩
  done := by
    intro X hP hw hK hc i pins s σ H E I hf st hg
    subst hP hw hK
    obtain ⟨f0, f1, f2, f3, f4, f5⟩ := hf it (by simp)
    exact wpAny_pyNext_range_end (I.ok.hd hc) st (by have : n ≤ i := hg; omega) fun h' eb => ⟨rfl, I.turned (t' := s.toks) (fun b o hb e => eb b o hb e) f0 f1 f3 f4 f5⟩
  self := fun _ _ _ _ _ st h => wpAny_pyIter_rangeiter st h
section
variable {X : Cx} {tg : Expr}
theorem range_it3 {pins : List (Addr × Obj)} {σ : St} {H : Hp} {s : Shared} {R : It → Hp → Prop} {E : Value → Shared → Prop} {lo hi c : Int} {n : Nat} {t u v : Tok} {tk : Nat} (I : Inv X pins σ H s) (hs : Builtin.Range.small lo hi c = true) (hn : Builtin.Range.rangeSize lo hi c = (n : Int))
    (q : R (Its lo c n) H) : wpAny (model X.prog X.w) X.A (pyIter (.ref s.heap.objs.size)) (PIE X pins σ tg R) E { s with heap := s.heap.push { cls := .type "range", data := .fields #[.int lo t, .int hi u, .int c v] }, toks := tk } := by
  refine wpAny_pyIter_range (IsRange.new ..) hs ?_
  have I1 : Inv X pins σ H { s with heap := s.heap.push { cls := .type "range", data := .fields #[.int lo t, .int hi u, .int c v] }, toks := tk } := I.kept fun b o e => Heap.get?_push_of_some _ e
  refine ⟨(s.heap.push { cls := .type "range", data := .fields #[.int lo t, .int hi u, .int c v] }).objs.size, [(s.heap.push { cls := .type "range", data := .fields #[.int lo t, .int hi u, .int c v] }).objs.size], _, _, H, rfl,
    I1.kept (t' := tk) fun b o e => Heap.get?_push_of_some _ e, turn_step _ lo c n, ?_, fun b hb => ?_, q⟩
  · have e1 : lo + ((0 : Nat) : Int) * c = lo := by simp
    have e2 : ((n : Nat) : Int) - ((0 : Nat) : Int) = Builtin.Range.rangeSize lo hi c := by rw [hn]; omega
    show IsRangeIter _ _ (lo + ((0 : Nat) : Int) * c) ((n : Int) - ((0 : Nat) : Int)) c
    rw [e1, e2]
    exact Heap.get?_push_size _ rfl
  · have e : b = (s.heap.push { cls := .type "range", data := .fields #[.int lo t, .int hi u, .int c v] }).objs.size := by simpa using hb
    subst e
    exact I1.fpOk (Nat.le_refl _) (I1.hok.fresh (Nat.le_refl _))
def Stp (lo hi c : Int) (n : Nat) : Prop := c ≠ 0 ∧ Builtin.divisionGoesByPylong (hi - lo) c = false ∧ Builtin.Range.small lo hi c = true ∧ Builtin.Range.rangeSize lo hi c = (n : Int)
def iRng3 (ta : TA) : TI := fun σ H R => ta σ H fun vs H1 => ∃ (i j c : Int) (n : Nat), vs = [.int i, .int j, .int c] ∧ Stp i j c n ∧ R (Its i c n) H1
theorem pi_range3 {a b d : Expr} {ta : TA} {p pos : Pos} (hg : Gl X "range") (hm : X.mg "range" = none) (ha : PA X [a, b, d] ta) (hs : starEach [a, b, d] X.env = (false, eval a X.env) :: starEach [b, d] X.env := by rfl) (hs2 : (backTo pos (starEach [b, d] X.env)).any (·.1) = false := by rfl) :
    PI X tg (.Call (.Name "range" p) [a, b, d] [] pos) (iRng3 ta) := by
  intro pins s σ H R I h
  refine Call_ (ld_blt I hg hm boot_range (PyProof.Rows.callWith_type1 (thn (ha pos pins s σ H _ I h) fun us s1 ⟨vs, H1, I1, r1, q1⟩ => ?_) hs hs2))
  obtain ⟨i, j, c, n, e, ⟨q1, q2, q3, q4⟩, q⟩ := q1
  subst e
  cases r1 with
  | cons r rr =>
    cases rr with
    | cons r' rr =>
      cases rr with
      | cons r'' rr =>
        cases rr
        obtain ⟨t, rfl⟩ := r
        obtain ⟨t', rfl⟩ := r'
        obtain ⟨t'', rfl⟩ := r''
        exact call_range_3 q1 (range_it3 I1 q3 q4 q) (.inl q2)
theorem for_step {lo c : Int} {n : Nat} {g : TG} {tb : TS} {D : Ends} {σ : St} {H : Hp} (Pv : Nat → St → Hp → Prop) (h0 : Pv 0 σ H)
    (hs : ∀ i σ H, i < n → Pv i σ H → g (.int (lo + i * c)) σ H fun σ2 H2 => tb { D with nx := Pv (i + 1), ct := Pv (i + 1), bk := D.nx } σ2 H2) (hd : ∀ σ H, Pv n σ H → D.nx σ H) :
    ∃ W : Nat → Nat → St → Hp → Prop, (∃ m, W 0 m σ H) ∧ ∀ i m σ H, W i m σ H →
      ((Its lo c n).stop i H ∧ D.nx σ H) ∨ ((Its lo c n).go i H ∧ ∃ N : St → Hp → Prop, (∀ σ' H', N σ' H' → ∃ m', m' < m ∧ W (i + 1) m' σ' H') ∧ ∀ x H', (Its lo c n).yld i H x H' → g x σ H' fun σ2 H2 => tb { D with nx := N, ct := N, bk := D.nx } σ2 H2) := by
  refine ⟨fun i m σ H => m = n - i ∧ i ≤ n ∧ Pv i σ H, ⟨n, by simp, Nat.zero_le _, h0⟩, ?_⟩
  rintro i m σ H ⟨rfl, hi, p⟩
  by_cases hlt : i < n
  · refine .inr ⟨hlt, Pv (i + 1), fun σ' H' p' => ⟨n - (i + 1), by omega, rfl, hlt, p'⟩, fun x H' y => ?_⟩
    obtain ⟨e, y⟩ := y
    subst e y
    exact hs i σ _ hlt p
  · have e : i = n := by omega
    subst e
    exact .inl ⟨Nat.le_refl _, hd σ H p⟩
/-! a comprehension over a range -/
/-! the range as an object -/
end
theorem size_down (i j : Int) : Builtin.Range.rangeSize i j (-1) = ((i - j).toNat : Int) := by
  unfold Builtin.Range.rangeSize
  rw [if_neg (by decide), show -(-1 : Int) = 1 by decide, Int.ediv_one]
  split <;> omega
theorem small_down {i j : Int} (h1 : -100000 ≤ i) (h2 : i ≤ 100000) (h3 : -100000 ≤ j) (h4 : j ≤ 100000) : Builtin.Range.small i j (-1) = true := by
  unfold Builtin.Range.small
  rw [size_down, if_neg (by decide)]
  simp only [Builtin.Range.rangeFitsLong, Bool.and_eq_true, Bool.or_eq_true, decide_eq_true_eq, beq_iff_eq]
  omega
theorem Stp.down {i j : Int} (h1 : -100000 ≤ i) (h2 : i ≤ 100000) (h3 : -100000 ≤ j) (h4 : j ≤ 100000) : Stp i j (-1) (i - j).toNat :=
  ⟨by decide, PyProof.noPylong_small (by omega), small_down h1 h2 h3 h4, size_down i j⟩
end L2

set_option Elab.async false
set_option linter.all false
set_option maxRecDepth 100000
set_option maxHeartbeats 4000000
namespace L2
open PySem PySem.Spec PyProof.Rows PySem.StrLaws
/-! a comprehension over a range with steps -/
end L2

set_option Elab.async false
set_option linter.all false
set_option maxRecDepth 100000
set_option maxHeartbeats 4000000
namespace L2
/-! ## brackets of one kind: the walk and the heap -/
/-! ## the three kinds -/
end L2

set_option Elab.async false
set_option linter.all false
set_option maxRecDepth 100000
set_option maxHeartbeats 4000000
namespace L2
open PySem PySem.Spec PyProof.Rows
/-! ### lists of pairs as tables -/
section
variable {κ : Type} [DecidableEq κ]
end


/-! ### a tracked dict, its keys ints and texts or tuples of these -/
section
variable {P : Program} {w : World} {H : Hp} {h : Heap} {a : Addr}
end

section
variable {X : Cx} {pins : List (Addr × Obj)} {σ : St} {H : Hp} {s : Shared} {a : Addr} {y v : V} {u r : Value} {o : Option V} {A : Around} {E : Value → Shared → Prop}

end

section
variable {X : Cx} {pins : List (Addr × Obj)} {σ : St} {H : Hp} {s : Shared} {a : Addr} {kvs : List (Key × V)} {k : Key} {u : Value} {A : Around} {E : Value → Shared → Prop}
end


/-! ### readings and rules -/
section
variable {X : Cx} {o i e value : Expr} {pos pos' tpos : Pos} {td ty tv : TE}
end


/-! ### displays -/
section
variable {X : Cx} {pos : Pos}
end

/-! ### methods -/
section
variable {X : Cx} {pins : List (Addr × Obj)} {σ : St} {H : Hp} {s : Shared} {a : Addr} {y d : V} {u r : Value} {o : Option V} {A : Around} {E : Value → Shared → Prop}
end

section
variable {X : Cx} {o e f : Expr} {apos cpos : Pos} {td ty tx : TE}
end

/-! ### dict(d): a copy -/
section
variable {X : Cx} {pins : List (Addr × Obj)} {σ : St} {H : Hp} {s : Shared} {a : Addr} {kvs : List (Key × V)} {A : Around} {E : Value → Shared → Prop}
end


section
variable {X : Cx} {pins : List (Addr × Obj)} {σ : St} {H : Hp} {s : Shared} {a : Addr} {y : V} {u : Value} {A : Around} {E : Value → Shared → Prop}
end
section
variable {X : Cx}
end
end L2

set_option Elab.async false
set_option linter.all false
set_option maxRecDepth 100000
set_option maxHeartbeats 4000000
namespace L2
open PySem PySem.Spec PyProof.Rows
theorem Room.u1 {k : Nat} {A : Around} (r : Room k A) : A.units + 1 < cLine := by have := r.units; omega
/-! ## defs with defaults -/
structure FunD (K : PySem.W.Frag) (x qual : Str) (st : Stmt) (dV : Value) (f : Addr) (fd : FuncData) : Prop where
  ex : ∃ (oc : Value) (od : Option Addr) (kV doc pm : Value) (an : Option Addr) (cdv ct : Value) (osl : Array (Option Value)),
    fd = PySem.W.fnOf x qual (defArgs st) (defBody st) (defScope st) dV kV doc pm an cdv ct ∧ K.lookup f = some ⟨oc, od, .func fd, osl⟩ ∧ PySem.W.codeIn K cdv qual = true
  kp : PySem.W.keepIn K (.ref f) = true
section
variable {P : Program} {w : World} {K : PySem.W.Frag} {mg : Str → Option Value} {base : Heap}
theorem FunD.ok {x qual : Str} {st : Stmt} {dV : Value} {f : Addr} {fd : FuncData} {N ps : List Str} {k : Nat} {sp : Sp} (F : FunD K x qual st dV f fd) (S : FnScope N ps (defScope st)) (len : ∀ vs H Q E, sp vs H Q E → vs.length = ps.length)
    (hbody : ∀ (cdv : Value) (A : Around) (outer : List Env) (s : Shared) (H : Hp) (vs : List V) (Q : VK) (E : XK), Room k (A.deeper (envOfC qual (defScope st) s.heap.objs.size f cdv)) → sp vs H Q E →
      ∃ t, PSs (cxOf CX0 P w K mg base N qual (defScope st) f cdv A outer s H E).nox (defBody st) t ∧ t { nx := fun _ H' => Q .non H', rt := Q } (start N vs) H) : FnOk P w K mg base CX0 (k + 1) f fd ps sp := by
  obtain ⟨oc, od, kV, doc, pm, an, cdv, ct, osl, rfl, lk, hcd⟩ := F.ex
  refine fn_of lk hcd S len fun A outer s H vs Q E hr hsp => ?_
  obtain ⟨t, h, q⟩ := hbody cdv A outer s H vs Q E hr hsp
  exact ⟨t, h.nox, q⟩
theorem funD_mk {x qual : Str} {st : Stmt} {dV : Value} {f : Addr} {oc : Value} {od an : Option Addr} {osl : Array (Option Value)} {kV doc pm cdv ct : Value} (l : K.lookup f = some ⟨oc, od, .func (PySem.W.fnOf x qual (defArgs st) (defBody st) (defScope st) dV kV doc pm an cdv ct), osl⟩)
    (c : PySem.W.codeIn K cdv qual = true) (k : PySem.W.keepIn K (.ref f) = true) : FunD K x qual st dV f (PySem.W.fnOf x qual (defArgs st) (defBody st) (defScope st) dV kV doc pm an cdv ct) := ⟨⟨oc, od, kV, doc, pm, an, cdv, ct, osl, rfl, l, c⟩, k⟩
structure OwnD (P : Program) (w : World) (K : PySem.W.Frag) (mg : Str → Option Value) (base : Heap) (CX : CXT) (k : Nat) (x : Str) (ps : List Str) (sp : Sp) (dvs : List V) : Prop where
  ex : ∃ f fd ds, FnOk P w K mg base CX k f fd ps sp ∧ Binds K fd ps ds ∧ Vals dvs ds ∧ PySem.W.keepIn K (.ref f) = true ∧ mg x = some (.ref f)
end
section
variable {X : Cx} {CX : CXT} {j k : Nat} {ps : List Str} {sp : Sp} {dvs : List V} {E : XK} {x : Str} {p pos : Pos} {e : Expr} {es : List Expr} {t : TA}
theorem pe_ownD (O : OwnD X.prog X.w X.K X.mg X.base CX j x ps sp dvs) (hr : Room k X.A) (hg : Gl X x) (hx : Passes CX X E) (ha : PA X (e :: es) t) (hj : j ≤ k := by decide) (hdb : (x == ("__debug__" : Str)) = false := by decide)
    (he : starEach (e :: es) X.env = (false, eval e X.env) :: starEach es X.env := by rfl) (hpl : (backTo pos (starEach es X.env)).any (·.1) = false := by rfl) : PE X (.Call (.Name x p) (e :: es) [] pos) (tCall sp dvs E t) := by
  obtain ⟨f, fd, ds, F, b, v, kp, m⟩ := O.ex
  exact pe_call F (hr.mono hj) hg m kp b v hx ha hdb he hpl
end
/-! ## a call of what an expression tells -/
section
variable {X : Cx} {CX : CXT} {k : Nat} {E : XK} {func e : Expr} {es : List Expr} {pos : Pos} {tf : TE} {t : TA}
end
/-! ## a dict of the module: texts to objects -/
def ents (w : World) (ps : List (List Nat × Tok × Addr)) : List DictEntry := ps.map fun p => { hash := PyData.keyHash w.params (S p.1), key := .str (S p.1) p.2.1, val := .ref p.2.2 }
structure KDict (K : PySem.W.Frag) (w : World) (a : Addr) (ps : List (List Nat × Tok × Addr)) : Prop where
  at_ : ∃ ep, K.lookup a = some { cls := .type "dict", dict := none, data := .dict (ents w ps).toArray ep, slots := #[] }
  sys : (a == sysModules) = false
def kAt : List (List Nat × Tok × Addr) → List Nat → Option Addr
  | [], _ => none
  | (k, _, f) :: r, x => if k = x then some f else kAt r x
section
variable {prog : Program} {w : World} {K : PySem.W.Frag} {a : Addr} {ps : List (List Nat × Tok × Addr)}
theorem ents_keys : KeysOf (strKind prog w) (ents w ps).toArray := by
  intro e he
  have he' : e ∈ ents w ps := by simpa using he
  obtain ⟨p, _, rfl⟩ := List.mem_map.mp he'
  exact ⟨S p.1, by show (S p.1 == S p.1) = true; simp, rfl⟩
theorem ents_find (x : List Nat) : findBy (strKind prog w).is (ents w ps).toArray (S x) = (kAt ps x).map Value.ref := by
  unfold findBy
  induction ps with
  | nil => rfl
  | cons p r ih =>
    obtain ⟨k, t, f⟩ := p
    have e : (ents w ((k, t, f) :: r)).toArray.find? (fun e => (strKind prog w).is (S x) e.key) = if (S k == S x) = true then some { hash := PyData.keyHash w.params (S k), key := .str (S k) t, val := .ref f } else (ents w r).toArray.find? (fun e => (strKind prog w).is (S x) e.key) := by
      rw [← Array.find?_toList, ← Array.find?_toList]
      show List.find? _ (_ :: ents w r) = _
      rw [List.find?_cons]
      show (match (S k == S x) with | true => _ | false => _) = _
      cases (S k == S x) <;> rfl
    rw [e]
    unfold kAt
    by_cases h : k = x
    · subst h
      rw [if_pos (by simp), if_pos rfl]
      rfl
    · have h' : ¬ S k = S x := fun z => h (S_inj z)
      rw [if_neg (by simpa using h'), if_neg h]
      exact ih
theorem KDict.map (D : KDict K w a ps) {h : Heap} (X : K.In h) : h.MapOf (strKind prog w) a (fun x => findBy (strKind prog w).is (ents w ps).toArray x) := by
  obtain ⟨ep, e⟩ := D.at_
  exact ⟨_, _, ep, X _ _ e, ⟨rfl, rfl, rfl⟩, rfl, ents_keys, fun _ => rfl⟩
end
def tKIn (K : PySem.W.Frag) (w : World) (ty td : TE) : TE := fun σ H Q => ty σ H fun y H1 => td σ H1 fun x H2 => ∃ a ps l, x = .ref a ∧ KDict K w a ps ∧ y = .str (S l) ∧ Q (.bl (kAt ps l).isSome) H2
section
variable {X : Cx} {o i : Expr} {td ty : TE} {pos : Pos}
theorem pc_kin (hi : PE X i ty) (ho : PE X o td) : PC X .In i o (tKIn X.K X.w ty td) := by
  intro pins s σ H Q I h
  refine thn (hi pins s σ H _ I h) fun iv s1 ⟨y, H1, I1, ry, q1⟩ => thn (ho pins s1 σ H1 _ I1 q1) fun u s2 ⟨x, H2, I2, rx, a, ps, l, ex, D, ey, q2⟩ => ?_
  subst ex ey
  obtain rfl : u = Value.ref a := rx
  obtain ⟨t, rfl⟩ := ry
  have M := D.map (prog := X.prog) I2.kIn
  refine wpAny_in_of (k := S l) (by show (S l == S l) = true; simp) D.sys M ?_
  rw [ents_find, Option.isSome_map]
  exact ⟨.bl _, H2, I2.tok _, rfl, q2⟩
end
end L2

set_option Elab.async false
set_option linter.all false
set_option maxRecDepth 100000
set_option maxHeartbeats 4000000
namespace L2
/-! ## the row of a place -/
def IsRow (l : List Nat) (p b e : Nat) : Prop := b ≤ p ∧ p ≤ e ∧ e ≤ l.length ∧ (∀ j, b ≤ j → j < e → l[j]? ≠ some 10) ∧ (b = 0 ∨ (0 < b ∧ l[b - 1]? = some 10)) ∧ (e = l.length ∨ l[e]? = some 10)
def rno (l : List Nat) (p : Nat) : Nat := (l.take p).count 10
def rb (l : List Nat) (p : Nat) : Nat := begAt l (rno l p)
def re (l : List Nat) (p : Nat) : Nat := endAt l (rno l p)
theorem occs_has {l : List Nat} {j : Nat} : j ∈ occs l ↔ l[j]? = some 10 := by
  unfold occs
  rw [List.mem_filter, List.mem_range]
  constructor
  · rintro ⟨_, h⟩
    exact beq_iff_eq.mp h
  · intro h
    exact ⟨(List.getElem?_eq_some_iff.mp h).1, beq_iff_eq.mpr h⟩
theorem occs_take (l : List Nat) {p : Nat} (h : p ≤ l.length) : occs (l.take p) = (occs l).filter (· < p) := by
  unfold occs
  rw [List.length_take, Nat.min_eq_left h, List.filter_filter]
  have e : List.range l.length = List.range p ++ (List.range (l.length - p)).map (p + ·) := by
    rw [← List.range_add]
    congr 1
    omega
  rw [e, List.filter_append]
  have e2 : List.filter (fun a => decide (a < p) && l[a]? == some 10) ((List.range (l.length - p)).map (p + ·)) = [] := by
    rw [List.filter_eq_nil_iff]
    intro a ha
    obtain ⟨b, _, rfl⟩ := List.mem_map.mp ha
    rw [decide_eq_false (by omega), Bool.false_and]
    exact Bool.false_ne_true
  rw [e2, List.append_nil]
  refine List.filter_congr fun i hi => ?_
  have hi' := List.mem_range.mp hi
  rw [decide_eq_true hi', Bool.true_and, List.getElem?_take_of_lt hi']
theorem rno_eq (l : List Nat) {p : Nat} (h : p ≤ l.length) : rno l p = ((occs l).filter (· < p)).length := by
  unfold rno
  rw [← occs_len, occs_take l h]
theorem rising_lt {p : Nat} : ∀ {xs : List Nat} {i x : Nat}, xs.Pairwise (· < ·) → xs[i]? = some x → (x < p ↔ i < (xs.filter (· < p)).length)
  | [], i, x, _, h => by simp at h
  | y :: xs, i, x, hp, h => by
    rw [List.pairwise_cons] at hp
    rw [List.filter_cons]
    by_cases hy : y < p
    · rw [if_pos (by simpa using hy), List.length_cons]
      cases i with
      | zero =>
        have : y = x := by simpa using h
        subst this
        exact ⟨fun _ => by omega, fun _ => hy⟩
      | succ i =>
        have ih := rising_lt (p := p) (i := i) (x := x) hp.2 (by simpa using h)
        rw [ih]
        omega
    · rw [if_neg (by simpa using hy)]
      have hno : xs.filter (· < p) = [] := by
        rw [List.filter_eq_nil_iff]
        intro z hz
        have := hp.1 z hz
        simp
        omega
      rw [hno]
      cases i with
      | zero =>
        have : y = x := by simpa using h
        subst this
        exact ⟨fun z => absurd z hy, fun z => absurd z (Nat.not_lt_zero _)⟩
      | succ i =>
        have hx : x ∈ xs := List.mem_of_getElem? (by simpa using h)
        have := hp.1 x hx
        exact ⟨fun z => by omega, fun z => absurd z (Nat.not_lt_zero _)⟩
theorem occ_lt {l : List Nat} {p i x : Nat} (h : p ≤ l.length) (hx : (occs l)[i]? = some x) : x < p ↔ i < rno l p := by
  rw [rno_eq l h]
  exact rising_lt (occs_sorted l) hx
theorem rno_le (l : List Nat) {p : Nat} (h : p ≤ l.length) : rno l p ≤ l.count 10 := by
  unfold rno
  exact List.Sublist.count_le _ (List.take_sublist _ _)
theorem stop_occ {l : List Nat} {i : Nat} (h : i < l.count 10) : ∃ x, (occs l)[i]? = some x ∧ endAt l i = x := by
  have hi : i < (occs l).length := by rw [occs_len]; exact h
  refine ⟨(occs l)[i], List.getElem?_eq_getElem hi, ?_⟩
  unfold endAt stops
  rw [List.getD_eq_getElem?_getD, List.getElem?_append_left hi, List.getElem?_eq_getElem hi]
  rfl
theorem stop_last (l : List Nat) : endAt l (l.count 10) = l.length := by
  unfold endAt stops
  rw [List.getD_eq_getElem?_getD, List.getElem?_append_right (by rw [occs_len]; omega), occs_len, Nat.sub_self]
  rfl
theorem row_is {l : List Nat} {p : Nat} (h : p ≤ l.length) : IsRow l p (rb l p) (re l p) := by
  have hr := rno_le l h
  have hb : rb l p ≤ p ∧ (rb l p = 0 ∨ (0 < rb l p ∧ l[rb l p - 1]? = some 10)) ∧ ∀ i x, (occs l)[i]? = some x → rb l p ≤ x → rno l p ≤ i := by
    unfold rb
    cases e : rno l p with
    | zero => exact ⟨Nat.zero_le _, .inl rfl, fun i x _ _ => Nat.zero_le _⟩
    | succ r =>
      obtain ⟨x, h1, h2⟩ := stop_occ (l := l) (i := r) (by omega)
      have hx := (occ_lt h h1).mpr (by omega)
      have eb : begAt l (r + 1) = x + 1 := by show endAt l r + 1 = x + 1; rw [h2]
      rw [eb]
      refine ⟨by omega, .inr ⟨by omega, ?_⟩, fun i y hi hy => ?_⟩
      · rw [show x + 1 - 1 = x by omega]
        exact occs_has.mp (List.mem_of_getElem? h1)
      · rcases Nat.lt_or_ge i (r + 1) with z | z
        · exfalso
          rcases Nat.lt_or_eq_of_le (Nat.le_of_lt_succ z) with z' | z'
          · have s := occs_sorted l
            obtain ⟨a1, a2⟩ := List.getElem?_eq_some_iff.mp hi
            obtain ⟨b1, b2⟩ := List.getElem?_eq_some_iff.mp h1
            have := (List.pairwise_iff_getElem.mp s) i r a1 b1 z'
            omega
          · subst z'
            rw [h1] at hi
            cases hi
            omega
        · exact z
  have he : p ≤ re l p ∧ re l p ≤ l.length ∧ (re l p = l.length ∨ l[re l p]? = some 10) ∧ ∀ i x, (occs l)[i]? = some x → x < re l p → i < rno l p := by
    unfold re
    rcases Nat.lt_or_eq_of_le hr with z | z
    · obtain ⟨x, h1, h2⟩ := stop_occ (l := l) (i := rno l p) z
      have hx := occ_lt h h1
      rw [h2]
      have m := occs_has.mp (List.mem_of_getElem? h1)
      have hlt := (List.getElem?_eq_some_iff.mp m).1
      refine ⟨?_, by omega, .inr m, fun i y hi hy => ?_⟩
      · rcases Nat.lt_or_ge x p with q | q
        · exact absurd (hx.mp q) (Nat.lt_irrefl _)
        · exact q
      · rcases Nat.lt_or_ge i (rno l p) with q | q
        · exact q
        · exfalso
          rcases Nat.lt_or_eq_of_le q with q' | q'
          · have s := occs_sorted l
            obtain ⟨a1, a2⟩ := List.getElem?_eq_some_iff.mp hi
            obtain ⟨b1, b2⟩ := List.getElem?_eq_some_iff.mp h1
            have := (List.pairwise_iff_getElem.mp s) _ i b1 a1 q'
            omega
          · subst q'
            rw [h1] at hi
            cases hi
            omega
    · rw [z, stop_last]
      refine ⟨h, Nat.le_refl _, .inl rfl, fun i y hi _ => ?_⟩
      have := (List.getElem?_eq_some_iff.mp hi).1
      rw [occs_len] at this
      exact this
  refine ⟨hb.1, he.1, he.2.1, fun j h1 h2 hj => ?_, hb.2.1, he.2.2.1⟩
  obtain ⟨i, hi⟩ := List.mem_iff_getElem?.mp (occs_has.mpr hj)
  have a := hb.2.2 i j hi h1
  have b := he.2.2.2 i j hi h2
  omega
end L2
namespace L2
end L2

set_option Elab.async false
set_option linter.all false
set_option maxRecDepth 100000
set_option maxHeartbeats 4000000
namespace L2
open PySem
/-! ## the first one from a on, the last one ahead of a -/
/-! ## the moves -/
def nV (n : Nat) : V := .int (n : Int)
theorem step_gt {l : List Nat} {p r : Nat} (hp : p ≤ l.length) (hr : r ≤ rno l p) : endAt l r < p ↔ r < rno l p := by
  have h2 := rno_le l hp
  rcases Nat.lt_or_ge r (l.count 10) with z | z
  · obtain ⟨x, h1, e⟩ := stop_occ z
    rw [e]
    exact occ_lt hp h1
  · have e : r = l.count 10 := by omega
    subst e
    rw [stop_last]
    omega
theorem rows_sum {l : List Nat} : ∀ {r : Nat}, r ≤ l.count 10 + 1 → ((((splitL l).take r).map fun rr => (rr.length : Int) + 1)).sum = (begAt l r : Int)
  | 0, _ => by simp [begAt]
  | r + 1, hr => by
    obtain ⟨rr, e1, e2⟩ := splitL_at (l := l) (i := r) (by omega)
    have hb := beg_le (l := l) (i := r) (by omega)
    rw [List.take_add_one, e1]
    show (((splitL l).take r ++ [rr]).map fun rr => (rr.length : Int) + 1).sum = ((endAt l r + 1 : Nat) : Int)
    rw [List.map_append, List.sum_append, rows_sum (by omega)]
    simp
    omega
end L2

set_option Elab.async false
set_option linter.all false
set_option maxRecDepth 100000
set_option maxHeartbeats 4000000
namespace L2
open PySem PySem.Spec PyProof.Rows
/-! ## comprehensions that take names from around -/
section
variable {X : Cx} {scope sc : Scope} {NB NN : List Str} {ix : List (Option Nat)} {pins : List (Addr × Obj)} {σ : St} {H : Hp} {s : Shared}
end
end L2

set_option Elab.async false
set_option linter.all false
set_option maxRecDepth 100000
set_option maxHeartbeats 4000000
namespace L2
open PySem PySem.Spec PyProof.Rows
/-! ## sum, max, min of a list of whole numbers; for over a text -/
theorem int_items : ∀ {ns : List Int} {us : List Value}, Vals (ns.map V.int) us → ∃ xs : List (Int × Tok), us = xs.map (fun p => Value.int p.1 p.2) ∧ xs.map (·.1) = ns
  | [], _, .nil => ⟨[], rfl, rfl⟩
  | n :: ns, _, .cons r t => by
    obtain ⟨tk, rfl⟩ := r
    obtain ⟨xs, rfl, e⟩ := int_items t
    exact ⟨(n, tk) :: xs, rfl, by rw [List.map_cons, e]⟩
theorem num_at {xs : List (Int × Tok)} {ns : List Int} (h : xs.map (·.1) = ns) (i : Nat) : numAt xs.toArray i = ns.getD i 0 := by
  unfold numAt
  subst h
  rw [List.getD_eq_getElem?_getD, List.getElem?_map]
  simp
theorem pre_sum {xs : List (Int × Tok)} {ns : List Int} (h : xs.map (·.1) = ns) : ∀ k, k ≤ ns.length → preSum (numAt xs.toArray) k = (ns.take k).sum
  | 0, _ => by simp [preSum]
  | k + 1, hk => by
    show preSum (numAt xs.toArray) k + numAt xs.toArray k = _
    rw [pre_sum h k (by omega), num_at h, List.getD_eq_getElem?_getD, List.getElem?_eq_getElem (by omega)]
    rw [show ns.take (k + 1) = ns.take k ++ [ns[k]] from by rw [List.take_add_one, List.getElem?_eq_getElem (by omega)]; rfl, List.sum_append]
    simp
section
variable {X : Cx} {tg : Expr}
theorem items_eq (xs : List (Int × Tok)) : intItems xs.toArray = (xs.map fun p => Value.int p.1 p.2).toArray := by unfold intItems; simp
theorem kept_ep {pins : List (Addr × Obj)} {σ : St} {H : Hp} {s : Shared} {Q : VK} {v : V} {u : Value} {h' : Heap} {tk : Nat} (I : Inv X pins σ H s) (hk : ∀ b o, s.heap.get? b = some o → h'.get? b = some o) (r : RelV v u) (q : Q v H) : EP X pins σ Q u { s with heap := h', toks := tk } :=
  ⟨v, H, I.kept (t' := tk) hk, r, q⟩
/-! the signs of a text, one by one -/
end
end L2

set_option Elab.async false
set_option linter.all false
set_option maxRecDepth 100000
set_option maxHeartbeats 4000000
namespace L2
open PySem PySem.Spec PyProof.Rows
/-! comprehensions that keep what a test lets by -/
/-! the first and the last of a list of places -/
theorem upd_tup {H : Hp} {d t : Addr} {xs u : List V} {o : HO} (hd : H d = some (.lst xs)) (ht : H t = some (.tup u)) : upd H d o t = some (.tup u) := (upd_ne (ne_of ht hd (by intro z; cases z))).trans ht
theorem atI_lst {α : Type} {xs : List α} (h : 0 < xs.length) : atI xs (-1) = xs.getLast? := by
  unfold atI ixN
  rw [if_neg (by decide), if_pos (by omega), List.getLast?_eq_getElem?]
  show xs[(-1 + (xs.length : Int)).toNat]? = _
  rw [show (-1 + (xs.length : Int)).toNat = xs.length - 1 by omega]
theorem iteNF {c A B : Prop} [Decidable c] (hc : ¬ c) (h : A) : if (!decide c) = true then A else B := by
  rw [decide_eq_false hc]
  exact iteT h
end L2

set_option Elab.async false
set_option linter.all false
set_option maxRecDepth 100000
set_option maxHeartbeats 4000000
namespace L2
open PySem
abbrev cSigns : List Nat := [115, 105, 103, 110, 115]
abbrev cRows : List Nat := [114, 111, 119, 115]
abbrev cBlock : List Nat := [98, 108, 111, 99, 107]
end L2

set_option Elab.async false
set_option linter.all false
set_option maxRecDepth 100000
set_option maxHeartbeats 4000000
namespace L2
open PySem
theorem beg_mono {l : List Nat} : ∀ {i j : Nat}, i ≤ j → j ≤ l.count 10 + 1 → begAt l i ≤ begAt l j
  | i, 0, h, _ => by rw [Nat.le_zero.mp h]; exact Nat.le_refl _
  | i, j + 1, h, hj => by
    rcases Nat.lt_or_eq_of_le h with z | z
    · have h1 := beg_mono (l := l) (i := i) (j := j) (by omega) (by omega)
      have h2 := beg_le (l := l) (i := j) (by omega)
      show begAt l i ≤ endAt l j + 1
      omega
    · rw [z]; exact Nat.le_refl _
theorem head_le {l : List Nat} {p j : Nat} (hp : p ≤ l.length) (hj : j ≤ l.count 10 + 1) : begAt l j ≤ p ↔ j ≤ rno l p := by
  have hr := rno_le l hp
  obtain ⟨r1, _⟩ := row_is hp
  constructor
  · intro h
    rcases Nat.lt_or_ge (rno l p) j with z | z
    · have h1 := beg_mono (l := l) (i := rno l p + 1) (j := j) z hj
      have h2 := step_gt (r := rno l p) hp (Nat.le_refl _)
      have h3 : ¬ endAt l (rno l p) < p := fun y => Nat.lt_irrefl _ (h2.mp y)
      have h4 : begAt l (rno l p + 1) = endAt l (rno l p) + 1 := rfl
      omega
    · exact z
  · intro h
    have h1 := beg_mono (l := l) (i := j) (j := rno l p) h (by omega)
    exact Nat.le_trans h1 r1
end L2

set_option Elab.async false
set_option linter.all false
set_option maxRecDepth 100000
set_option maxHeartbeats 4000000
namespace L2
open PySem PySem.Spec PyProof.Rows
/-! dict(d), == and != of dicts with the same pairs -/
section
variable {X : Cx}
theorem eqV_self {x : V} (h : flatV x = true) : eqV x x = true := by
  cases x with
  | non => rfl
  | bl b => show (b == b) = true; simp
  | int i => show (i == i) = true; simp
  | str y => show (y == y) = true; simp
  | byt _ => cases h
  | flt _ => cases h
  | ref _ => cases h
  | ty _ => cases h
end
end L2

set_option Elab.async false
set_option linter.all false
set_option maxRecDepth 100000
set_option maxHeartbeats 4000000
namespace L2
open PySem PySem.Spec PyProof.Rows PySem.StrLaws
/-! ## lists of tuples: == of two whose tuples hold the same -/
section
variable {X : Cx}
theorem op_eqP (hu : X.A.units + 1 < cLine) : OpR X (compareOp .Eq) (fun x y H Q => ∃ (p q : Addr) (as bs : List Addr), x = .ref p ∧ y = .ref q ∧ SqL X.K H p (as.map V.ref) ∧ SqL X.K H q (bs.map V.ref) ∧ as.length = bs.length ∧ (∀ (j : Nat) (a b : Addr), as[j]? = some a → bs[j]? = some b → ∃ xs : List V, SqT X.K H a xs ∧ SqT X.K H b xs ∧ xs.all flatV = true ∧ eqs xs xs = true) ∧ Q (.bl true) H) := by
  intro pins s σ H x y v u Q I rx ry h
  obtain ⟨p, q, as, bs, rfl, rfl, h1, h2, hlen, hat, w⟩ := h
  cases rx
  cases ry
  obtain ⟨its, r, pl, hz⟩ := I.list h1
  obtain ⟨jts, r2, pl2, hz2⟩ := I.list h2
  cases refs_same r
  cases refs_same r2
  refine SeqAt.eq_listAt (e := fun _ => true) pl.isList pl2.isList (by simp [hlen]) (by omega) (fun j ha hb => ?_) ?_
  · have ja : j < as.length := by simpa using ha
    have jb : j < bs.length := by simpa using hb
    have ea : as[j]? = some as[j] := List.getElem?_eq_getElem ja
    have eb : bs[j]? = some bs[j] := List.getElem?_eq_getElem jb
    obtain ⟨xs, t1, t2, fx, ex⟩ := hat j _ _ ea eb
    have va : ((as.map Value.ref).toArray)[j] = Value.ref as[j] := by simp
    have vb : ((bs.map Value.ref).toArray)[j] = Value.ref bs[j] := by simp
    rw [va, vb]
    by_cases e : as[j] = bs[j]
    · rw [e]; exact SeqAt.EqAt.same _
    · refine SeqAt.EqAt.of_refs e ?_
      obtain ⟨us, ru, tu, _⟩ := I.tuple t1
      obtain ⟨ws, rw', tw, _⟩ := I.tuple t2
      have e1 : us.toArray.size = xs.length := by rw [List.size_toArray, ru.length]
      have e2 : ws.toArray.size = xs.length := by rw [List.size_toArray, rw'.length]
      have R := SeqAt.RcAt.tuples (A := X.A.in1) (e := eqAtJ xs xs) (show s.heap.IsTuple as[j] us.toArray from tu) (show s.heap.IsTuple bs[j] ws.toArray from tw) hu (fun i ia ib => by
        obtain ⟨a, e3, ra⟩ := ru.at ia
        obtain ⟨b, e4, rb⟩ := rw'.at ib
        rw [e3] at e4
        cases e4
        have e : eqAtJ xs xs i = eqV a a := by unfold eqAtJ; rw [e3]
        rw [e]
        exact eqAt_V ra rb (flat_at fx e3) (flat_at fx e3))
      rw [e1, e2, Nat.min_self, eqs_all rfl, ex, beq_self_eq_true] at R
      exact R
  · rw [all_true]
    exact ⟨.bl true, H, I, rfl, w⟩
end
/-! ## a list of pairs of numbers -/
end L2

set_option Elab.async false
set_option linter.all false
set_option maxRecDepth 100000
set_option maxHeartbeats 4000000
namespace L2
open PySem PySem.Spec PyProof.Rows PySem.StrLaws
end L2

set_option Elab.async false
set_option linter.all false
set_option maxRecDepth 100000
set_option maxHeartbeats 4000000
namespace L2
open PySem PySem.Spec PyProof.Rows PySem.StrLaws
/-! comprehensions with any target: a tuple of names -/
section
variable {X : Cx} {scope : Scope} {cl : List (Str × Addr)} {NB : List Str} {ix : List (Option Nat)} {fp : List Addr} {pins : List (Addr × Obj)} {σ : St} {H : Hp} {s : Shared}
end
section
variable {X : Cx} {scope : Scope} {cl : List (Str × Addr)} {NB : List Str} {ix : List (Option Nat)} {fp : List Addr} {pins : List (Addr × Obj)} {σ : St} {H : Hp} {s : Shared}
end
section
variable {X : Cx} {scope sc : Scope} {NB NN : List Str} {ix : List (Option Nat)} {pins : List (Addr × Obj)} {σ : St} {H : Hp} {s : Shared}
end
end L2

set_option Elab.async false
set_option linter.all false
set_option maxRecDepth 100000
set_option maxHeartbeats 4000000
namespace L2
open PySem PySem.Spec PyProof.Rows PySem.StrLaws
/-! ## a list of tuples -/
def TupsV (H : Hp) (D : Addr) (ts : List (List V)) : Prop := ∃ as : List Addr, H D = some (.lst (as.map V.ref)) ∧ as.length = ts.length ∧ ∀ (i : Nat) (a : Addr) (t : List V), as[i]? = some a → ts[i]? = some t → H a = some (.tup t)
theorem TupsV.same {H H' : Hp} {D : Addr} {ts : List (List V)} (h : TupsV H D ts) (s : Same H H') : TupsV H' D ts := by
  obtain ⟨as, h1, h2, h3⟩ := h
  exact ⟨as, s _ _ h1, h2, fun i a q e1 e2 => s _ _ (h3 i a q e1 e2)⟩
theorem TupsV.nil {H : Hp} {D : Addr} (h : H D = some (.lst [])) : TupsV H D [] := ⟨[], h, rfl, fun i a t z => by cases z⟩
theorem TupsV.snoc {H : Hp} {D a : Addr} {ts : List (List V)} {xs : List V} {t : List V} (h : TupsV H D ts) (hD : H D = some (.lst xs)) (ht : H a = some (.tup t)) : TupsV (upd H D (.lst (xs ++ [.ref a]))) D (ts ++ [t]) := by
  obtain ⟨as, h1, h2, h3⟩ := h
  rw [h1] at hD
  cases hD
  refine ⟨as ++ [a], ?_, ?_, fun i b r e1 e2 => ?_⟩
  · rw [upd_same, List.map_append] <;> rfl
  · rw [List.length_append, List.length_append, h2] <;> rfl
  · by_cases hi : i < as.length
    · rw [List.getElem?_append_left hi] at e1
      rw [List.getElem?_append_left (by omega)] at e2
      exact upd_tup h1 (h3 i b r e1 e2)
    · rw [List.getElem?_append_right (by omega)] at e1
      rw [List.getElem?_append_right (by omega), ← h2] at e2
      by_cases z : i - as.length = 0
      · rw [z] at e1 e2
        cases e1
        cases e2
        exact upd_tup h1 ht
      · rw [List.getElem?_eq_none (by simp; omega)] at e1
        cases e1
theorem TupsV.mem {H : Hp} {D : Addr} {ts : List (List V)} (h : TupsV H D ts) : ∃ xs, H D = some (.lst xs) ∧ xs.length = ts.length ∧ ∀ (i : Nat) (v : V), xs[i]? = some v → ∃ a t, v = .ref a ∧ ts[i]? = some t ∧ H a = some (.tup t) := by
  obtain ⟨as, h1, h2, h3⟩ := h
  refine ⟨_, h1, by rw [List.length_map, h2], fun i v e => ?_⟩
  rw [List.getElem?_map] at e
  cases ea : as[i]? with
  | none => rw [ea] at e; cases e
  | some a =>
    rw [ea] at e
    cases e
    have hi : i < ts.length := by rw [← h2]; exact (List.getElem?_eq_some_iff.mp ea).1
    exact ⟨a, ts[i], rfl, List.getElem?_eq_getElem hi, h3 i a _ ea (List.getElem?_eq_getElem hi)⟩
def rIsi (K : PySem.W.Frag) : List V → Hp → VK → Prop := fun xs H Q => ∃ x c t b, xs = [x, c] ∧ (∃ n, c = V.ty n ∨ ∃ a, c = V.ref a) ∧ TyOf K H x t ∧ PySem.W.kitOne K t (clsV c) = some b ∧ Q (.bl b) H
theorem call_isiK {X : Cx} {K : PySem.W.Frag} (h : X.K = K) : CallR X (.builtin "isinstance") (rIsi K) := by
  subst h
  exact call_isi
/-! ## == of tuples that hold lists or tuples of flat values -/
def Eq1 (K : PySem.W.Frag) (H : Hp) (a b : V) : Prop := (flatV a = true ∧ flatV b = true ∧ eqV a b = true) ∨ ∃ p q zs, a = .ref p ∧ b = .ref q ∧ ((SqL K H p zs ∧ SqL K H q zs) ∨ (SqT K H p zs ∧ SqT K H q zs)) ∧ zs.all flatV = true ∧ eqs zs zs = true
section
variable {X : Cx}
theorem eq1_at {pins : List (Addr × Obj)} {s : Shared} {σ : St} {H : Hp} {A : Around} {a b : V} {u v : Value} (I : Inv X pins σ H s) (hu : A.units < cLine) (ra : RelV a u) (rb : RelV b v) (h : Eq1 X.K H a b) : SeqAt.EqAt A s u v true := by
  rcases h with ⟨fa, fb, e⟩ | ⟨p, q, zs, rfl, rfl, hq, fz, ez⟩
  · have := eqAt_V (A := A) (s := s) ra rb fa fb
    rw [e] at this
    exact this
  · cases ra
    cases rb
    by_cases e : p = q
    · subst e; exact SeqAt.EqAt.same _
    refine SeqAt.EqAt.of_refs e ?_
    have el : ∀ {us ws : List Value}, Vals zs us → Vals zs ws → ∀ (j : Nat) (h1 : j < us.toArray.size) (h2 : j < ws.toArray.size), SeqAt.EqAt A.in1 s us.toArray[j] ws.toArray[j] (eqAtJ zs zs j) := fun ru rw' j ja jb => by
      obtain ⟨x, e3, rx⟩ := ru.at ja
      obtain ⟨y, e4, ry⟩ := rw'.at jb
      rw [e3] at e4
      cases e4
      have e : eqAtJ zs zs j = eqV x x := by unfold eqAtJ; rw [e3]
      rw [e]
      exact eqAt_V rx ry (flat_at fz e3) (flat_at fz e3)
    rcases hq with ⟨h1, h2⟩ | ⟨h1, h2⟩
    · obtain ⟨us, ru, tu, _⟩ := I.list h1
      obtain ⟨ws, rw', tw, _⟩ := I.list h2
      have e1 : us.toArray.size = zs.length := by rw [List.size_toArray, ru.length]
      have e2 : ws.toArray.size = zs.length := by rw [List.size_toArray, rw'.length]
      have R := SeqAt.RcAt.lists (A := A) (e := eqAtJ zs zs) tu.isList tw.isList (by rw [e1, e2]) hu (el ru rw')
      rw [e1, eqs_all rfl, ez] at R
      exact R
    · obtain ⟨us, ru, tu, _⟩ := I.tuple h1
      obtain ⟨ws, rw', tw, _⟩ := I.tuple h2
      have e1 : us.toArray.size = zs.length := by rw [List.size_toArray, ru.length]
      have e2 : ws.toArray.size = zs.length := by rw [List.size_toArray, rw'.length]
      have R := SeqAt.RcAt.tuples (A := A) (e := eqAtJ zs zs) (show s.heap.IsTuple p us.toArray from tu) (show s.heap.IsTuple q ws.toArray from tw) hu (el ru rw')
      rw [e1, e2, Nat.min_self, eqs_all rfl, ez, beq_self_eq_true] at R
      exact R
theorem op_eqS (hu : X.A.units + 1 < cLine) : OpR X (compareOp .Eq) (fun x y H Q => ∃ (p q : Addr) (xs ys : List V), x = .ref p ∧ y = .ref q ∧ ((SqL X.K H p xs ∧ SqL X.K H q ys) ∨ (SqT X.K H p xs ∧ SqT X.K H q ys)) ∧ xs.length = ys.length ∧ (∀ (j : Nat) (a b : V), xs[j]? = some a → ys[j]? = some b → Eq1 X.K H a b) ∧ Q (.bl true) H) := by
  intro pins s σ H x y v u Q I rx ry h
  obtain ⟨p, q, xs, ys, rfl, rfl, hq, hlen, hat, w⟩ := h
  cases rx
  cases ry
  have el : ∀ {us ws : List Value}, Vals xs us → Vals ys ws → ∀ (j : Nat) (h1 : j < us.toArray.size) (h2 : j < ws.toArray.size), SeqAt.EqAt X.A.in1 s us.toArray[j] ws.toArray[j] ((fun _ => true) j) := fun ru rw' j ja jb => by
    obtain ⟨x, e3, rx⟩ := ru.at ja
    obtain ⟨y, e4, ry⟩ := rw'.at jb
    exact eq1_at I hu rx ry (hat j x y e3 e4)
  rcases hq with ⟨h1, h2⟩ | ⟨h1, h2⟩
  · obtain ⟨us, ru, tu, _⟩ := I.list h1
    obtain ⟨ws, rw', tw, _⟩ := I.list h2
    refine SeqAt.eq_listAt (e := fun _ => true) tu.isList tw.isList (by rw [List.size_toArray, List.size_toArray, ← ru.length, ← rw'.length, hlen]) (by omega) (el ru rw') ?_
    rw [all_true]
    exact ⟨.bl true, H, I, rfl, w⟩
  · obtain ⟨us, ru, tu, _⟩ := I.tuple h1
    obtain ⟨ws, rw', tw, _⟩ := I.tuple h2
    refine SeqAt.eq_tupleAt (e := fun _ => true) (show s.heap.IsTuple p us.toArray from tu) (show s.heap.IsTuple q ws.toArray from tw) (by omega) (el ru rw') ?_
    have e : us.toArray.size = ws.toArray.size := by rw [List.size_toArray, List.size_toArray, ← ru.length, ← rw'.length, hlen]
    rw [all_true, e, beq_self_eq_true]
    exact ⟨.bl true, H, I, rfl, w⟩
end
/-! ## sum of a list of whole numbers, some below 0 -/
theorem sum_boundZ : ∀ {ns : List Int}, (∀ n ∈ ns, -1000000 ≤ n ∧ n ≤ 1000000) → -1000000 * ns.length ≤ ns.sum ∧ ns.sum ≤ 1000000 * ns.length
  | [], _ => by simp
  | n :: ns, h => by
    have a := h n List.mem_cons_self
    have b := sum_boundZ fun m hm => h m (List.mem_cons_of_mem _ hm)
    rw [List.sum_cons, List.length_cons]
    omega
section
variable {X : Cx} {tg : Expr}
theorem call_sumZ (hc : X.calm = true) : CallR X (.builtin "sum") (fun vs H Q => ∃ (p : Addr) (ns : List Int), vs = [.ref p] ∧ SqL X.K H p (ns.map V.int) ∧ (∀ n ∈ ns, -1000000 ≤ n ∧ n ≤ 1000000) ∧ ns.length ≤ 100000 ∧ Q (.int ns.sum) H) := by
  intro pins s σ H vs us Q I r h
  obtain ⟨p, ns, rfl, hq, hb, hl, q⟩ := h
  obtain ⟨u, rfl, rfl⟩ := r.one
  obtain ⟨its, rv, pl, hz⟩ := I.list hq
  obtain ⟨xs, rfl, e⟩ := int_items rv
  have len : xs.length = ns.length := by rw [← e, List.length_map]
  refine sum_intList (xs := xs.toArray) (I.ok.hd hc) (by rw [items_eq]; exact pl.isList) (fun j hj => ?_) fun h' tk t' hk => ?_
  · have hj' : j < ns.length := by rw [← len]; simpa using hj
    rw [num_at e, pre_sum e (j + 1) hj']
    have m : ns.getD j 0 ∈ ns := by
      rw [List.getD_eq_getElem?_getD, List.getElem?_eq_getElem hj']
      exact List.getElem_mem _
    have b1 := hb _ m
    have b2 := sum_boundZ (ns := ns.take (j + 1)) fun n hn => hb n (List.mem_of_mem_take hn)
    rw [List.length_take] at b2
    have b3 : ((min (j + 1) ns.length : Nat) : Int) ≤ 100000 := by omega
    have e1 : preSum (numAt xs.toArray) (j + 1) = (ns.take (j + 1)).sum := pre_sum e (j + 1) hj'
    unfold InLong
    generalize (ns.take (j + 1)).sum = z at b2
    generalize ((min (j + 1) ns.length : Nat) : Int) = y at b2 b3
    omega
  · refine kept_ep (v := .int ns.sum) I hk ⟨t', ?_⟩ q
    rw [pre_sum e _ (by simp [len])]
    simp [len]
end
/-! ## for over a list from its end -/
end L2

set_option Elab.async false
set_option linter.all false
set_option maxRecDepth 100000
set_option maxHeartbeats 4000000
namespace L2
open PySem PySem.Spec PyProof.Rows PySem.StrLaws
/-! ## '\n'.join, and rows put together again -/
def glue : List (List Nat) → List Nat
  | [] => []
  | r :: rs => r ++ (rs.map fun p => 10 :: p).flatten
theorem glue_cons (r s : List Nat) (rs : List (List Nat)) : glue (r :: s :: rs) = r ++ 10 :: glue (s :: rs) := by
  unfold glue
  simp
theorem foldl_nl (ls : List (List Nat)) : ∀ acc : List Nat, List.foldl (fun (acc : Array Nat) (p : Str) => acc ++ (S [10]).cps ++ p.cps) (⟨acc⟩ : Array Nat) (ls.map S) = ⟨acc ++ (ls.map fun p => 10 :: p).flatten⟩ := by
  induction ls with
  | nil => intro acc; simp
  | cons r rs ih =>
    intro acc
    rw [List.map_cons, List.foldl_cons]
    have e : (⟨acc⟩ : Array Nat) ++ (S [10]).cps ++ (S r).cps = ⟨acc ++ 10 :: r⟩ := by
      show (⟨acc⟩ : Array Nat) ++ (⟨[10]⟩ : Array Nat) ++ (⟨r⟩ : Array Nat) = _
      simp
    rw [e, ih]
    simp
theorem glue_N (ls : List (List Nat)) : Builtin.Str.glued (S [10]) (ls.map S) = S (glue ls) := by
  cases ls with
  | nil => rfl
  | cons r rs =>
    show ({ cps := List.foldl (fun acc (p : Str) => acc ++ (S [10]).cps ++ p.cps) (S r).cps (rs.map S) } : Str) = _
    rw [show (S r).cps = (⟨r⟩ : Array Nat) from rfl, foldl_nl]
    rfl
section
variable {X : Cx}
theorem mt_joinN : MtR X "str.join" (fun x vs H Q => ∃ (p : Addr) (ls : List (List Nat)), x = .str (S [10]) ∧ vs = [.ref p] ∧ SqL X.K H p (ls.map fun r => V.str (S r)) ∧ ls.flatten.length + ls.length ≤ 1000000 ∧ Q (.str (S (glue ls))) H) := by
  intro pins s σ H x vs v us Q I rx rv h
  obtain ⟨p, ls, rfl, rfl, hq, hl, q⟩ := h
  obtain ⟨t, rfl⟩ := rx
  obtain ⟨u, rfl, ru⟩ := rv.one
  cases ru
  obtain ⟨its, r, pl, hz⟩ := I.list hq
  refine join_list (items := its.toArray) (ys := ls.map S) pl.isList (by simpa using strs_are r) ?_ fun t' k => ?_
  · rw [flat_len]
    show _ + _ * 1 ≤ _
    rw [List.length_map]
    omega
  · exact ⟨.str (S (glue ls)), H, I.tok _, ⟨t', by show Value.str (Builtin.Str.glued (S [10]) (ls.map S)) t' = _; rw [glue_N]⟩, q⟩
end
theorem splitL_get {l : List Nat} {r : Nat} (h : r ≤ l.count 10) : (splitL l)[r]? = some ((l.drop (begAt l r)).take (endAt l r - begAt l r)) := by
  unfold splitL
  have z : ((starts l).zip (stops l))[r]? = some (begAt l r, endAt l r) := by
    rw [List.getElem?_zip_eq_some]
    exact ⟨starts_at (by omega), stops_at (by omega)⟩
  rw [List.getElem?_map, z]
  rfl
end L2

set_option Elab.async false
set_option linter.all false
set_option maxRecDepth 100000
set_option maxHeartbeats 4000000
namespace L2
open PySem PySem.Spec PyProof.Rows PySem.StrLaws
/-! ## the count of tokens only grows, so what is made anew is another object: str.replace -/
theorem runs_toks {M : Model} {Γ : PySem.Ctx} {p : Pos} {t : Sem Fin} {fs : List Frame} {s : Shared} {e : End} {s' : Shared} (h : Runs M Γ p t fs s e s') : s.toks ≤ s'.toks := by
  induction h <;> first
    | exact Nat.le_refl _
    | (rename_i ih; exact ih)
    | (rename_i ih; exact Nat.le_of_succ_le ih)
    | (rename_i ih1 ih2; exact Nat.le_trans ih1 ih2)
theorem wakes_toks {M : Model} {Γ : PySem.Ctx} {p : Pos} {g : Nat} {r : Resume} {s : Shared} {res : GenResult} {s' : Shared} (h : Wakes M Γ p g r s res s') : s.toks ≤ s'.toks := by
  unfold Wakes at h
  split at h
  · exact h.elim
  · split at h
    · obtain ⟨e1, s1, hr, _, _, rfl⟩ := h
      have h := runs_toks hr
      exact h
    · rw [h.2]; exact Nat.le_refl _
    · rw [h.2]; exact Nat.le_refl _
  · obtain ⟨e1, s1, hr, _, _, rfl⟩ := h
    have h := runs_toks hr
    exact h
  · rw [h.2]; exact Nat.le_refl _
  · rw [h.2]; exact Nat.le_refl _
theorem wp_toks {α : Type} {n : Nat} {Q : α → Pos → Shared → Prop} {E : Value → Pos → Shared → Prop} (M : Model) (Γ : PySem.Ctx) (t : Sem α) (p : Pos) (s : Shared) (hn : n ≤ s.toks) (h : Sem.wp M Γ t Q E p s) :
    Sem.wp M Γ t (fun a p s' => Q a p s' ∧ n ≤ s'.toks) E p s := by
  revert h hn
  induction t generalizing p s with
  | pure x => exact fun hn h => ⟨h, hn⟩
  | raise v => exact fun _ h => h
  | unsupported | finish | yield | fork | await | register => exact fun _ h => h
  | rule _ k ih | «at» _ k ih | alloc _ k ih | loadIfAlive _ k ih | point _ k ih | ask k ih | os _ _ k ih | handled _ k ih | newGen _ k ih | stack k ih | thread k ih => exact fun hn h => ih _ _ _ hn h
  | fresh k ih => exact fun hn h => ih _ _ _ (Nat.le_succ_of_le hn) h
  | load a _ k ih | genState a k ih => exact fun hn ⟨o, ho, h⟩ => ⟨o, ho, ih _ _ _ hn h⟩
  | update a _ f k ih | choose _ _ k ih => exact fun hn ⟨ha, h⟩ => ⟨ha, ih _ _ _ hn h⟩
  | call c h g l k ih => exact fun hn ⟨r, s', hr, q⟩ => ⟨r, s', hr, ih r _ _ (Nat.le_trans hn (runs_toks hr)) q⟩
  | resume g r l k ih => exact fun hn ⟨res, s', hw, h⟩ => ⟨res, s', hw, ih _ _ _ (Nat.le_trans hn (wakes_toks hw)) h⟩
theorem any_toks {α : Type} {M : Model} {A : Around} {t : Sem α} {Q : α → Shared → Prop} {E : Value → Shared → Prop} {s : Shared} (h : wpAny M A t Q E s) : wpAny M A t (fun a s' => Q a s' ∧ s.toks ≤ s'.toks) E s :=
  fun Γ p hΓ => wp_toks M Γ t p s (Nat.le_refl _) (h Γ p hΓ)

def glueZ (z : List Nat) : List (List Nat) → List Nat
  | [] => []
  | r :: rs => r ++ (rs.map fun p => z ++ p).flatten
theorem foldl_z (z : List Nat) (ls : List (List Nat)) : ∀ acc : List Nat, List.foldl (fun (acc : Array Nat) (p : Str) => acc ++ (S z).cps ++ p.cps) (⟨acc⟩ : Array Nat) (ls.map S) = ⟨acc ++ (ls.map fun p => z ++ p).flatten⟩ := by
  induction ls with
  | nil => intro acc; simp
  | cons r rs ih =>
    intro acc
    rw [List.map_cons, List.foldl_cons]
    have e : (⟨acc⟩ : Array Nat) ++ (S z).cps ++ (S r).cps = ⟨acc ++ (z ++ r)⟩ := by
      show (⟨acc⟩ : Array Nat) ++ (⟨z⟩ : Array Nat) ++ (⟨r⟩ : Array Nat) = _
      simp
    rw [e, ih]
    simp
theorem glue_Z (z : List Nat) (ls : List (List Nat)) : Builtin.Str.glued (S z) (ls.map S) = S (glueZ z ls) := by
  cases ls with
  | nil => rfl
  | cons r rs =>
    show ({ cps := List.foldl (fun acc (p : Str) => acc ++ (S z).cps ++ p.cps) (S r).cps (rs.map S) } : Str) = _
    rw [show (S r).cps = (⟨r⟩ : Array Nat) from rfl, foldl_z]
    rfl
theorem replace_S (l m : List Nat) : Txt.replace (S l) (S [10]) (S m) = S (glueZ m (splitL l)) := by
  unfold Txt.replace
  have e : Builtin.Str.occurrences (S l) (S [10]) 0 (S l).length ((S l).length + 1) = occs l := occ_nl l
  rw [e]
  split
  · rename_i h
    have h' : occs l = [] := by
      rw [Bool.or_eq_true] at h
      rcases h with h | h
      · exact List.isEmpty_iff.mp h
      · rw [Bool.and_eq_true] at h
        exact absurd h.1 (by decide)
    rw [splitL_one h']
    show S l = S (l ++ [])
    rw [List.append_nil]
  · show Builtin.Str.glued (S m) (Builtin.Str.partsBetween (S l) (occs l) 1) = _
    rw [parts_S, glue_Z]
section
variable {X : Cx} {a b e o : Expr} {ta tb te to : TE} {pos : Pos} {t u : TS}
def PEp (X : Cx) (e : Expr) (t : TE) : Prop :=
  ∀ (pins : List (Addr × Obj)) (s : Shared) (σ : St) (H : Hp) (Q : VK), 0 < s.toks → Inv X pins σ H s → t σ H Q → wpAny (model X.prog X.w) X.A (eval e X.env) (EP X pins σ Q) X.xe s
def PTp (X : Cx) (e : Expr) (t : TT) : Prop :=
  ∀ (pins : List (Addr × Obj)) (s : Shared) (σ : St) (H : Hp) (Q : Bool → Hp → Prop), Inv X pins σ H s → t σ H Q → wpAny (model X.prog X.w) X.A (isTrue e X.env (eval e X.env)) (fun c s' => TP X pins σ Q c s' ∧ 0 < s'.toks) X.xe s
def PSsp (X : Cx) (st : List Stmt) (t : TS) : Prop :=
  ∀ (pins : List (Addr × Obj)) (s : Shared) (σ : St) (H : Hp) (D : Ends), 0 < s.toks → Inv X pins σ H s → t D σ H → wpAny (model X.prog X.w) X.A (execs st X.env) (SP X pins D) X.xe s
theorem pt_cmpP {op : CmpOp} {r : R2} {i : Int} {j : Nat} {p' : Pos} (ho : OpR X (compareOp op) r) (ha : PE X a ta) (hm : behindInMarks op (.Constant (.int i) j p') = false) : PTp X (.Compare a [op] [.Constant (.int i) j p'] pos) (tTest (tOp r ta (tC (.int i)))) := by
  intro pins s σ H Q I h
  refine wpAny_isTrue_Compare1 (thn (ha pins s σ H _ I h) fun v s1 ⟨x, H1, I1, r1, q1⟩ => wpAny_Constant_int
    (thn (any_toks (ho pins { s1 with toks := s1.toks + 1 } σ H1 x (.int i) v _ _ (I1.tok _) r1 ⟨_, rfl⟩ q1)) fun c s3 ⟨⟨z, H3, I3, r3, k, e, q3⟩, ht⟩ => ?_)) hm
  subst e
  cases r3
  exact wpAny_truthy_bool ⟨⟨H3, I3, q3⟩, Nat.lt_of_lt_of_le (Nat.succ_pos _) ht⟩
theorem pss_retP (he : PEp X e te) : PSsp X [.Return (some e) pos] (tRet te) := by
  intro pins s σ H D hs I h
  refine wpAny_execs_cons (wpAny_Return_some (thn (he pins s σ H _ hs I h) fun v s1 ⟨x, H1, I1, r1, q1⟩ => ?_))
  exact ⟨x, σ, H1, I1, r1, q1⟩
theorem ps_ifP {c : Expr} {a b : List Stmt} {tc : TT} (hc : PTp X c tc) (ha : PSsp X a t) (hb : PSs X b u) : PS X (.If c a b pos) (tIfS tc t u) := by
  intro pins s σ H D I h
  refine wpAny_If (thn (hc pins s σ H _ I h) fun d s1 ⟨⟨H1, I1, q1⟩, ht⟩ => ?_)
  cases d with
  | true => exact ha pins s1 σ H1 D ht I1 q1
  | false => exact hb pins s1 σ H1 D I1 q1
theorem none_of {K : PySem.W.Frag} {h : Heap} (x : K.In h) (hl : h.NoLimit) (nb : PySem.W.nsIn K cStatics sharingNotToldKey = some none) : NoneBooked h := by
  obtain ⟨mc, G, _⟩ := hl
  refine ⟨mc, G, ?_⟩
  obtain ⟨o, es, ep, ho, hd, _, hf⟩ := G
  unfold PySem.W.nsIn at nb
  split at nb
  · rename_i c d es' n' sl q
    have := x _ _ q
    rw [ho] at this
    cases this
    cases hd
    split at nb
    · cases nb
    · rename_i he
      rw [← hf]
      unfold nsFind findBy
      rw [← Array.find?_toList, he]
      rfl
  · cases nb
def tRepl (to t2 : TE) : TE := fun σ H Q => to σ H fun x H1 => ∃ l, x = .str (S l) ∧ t2 σ H1 fun y H2 => ∃ m, y = .str (S m) ∧ l.length ≤ 1000 ∧ m.length ≤ 1000 ∧ Q (.str (S (glueZ (10 :: m) (splitL l)))) H2
theorem pe_repl {e2 : Expr} {t2 : TE} {y z : Str} {k1 k2 : Nat} {p1 p2 p3 apos cpos : Pos} (hy : y = S [10]) (hz : z = S [10]) (pa : PlainAttrs "str") (nb : PySem.W.nsIn X.K cStatics sharingNotToldKey = some none) (ho : PE X o to) (h2 : PE X e2 t2)
    (hbase : attributeBase o "replace" X.env (eval o X.env) = eval o X.env := by rfl)
    (hfew : ((backTo cpos (starEach [.Constant (.str y) k1 p1, .BinOp (.Constant (.str z) k2 p2) .Add e2 p3] X.env)).all (fun x => !x.1) && (backToKw cpos (keywordEach [] X.env)).all (fun x => x.1.isSome)
      && decide (2 + ([] : List Keyword).length + (if ([] : List Keyword).isEmpty then 0 else 1) < 30)) = true := by rfl)
    (hline : (apos.endLine == cpos.line) = true := by rfl) :
    PEp X (.Call (.Attribute o "replace" apos) [.Constant (.str y) k1 p1, .BinOp (.Constant (.str z) k2 p2) .Add e2 p3] [] cpos) (tRepl to t2) := by
  subst hy
  subst hz
  intro pins s σ H Q hs I h
  refine wpAny_Call_method_late hbase hfew hline rfl (thn (any_toks (ho pins s σ H _ I h)) fun v s1 ⟨⟨x, H1, I1, r1, l, e, q1⟩, ht⟩ => ?_)
  subst e
  obtain ⟨g1, g2⟩ := tyV_is (T := "str") I1 r1 rfl
  obtain ⟨t, rfl⟩ := r1
  refine ⟨"str", "str.replace", pa, F.slot_str_replace, F.type_str_replace, g1, g2, ?_⟩
  refine Calls.callWith_builtin rfl (Calls.evalArgs_plain ?_)
  show wpAny _ _ (spliced ((false, eval (.Constant (.str (S [10])) k1 p1) X.env) :: (false, eval (.BinOp (.Constant (.str (S [10])) k2 p2) .Add e2 p3) X.env) :: [])) _ _ s1
  refine Calls.spliced_cons (Calls.Constant_str (Calls.spliced_cons (wpAny_BinOp (Calls.Constant_str (thn (any_toks (h2 pins _ σ H1 _ (I1.tok _) q1)) fun u2 s2 ⟨⟨w, H2, I2, r2, m, e, hl, hm, q⟩, ht2⟩ => ?_)))))
  subst e
  obtain ⟨t', rfl⟩ := r2
  have htt : s1.toks + 1 + 1 ≤ s2.toks := ht2
  have nb2 : NoneBooked s2.heap := none_of I2.kIn I2.nolimit nb
  have h0 : 0 < s1.toks := Nat.lt_of_lt_of_le hs ht
  have fin : ∀ (tk : Tok) (s3 : Shared) (hv : tk ≠ 0) (hne : s1.toks ≠ tk), s3.heap = s2.heap → Inv X pins σ H2 s3 → wpAny (model X.prog X.w) X.A (call (.builtin "str.replace") [.str (S l) t, .str (S [10]) s1.toks, .str (S (10 :: m)) tk]) (EP X pins σ Q) X.xe s3 := fun tk s3 hv hne he I3 => by
    refine SC.replaceA (Nat.ne_of_gt h0) hv hne ?_ (fun t4 k4 => ⟨.str (S (glueZ (10 :: m) (splitL l))), H2, I3.tok _, ⟨t4, by rw [replace_S]⟩, q⟩) (he ▸ nb2)
    show l.length + (l.length + 1) * (m.length + 1) ≤ 16777216
    have := Nat.mul_le_mul (show l.length + 1 ≤ 1001 by omega) (show m.length + 1 ≤ 1001 by omega)
    omega
  refine P.add_str ?_
  rw [if_neg (by decide)]
  cases m with
  | nil =>
    rw [if_pos (by rfl)]
    exact Calls.spliced_nil (fin (s1.toks + 1) s2 (Nat.succ_ne_zero _) (Nat.ne_of_lt (Nat.lt_succ_self _)) rfl I2)
  | cons c m =>
    rw [if_neg (by simp [Str.length])]
    rw [S_app]
    refine ⟨small (by show ([10] ++ (c :: m)).length ≤ 1000000; simp at hm ⊢; omega), ?_⟩
    exact Calls.spliced_nil (fin s2.toks { s2 with toks := s2.toks + 1 } (Nat.ne_of_gt (Nat.lt_of_lt_of_le (Nat.succ_pos _) htt)) (Nat.ne_of_lt (Nat.lt_of_lt_of_le (Nat.lt_succ_of_lt (Nat.lt_succ_self _)) htt)) rfl (I2.tok _))
end
end L2

set_option Elab.async false
set_option linter.all false
set_option maxRecDepth 100000
set_option maxHeartbeats 4000000
namespace L2
open PySem PySem.Spec PyProof.Rows PySem.StrLaws
theorem lstrip_S (l : List Nat) : Txt.lstripChars (S l) (S [32]) = S (l.dropWhile (· == 32)) := by
  have eg : ((S [32]).cps.contains : Nat → Bool) = (· == 32) := by
    funext c
    show Array.contains #[32] c = (c == 32)
    simp
    rfl
  have ed : l.drop (l.takeWhile (· == 32)).length = l.dropWhile (· == 32) := by
    have := List.takeWhile_append_dropWhile (p := (· == 32)) (l := l)
    generalize l.takeWhile (· == 32) = a at this ⊢
    generalize l.dropWhile (· == 32) = b at this ⊢
    rw [← this, List.drop_left]
  unfold Txt.lstripChars Txt.stripBy
  rw [eg]
  have elo : stripLo (· == 32) true (S l) = (l.takeWhile (· == 32)).length := rfl
  have ehi : stripHi (· == 32) false (S l) (stripLo (· == 32) true (S l)) = l.length := rfl
  split
  · rename_i h
    unfold stripSame at h
    rw [Bool.and_eq_true] at h
    have h0 : (l.takeWhile (· == 32)).length = 0 := eq_of_beq h.1
    rw [← ed, h0, List.drop_zero]
  · unfold stripped
    rw [ehi, elo, sub_S, ← ed]
    rw [List.take_of_length_le (by rw [List.length_drop]; exact Nat.le_refl _)]
section
variable {X : Cx}
theorem mt_lstrip : MtR X "str.lstrip" (fun x vs H Q => ∃ l, x = .str (S l) ∧ vs = [.str (S [32])] ∧ l.length ≤ sizeLine ∧ Q (.str (S (l.dropWhile (· == 32)))) H) := by
  intro pins s σ H x vs v us Q I rx rv h
  obtain ⟨l, rfl, rfl, hl, q⟩ := h
  obtain ⟨t, rfl⟩ := rx
  obtain ⟨u, rfl, t', rfl⟩ := rv.one
  refine call_gives F.slot_str_lstrip (typeIs_str _ _ _) F.entry_str_lstrip (F.args_str_lstrip_2 _ _) (gives_str_lstrip_chars (S l) (S [32]) t t') (post_val_or_made (fun _ => fits_stripped _ _ _ hl) fun t4 k => ?_)
  exact ⟨.str (S (l.dropWhile (· == 32))), H, I.tok _, ⟨t4, by rw [← lstrip_S]; rfl⟩, q⟩
end
end L2

set_option Elab.async false
set_option linter.all false
set_option maxRecDepth 100000
set_option maxHeartbeats 4000000
namespace My
open PySem L2

def top (i : Nat) : Stmt := PySem.Challenge.pw_modehand_k36_join.main.body.getD i (.Pass ⟨0, 0, 0, 0⟩)
abbrev s_is_whole : Stmt := top 7
abbrev s_is_place : Stmt := top 8
abbrev s_is_row : Stmt := top 9
abbrev s_check_place : Stmt := top 10
abbrev s_check_row : Stmt := top 11
abbrev s_row_count : Stmt := top 12
abbrev s_row_of : Stmt := top 13
abbrev s_column_of : Stmt := top 14
abbrev s_begin_of : Stmt := top 15
abbrev s_end_of : Stmt := top 16
abbrev s_place_of : Stmt := top 17
abbrev s_pieces : Stmt := top 19
abbrev s_block_pieces : Stmt := top 20
abbrev s_fits : Stmt := top 22
abbrev s_spliced : Stmt := top 23
abbrev s_changing : Stmt := top 24
abbrev s_too_long : Stmt := top 25
abbrev s_shelved : Stmt := top 27
abbrev s_rows_in : Stmt := top 28
abbrev s_taken_out : Stmt := top 29
abbrev s_left_as_is : Stmt := top 30
abbrev s_exchanged : Stmt := top 31
abbrev s_great : Stmt := top 32
abbrev s_small : Stmt := top 33
abbrev s_signs_of_piece : Stmt := top 36
abbrev s_done_to_pieces : Stmt := top 37
abbrev s_deeper : Stmt := top 38
abbrev s_flatter : Stmt := top 39
abbrev s_indented : Stmt := top 41
abbrev s_joining : Stmt := top 42
abbrev s_joined : Stmt := top 43
abbrev s_done_unbounded : Stmt := top 44
abbrev s_done : Stmt := top 45
abbrev s__law_cell_at : Stmt := top 47
abbrev s__law_whole : Stmt := top 48
abbrev s__law_sign : Stmt := top 49
abbrev s__law_text : Stmt := top 50
abbrev s__law_blank_text : Stmt := top 51
abbrev s__law_at : Stmt := top 52
abbrev s__law_starts : Stmt := top 53
abbrev s__law_stretch : Stmt := top 54
abbrev s__law_shelf : Stmt := top 55
abbrev s__law_splices : Stmt := top 56
abbrev s__law_told : Stmt := top 57
abbrev s__law_rows : Stmt := top 58
abbrev s__law_walked : Stmt := top 59
abbrev s__law_good : Stmt := top 60
abbrev s_law : Stmt := top 61

def cell (ns : List Int) (k : Nat) : Int := ns.getD k 0
def sp_cell (K : PySem.W.Frag) : Sp := fun vs H Q _ => ∃ (a : Addr) (ns : List Int) (k : Nat), vs = [.ref a, .int (k : Int)] ∧ SqL K H a (ns.map V.int) ∧ Q (.int (cell ns k)) H
def sp_law (K : PySem.W.Frag) : Sp := fun vs H Q _ => ∃ (a : Addr) (ns : List Int), vs = [.ref a] ∧ SqL K H a (ns.map V.int) ∧ ns.length ≤ 63 ∧ ∀ H', Q (.bl true) H'
theorem cell_at {ns : List Int} {k : Nat} (h : (k : Int) < ((ns.map V.int).length : Int)) : atI (ns.map V.int) (k : Int) = some (.int (cell ns k)) := by
  rw [List.length_map] at h
  have hk : k < ns.length := by omega
  refine atI_nat ?_
  rw [List.getElem?_map, List.getElem?_eq_getElem hk]
  show some (V.int ns[k]) = some (V.int (cell ns k))
  unfold cell
  rw [List.getD_eq_getElem?_getD, List.getElem?_eq_getElem hk] <;> rfl
theorem cell_out {ns : List Int} {k : Nat} (h : ¬ (k : Int) < ((ns.map V.int).length : Int)) : cell ns k = 0 := by
  rw [List.length_map] at h
  unfold cell
  rw [List.getD_eq_getElem?_getD, List.getElem?_eq_none (by omega)] <;> rfl
section
variable {P : Program} {w : World} {K : PySem.W.Frag} {mg : Str → Option Value} {base : Heap} {f : Addr} {fd : FuncData}
theorem sc__law_cell_at : FnScope ["_law_script", "_law_k"] ["_law_script", "_law_k"] (defScope s__law_cell_at) := ⟨rfl, rfl, rfl, by decide +kernel, rfl, by decide +kernel, by decide +kernel⟩
theorem ok_cell (F : Fun K "_law_cell_at" "_law_cell_at" s__law_cell_at f fd) (m_len : mg "len" = none) : FnOk P w K mg base CX0 1 f fd ["_law_script", "_law_k"] (sp_cell K) := by
  refine F.ok sc__law_cell_at (fun vs H Q E h => ?_) (fun cdv A outer s H vs Q E hr h => ?_)
  · obtain ⟨a, ns, k, rfl, _⟩ := h
    rfl
  obtain ⟨a, ns, k, rfl, hS, q⟩ := h
  refine ⟨_, (pss_cons (ps_if (pt_cmpR op_lt (pv 1) (pe_callB call_len_seq (by rfl) m_len PySem.boot_len (pa_cons (pv 0) pa_nil)) (nomark _)) (pss_one (ps_ret (pe_ix ix_list (pv 0) (pv 1) (fun _ _ => rfl)))) pss_nil)
      (pss_one (ps_ret pe_int))), ?_⟩
  refine ⟨_, rfl, _, rfl, a, _, rfl, .inl hS, _, _, rfl, rfl, _, rfl, ?_⟩
  refine ite2 (fun c => ?_) (fun c => ?_)
  · have c' := of_decide_eq_true c
    exact ⟨_, rfl, _, rfl, a, _, _, _, rfl, rfl, hS, cell_at c', q⟩
  · have c' := of_decide_eq_false (Bool.eq_false_iff.mpr c)
    have q' := q
    rw [cell_out c'] at q'
    exact q'
end
/-! the text of the laws k11 to k16 -/

abbrev litA : List Nat := [32, 33, 34, 35, 36, 38, 39, 40, 41, 42, 43, 44, 45, 46, 47, 48, 49, 50, 51, 52, 53, 54, 55, 56, 57, 58, 59, 60, 61, 62, 63, 64, 65, 66, 67, 68, 69, 70, 71, 72, 73, 74, 75, 76, 77, 78, 79, 80, 81, 82, 83, 84, 85, 86, 87, 88, 89, 90, 91, 92, 93, 94, 95, 96, 97, 98, 99, 100, 101, 102, 103, 104, 105, 106, 107, 108, 109, 110, 111, 112, 113, 114, 115, 116, 117, 118, 119, 120, 121, 122, 123, 124, 125]
abbrev litB : List Nat := [40, 41, 91, 93, 123, 125]
abbrev litC : List Nat := [97, 66, 48, 32, 122, 57, 89, 40, 120, 99, 41, 100, 49, 69, 32, 102]
theorem litA_lt : ∀ c ∈ litA, c < 128 := by decide
theorem litB_lt : ∀ c ∈ litB, c < 128 := by decide
theorem litC_lt : ∀ c ∈ litC, c < 128 := by decide
def sp_sign : Sp := fun vs H Q _ => ∃ n : Int, vs = [.int n] ∧ ∀ c : Nat, c < 128 → Q (.str (S [c])) H
section
variable {P : Program} {w : World} {K : PySem.W.Frag} {mg : Str → Option Value} {base : Heap} {f : Addr} {fd : FuncData}
theorem sc__law_sign : FnScope ["_law_number", "_law_some", "_law_kind"] ["_law_number"] (defScope s__law_sign) := ⟨rfl, rfl, rfl, by decide +kernel, rfl, by decide +kernel, by decide +kernel⟩
theorem ok_sign (F : Fun K "_law_sign" "_law_sign" s__law_sign f fd) : FnOk P w K mg base CX0 1 f fd ["_law_number"] sp_sign := by
  refine F.ok sc__law_sign (fun vs H Q E h => ?_) (fun cdv A outer s H vs Q E hr h => ?_)
  · obtain ⟨n, rfl, _⟩ := h
    rfl
  obtain ⟨n, rfl, q⟩ := h
  refine ⟨_, (pss_cons (ps_set (i := 1) sc__law_sign.nd rfl (Or.inl rfl) pe_str)
      (pss_cons (ps_set (i := 2) sc__law_sign.nd rfl (Or.inl rfl) (pe_op op_mod (pv 0) pe_int))
      (pss_cons (ps_if (pt_cmpR op_eq (pv 2) pe_int (nomark _)) (pss_one (ps_ret pe_str)) pss_nil)
      (pss_cons (ps_if (pt_cmpR op_eq (pv 2) pe_int (nomark _)) (pss_one (ps_ret pe_str)) pss_nil)
      (pss_cons (ps_if (pt_cmpR op_eq (pv 2) pe_int (nomark _)) (pss_one (ps_ret (pe_ix ix_S pe_str (pe_op op_mod (pe_op op_fdiv (pv 0) pe_int) pe_int) (fun _ _ => rfl)))) pss_nil)
      (pss_cons (ps_if (pt_cmpR op_lt (pv 2) pe_int (nomark _)) (pss_one (ps_ret (pe_ix ix_S pe_str (pe_op op_mod (pe_op op_fdiv (pv 0) pe_int) pe_int) (fun _ _ => rfl)))) pss_nil)
      (pss_one (ps_ret (pe_ix ix_S (pv 1) (pe_op op_mod (pe_op op_fdiv (pv 0) pe_int) pe_int) (fun _ _ => rfl)))))))))), ?_⟩
  refine ⟨_, rfl, _, _, rfl, rfl, (by show (0 : Int) < 8; decide), ?_⟩
  refine ⟨_, rfl, rfl, _, rfl, ?_⟩
  refine ite2 (fun c => q 10 (by decide)) (fun c => ?_)
  refine ⟨_, rfl, rfl, _, rfl, ?_⟩
  refine ite2 (fun c => q 32 (by decide)) (fun c => ?_)
  refine ⟨_, rfl, rfl, _, rfl, ?_⟩
  refine ite2 (fun c => ?_) (fun c => ?_)
  · have h0 : 0 ≤ n / 8 % 6 := Int.emod_nonneg _ (by decide)
    have h1 : n / 8 % 6 < 6 := Int.emod_lt_of_pos _ (by decide)
    have hz : (n / 8 % 6).toNat < litB.length := by show _ < 6; omega
    exact ⟨_, rfl, _, _, rfl, rfl, ⟨by decide, by decide⟩, _, _, rfl, rfl, (by show (0 : Int) < 6; decide), litB, _, _, rfl, rfl, small (by decide), atI_in litB h0 hz, q _ (litB_lt _ (List.getElem_mem _))⟩
  refine ⟨_, rfl, _, _, rfl, rfl, _, rfl, ?_⟩
  refine ite2 (fun c => ?_) (fun c => ?_)
  · have h0 : 0 ≤ n / 8 % 16 := Int.emod_nonneg _ (by decide)
    have h1 : n / 8 % 16 < 16 := Int.emod_lt_of_pos _ (by decide)
    have hz : (n / 8 % 16).toNat < litC.length := by show _ < 16; omega
    exact ⟨_, rfl, _, _, rfl, rfl, ⟨by decide, by decide⟩, _, _, rfl, rfl, (by show (0 : Int) < 16; decide), litC, _, _, rfl, rfl, small (by decide), atI_in litC h0 hz, q _ (litC_lt _ (List.getElem_mem _))⟩
  · have h0 : 0 ≤ n / 8 % 93 := Int.emod_nonneg _ (by decide)
    have h1 : n / 8 % 93 < 93 := Int.emod_lt_of_pos _ (by decide)
    have hz : (n / 8 % 93).toNat < litA.length := by show _ < 93; omega
    exact ⟨_, rfl, _, rfl, _, _, rfl, rfl, ⟨by decide, by decide⟩, _, _, rfl, rfl, (by show (0 : Int) < 93; decide), litA, _, _, rfl, rfl, small (by decide), atI_in litA h0 hz, q _ (litA_lt _ (List.getElem_mem _))⟩
def ones (l : List Nat) : List V := l.map fun c => V.str (S [c])
theorem ones_eq (l : List Nat) : ones l = (l.map fun c => [c]).map fun r => V.str (S r) := by unfold ones; rw [List.map_map]; rfl
theorem ones_flat (l : List Nat) : (l.map fun c => [c]).flatten = l := by
  induction l with
  | nil => rfl
  | cons c l ih => rw [List.map_cons, List.flatten_cons, ih]; rfl
end

/-! the text of the laws k31 to k39 -/

abbrev litF : List Nat := [97, 98, 32, 32, 99, 68, 40, 101]
theorem litF_lt : ∀ c ∈ litF, c < 128 := by decide
def sp_text2 (K : PySem.W.Frag) : Sp := fun vs H Q _ => ∃ (a : Addr) (ns : List Int), vs = [.ref a] ∧ SqL K H a (ns.map V.int) ∧ ns.length ≤ 63 ∧ ∀ (l : List Nat) (H' : Hp), Same H H' → l.length ≤ 600 → (∀ c ∈ l, c < 128) → Q (.str (S l)) H'
section
variable {P : Program} {w : World} {K : PySem.W.Frag} {mg : Str → Option Value} {base : Heap} {f : Addr} {fd : FuncData}
theorem sc__law_text : FnScope ["_law_script", "_law_text_here", "_law_far"] ["_law_script"] (defScope s__law_text) := ⟨rfl, rfl, rfl, by decide +kernel, rfl, by decide +kernel, by decide +kernel⟩
theorem ok_text2 (F : Fun K "_law_text" "_law_text" s__law_text f fd) (O__law_cell_at : Own P w K mg base CX0 1 "_law_cell_at" ["_law_script", "_law_k"] (sp_cell K)) (O__law_sign : Own P w K mg base CX0 1 "_law_sign" ["_law_number"] sp_sign) (m_len : mg "len" = none) :
    FnOk P w K mg base CX0 2 f fd ["_law_script"] (sp_text2 K) := by
  refine F.ok sc__law_text (fun vs H Q E h => ?_) (fun cdv A outer s H vs Q E hr h => ?_)
  · obtain ⟨a, ns, rfl, _⟩ := h
    rfl
  obtain ⟨a, ns, rfl, hS, h63, q⟩ := h
  refine ⟨_, (pss_cons (ps_set (i := 1) sc__law_text.nd rfl (Or.inl rfl) (pe_bm PySem.F.plainAttrs_str PySem.F.slot_str_join PySem.F.type_str_join mt_join pe_str (pa_cons (pe_comp ["_law_cell"] _ [] rfl (cl_none ["_law_cell"] (by decide +kernel) rfl (by decide +kernel)) (pi_list (pe_slice sl_list (pv 0) (po_some pe_int) (po_some pe_int))) (fun _ _ _ _ => pg_name (i := 0) (nd1 _) rfl (Or.inl rfl)) (fun _ _ _ _ => pif_nil) (fun _ _ _ _ => (pe_own O__law_sign hr (by rfl) pass0 (pa_cons (pv 0) pa_nil)))) pa_nil)))
      (pss_cons (ps_if (pt_cmpR op_eq (pe_op op_mod (pe_own O__law_cell_at hr (by rfl) pass0 (pa_cons (pv 0) (pa_cons pe_int pa_nil))) pe_int) pe_int (nomark _)) (pss_cons (ps_set (i := 2) sc__law_text.nd rfl (Or.inl rfl) (pe_op op_sub (pe_op op_sub pe_int (pe_op op_mod (pe_op op_fdiv (pe_own O__law_cell_at hr (by rfl) pass0 (pa_cons (pv 0) (pa_cons pe_int pa_nil))) pe_int) pe_int)) (pe_callB call_lenS (by rfl) m_len PySem.boot_len (pa_cons (pv 1) pa_nil))))
      (pss_one (ps_set (i := 1) sc__law_text.nd rfl (Or.inl rfl) (pe_op op_adS (pe_op op_adS (pe_slice sl_str (pv 1) po_none (po_some pe_int)) (pe_slice sl_str (pe_op op_mulS pe_str pe_int) po_none (po_some (pv 2)))) (pe_slice sl_str (pv 1) (po_some pe_int) po_none))))) pss_nil)
      (pss_one (ps_ret (pv 1))))), ?_⟩
  refine ⟨rfl, _, rfl, _, rfl, _, rfl, a, _, rfl, hS, fun d hd => ?_⟩
  have S1 := same_new hd (.lst (cutV (ns.map V.int) (some 2) (some 62)))
  have hcut : (cutL ns (some 2) (some 62)).length ≤ 60 := by
    have e : cutL ns (some 2) (some 62) = (ns.drop 2).take 60 := cutL_nn ns 2 62
    rw [e, List.length_take]
    omega
  have sqd : SqL K (upd H d (.lst (cutV (ns.map V.int) (some 2) (some 62)))) d ((cutL ns (some 2) (some 62)).map V.int) := sq_cut
  generalize upd H d (.lst (cutV (ns.map V.int) (some 2) (some 62))) = H1 at S1 sqd
  generalize cutL ns (some 2) (some 62) = cs at hcut sqd
  refine ⟨d, rfl, ⟨_, sqd⟩, fun D hD => ?_⟩
  refine comp_list (xs := cs.map V.int) (fun i σ H' => ∃ (x : Option V) (l : List Nat), σ = [x] ∧ Same H1 H' ∧ H' D = some (.lst (ones l)) ∧ l.length = i ∧ ∀ c ∈ l, c < 128) ⟨none, [], rfl, same_new hD _, upd_same, rfl, fun c h => by cases h⟩ (fun i σ H' _ h => ?_) ?_ ?_
  · obtain ⟨x, l, _, S2, _⟩ := h
    exact S2.seq sqd
  · intro i v σ H' hv hP
    obtain ⟨x, l, rfl, S2, hD2, hl, hc⟩ := hP
    have hi : i < cs.length := by
      have := (List.getElem?_eq_some_iff.mp hv).1
      rwa [List.length_map] at this
    obtain ⟨n, hn, rfl⟩ := List.mem_map.mp (List.mem_of_getElem? hv)
    refine yes ⟨_, rfl, n, rfl, fun c hc' => ⟨_, hD2, ?_, ?_⟩⟩
    · unfold ones
      rw [List.length_map, hl]
      exact Nat.lt_of_lt_of_le hi (small (by omega))
    · refine ⟨_, l ++ [c], rfl, same_upd S2 hD, ?_, by rw [List.length_append, hl]; rfl, fun c2 h2 => ?_⟩
      · rw [upd_same]
        unfold ones
        rw [List.map_append]
        rfl
      · rcases List.mem_append.mp h2 with z | z
        · exact hc _ z
        · rw [List.mem_singleton] at z; subst z; exact hc'
  · intro σ' H' hP
    obtain ⟨x, l, rfl, S2, hD2, hl, hc⟩ := hP
    rw [List.length_map] at hl
    have hl60 : l.length ≤ 60 := by omega
    have SD : SqL K H' D ((l.map fun c => [c]).map fun r => V.str (S r)) := by rw [← ones_eq]; exact SqL.of hD2
    have SS := S1.trans S2
    refine ⟨D, l.map fun c => [c], rfl, rfl, SD, by rw [ones_flat]; omega, ?_⟩
    rw [ones_flat]
    refine ⟨_, rfl, a, ns, 0, rfl, SS.seq hS, _, _, rfl, rfl, (by show (0 : Int) < 5; decide), rfl, _, rfl, ?_⟩
    refine ite2 (fun c => ?_) (fun c => ?_)
    · have m0 : 0 ≤ cell ns 0 / 5 % 9 := Int.emod_nonneg _ (by decide)
      have m1 : cell ns 0 / 5 % 9 < 9 := Int.emod_lt_of_pos _ (by decide)
      refine ⟨_, rfl, a, ns, 0, rfl, SS.seq hS, _, _, rfl, rfl, ⟨by decide, by decide⟩, _, _, rfl, rfl, (by show (0 : Int) < 9; decide), _, _, rfl, rfl, _, rfl, l, rfl, small (by omega), _, _, rfl, rfl, ?_⟩
      show gName _ (V.int (600 - cell ns 0 / 5 % 9 - (l.length : Int))) _ _ _
      generalize cell ns 0 / 5 % 9 = z at m0 m1
      have hf : (rep litF 75).length = 600 := rep_len litF 75
      have e1 : cutL l none (some 20) = l.take 20 := cutL_m l 20
      have e2 : cutL l (some 20) none = l.drop 20 := cutL_n l 20
      have e3 : cutL (rep litF 75) none (some (600 - z - (l.length : Int))) = (rep litF 75).take (600 - z - (l.length : Int)).toNat := cutL_j _ (by omega)
      have hlen : (cutL l none (some 20) ++ cutL (rep litF 75) none (some (600 - z - (l.length : Int)))).length + (cutL l (some 20) none).length ≤ 600 := by
        rw [e1, e2, e3, List.length_append, List.length_take, List.length_take, List.length_drop, hf]
        omega
      refine ⟨_, rfl, _, rfl, l, rfl, small (by omega), litF, 75, rfl, rfl, by decide, by decide, by decide, _, rfl, _, rfl, _, rfl, small (by rw [show (75 : Int).toNat = 75 from rfl, hf]; decide), _, _, rfl, rfl, ?_, _, rfl, _, rfl, l, rfl, small (by omega), _, _, rfl, rfl, ?_, _, rfl, ?_⟩
      · refine Nat.le_trans ?_ (small (Nat.le_refl _))
        show (cutL l none (some 20)).length + (cutL (rep litF 75) none (some (600 - z - (l.length : Int)))).length ≤ 1000000
        rw [List.length_append] at hlen
        omega
      · exact Nat.le_trans hlen (small (by decide))
      · refine q _ H' SS ?_ ?_
        · rw [List.length_append]
          exact hlen
        · intro c hc'
          rcases List.mem_append.mp hc' with h | h
          · rcases List.mem_append.mp h with h | h
            · rw [e1] at h
              exact hc c (List.mem_of_mem_take h)
            · have h' : c ∈ cutL (rep litF 75) none (some (600 - z - (l.length : Int))) := h
              rw [e3] at h'
              exact rep_all litF_lt c (List.mem_of_mem_take h')
          · rw [e2] at h
            exact hc c (List.mem_of_mem_drop h)
    · exact ⟨_, rfl, q l H' SS (by omega) hc⟩
end

/-! modehand.rows, where the place or the row is one of the text: nothing is refused -/

def inP (l : List Nat) (p : Int) : Bool := decide (0 ≤ p) && decide (p ≤ l.length)
theorem inP_iff {l : List Nat} {p : Int} : inP l p = true ↔ 0 ≤ p ∧ p ≤ l.length := by unfold inP; simp
def inR (l : List Nat) (r : Int) : Bool := decide (0 ≤ r) && decide (r < (l.count 10 : Int) + 1)
theorem inR_iff {l : List Nat} {r : Int} : inR l r = true ↔ 0 ≤ r ∧ r < (l.count 10 : Int) + 1 := by unfold inR; simp
def sp_whole : Sp := fun vs H Q _ => (∃ i : Int, vs = [.int i] ∧ Q (.bl true) H) ∨ (vs = [.non] ∧ Q (.bl false) H)
theorem kit_ni {K : PySem.W.Frag} : PySem.W.kitOne K (.type "NoneType") (.type "int") = some false := by first | rfl | decide +kernel
def sp_is_place : Sp := fun vs H Q _ => (∃ (l : List Nat) (p : Int), vs = [.str (S l), .int p] ∧ l.length ≤ 1000000 ∧ Q (.bl (inP l p)) H) ∨ (∃ l : List Nat, vs = [.str (S l), .non] ∧ Q (.bl false) H)
def sp_row_count : Sp := fun vs H Q _ => ∃ l : List Nat, vs = [.str (S l)] ∧ Q (.int (l.count 10 + 1)) H
def sp_is_row : Sp := fun vs H Q _ => ∃ (l : List Nat) (r : Int), vs = [.str (S l), .int r] ∧ Q (.bl (inR l r)) H
def sp_chk_p : Sp := fun vs H Q _ => ∃ (l : List Nat) (p : Nat), vs = [.str (S l), .int (p : Int)] ∧ l.length ≤ 100000 ∧ p ≤ l.length ∧ Q .non H
def sp_chk_r : Sp := fun vs H Q _ => ∃ (l : List Nat) (r : Nat), vs = [.str (S l), .int (r : Int)] ∧ r ≤ l.count 10 ∧ Q .non H
def sp_row_in : Sp := fun vs H Q _ => ∃ (l : List Nat) (p : Nat), vs = [.str (S l), .int (p : Int)] ∧ l.length ≤ 100000 ∧ p ≤ l.length ∧ Q (.int (rno l p : Nat)) H
def sp_beg_in : Sp := fun vs H Q _ => ∃ (l : List Nat) (r : Nat), vs = [.str (S l), .int (r : Int)] ∧ l.length ≤ 100000 ∧ r ≤ l.count 10 ∧ ∀ H', Same H H' → Q (.int (begAt l r : Nat)) H'
def sp_end_in : Sp := fun vs H Q _ => ∃ (l : List Nat) (r : Nat), vs = [.str (S l), .int (r : Int)] ∧ l.length ≤ 100000 ∧ r ≤ l.count 10 ∧ ∀ H', Same H H' → Q (.int (endAt l r : Nat)) H'
section
variable {P : Program} {w : World} {K : PySem.W.Frag} {mg : Str → Option Value} {base : Heap} {f : Addr} {fd : FuncData}
theorem sc_is_whole : FnScope ["value"] ["value"] (defScope s_is_whole) := ⟨rfl, rfl, rfl, by decide +kernel, rfl, by decide +kernel, by decide +kernel⟩
theorem ok_is_whole (F : Fun K "is_whole" "is_whole" s_is_whole f fd) (m_isinstance : mg "isinstance" = none) (m_int : mg "int" = none) (m_bool : mg "bool" = none) : FnOk P w K mg base CX0 1 f fd ["value"] sp_whole := by
  refine F.ok sc_is_whole (fun vs H Q E h => ?_) (fun cdv A outer s H vs Q E hr h => ?_)
  · rcases h with ⟨x, rfl, _⟩ | ⟨rfl, _⟩ <;> rfl
  refine ⟨_, (pss_one (ps_ret (pe_and (pe_callB call_isi (by rfl) m_isinstance boot_isi (pa_cons (pv 0) (pa_cons (pe_bltn (v := .ty "int") (by rfl) m_int boot_int rfl) pa_nil))) (pe_one (pe_not (pe_callB call_isi (by rfl) m_isinstance boot_isi (pa_cons (pv 0) (pa_cons (pe_bltn (v := .ty "bool") (by rfl) m_bool boot_bool rfl) pa_nil)))))))), ?_⟩
  rcases h with ⟨x, rfl, q⟩ | ⟨rfl, q⟩
  · refine ⟨_, rfl, _, _, _, _, rfl, ⟨_, .inl rfl⟩, .int x, kit_ii, _, rfl, iteT ?_⟩
    exact ⟨_, rfl, _, _, _, _, rfl, ⟨_, .inl rfl⟩, .int x, kit_ib, _, rfl, q⟩
  · exact ⟨_, rfl, _, _, _, _, rfl, ⟨_, .inl rfl⟩, .non, kit_ni, _, rfl, iteF q⟩
theorem sc_is_place : FnScope ["text", "place"] ["text", "place"] (defScope s_is_place) := ⟨rfl, rfl, rfl, by decide +kernel, rfl, by decide +kernel, by decide +kernel⟩
theorem ok_is_place (F : Fun K "is_place" "is_place" s_is_place f fd) (O_is_whole : Own P w K mg base CX0 1 "is_whole" ["value"] sp_whole) (m_len : mg "len" = none) : FnOk P w K mg base CX0 2 f fd ["text", "place"] sp_is_place := by
  refine F.ok sc_is_place (fun vs H Q E h => ?_) (fun cdv A outer s H vs Q E hr h => ?_)
  · rcases h with ⟨l, p, rfl, _⟩ | ⟨l, rfl, _⟩ <;> rfl
  refine ⟨_, (pss_one (ps_ret (pe_and (pe_own O_is_whole hr (by rfl) pass0 (pa_cons (pv 1) pa_nil)) (pe_one (pe_chain op_le op_le pe_int (pv 1) (pe_callB call_lenS (by rfl) m_len PySem.boot_len (pa_cons (pv 0) pa_nil))))))), ?_⟩
  rcases h with ⟨l, p, rfl, hl, q⟩ | ⟨l, rfl, q⟩
  case inr => exact ⟨_, rfl, .inr ⟨rfl, _, rfl, iteF q⟩⟩
  refine ⟨_, rfl, .inl ⟨_, rfl, _, rfl, iteT ?_⟩⟩
  refine ⟨_, rfl, _, _, rfl, rfl, _, rfl, ?_⟩
  unfold inP at q
  cases e : decide (0 ≤ p) with
  | true => rw [e] at q; exact iteT ⟨_, rfl, l, rfl, small hl, _, _, rfl, rfl, q⟩
  | false => rw [e] at q; exact iteF q
theorem sc_row_count : FnScope ["text"] ["text"] (defScope s_row_count) := ⟨rfl, rfl, rfl, by decide +kernel, rfl, by decide +kernel, by decide +kernel⟩
theorem ok_row_count (F : Fun K "row_count" "row_count" s_row_count f fd) : FnOk P w K mg base CX0 1 f fd ["text"] sp_row_count := by
  refine F.ok sc_row_count (fun vs H Q E h => ?_) (fun cdv A outer s H vs Q E hr h => ?_)
  · obtain ⟨l, rfl, _⟩ := h
    rfl
  obtain ⟨l, rfl, q⟩ := h
  refine ⟨_, (pss_one (ps_ret (pe_op op_add (pe_bm PySem.F.plainAttrs_str PySem.F.slot_str_count PySem.F.type_str_count mt_count (pv 0) (pa_cons pe_str pa_nil)) pe_int))), ?_⟩
  exact ⟨_, rfl, rfl, l, 10, rfl, rfl, _, _, rfl, rfl, q⟩
theorem sc_is_row : FnScope ["text", "row"] ["text", "row"] (defScope s_is_row) := ⟨rfl, rfl, rfl, by decide +kernel, rfl, by decide +kernel, by decide +kernel⟩
theorem ok_is_row (F : Fun K "is_row" "is_row" s_is_row f fd) (O_is_whole : Own P w K mg base CX0 1 "is_whole" ["value"] sp_whole) (O_row_count : Own P w K mg base CX0 1 "row_count" ["text"] sp_row_count) : FnOk P w K mg base CX0 2 f fd ["text", "row"] sp_is_row := by
  refine F.ok sc_is_row (fun vs H Q E h => ?_) (fun cdv A outer s H vs Q E hr h => ?_)
  · obtain ⟨l, p, rfl, _⟩ := h
    rfl
  obtain ⟨l, p, rfl, q⟩ := h
  refine ⟨_, (pss_one (ps_ret (pe_and (pe_own O_is_whole hr (by rfl) pass0 (pa_cons (pv 1) pa_nil)) (pe_one (pe_chain op_le op_lt pe_int (pv 1) (pe_own O_row_count hr (by rfl) pass0 (pa_cons (pv 0) pa_nil))))))), ?_⟩
  refine ⟨_, rfl, .inl ⟨_, rfl, _, rfl, iteT ?_⟩⟩
  refine ⟨_, rfl, _, _, rfl, rfl, _, rfl, ?_⟩
  unfold inR at q
  cases e : decide (0 ≤ p) with
  | true => rw [e] at q; exact iteT ⟨_, rfl, l, rfl, _, _, rfl, rfl, q⟩
  | false => rw [e] at q; exact iteF q
theorem sc_check_place : FnScope ["text", "place"] ["text", "place"] (defScope s_check_place) := ⟨rfl, rfl, rfl, by decide +kernel, rfl, by decide +kernel, by decide +kernel⟩
theorem ok_chk_p (F : Fun K "check_place" "check_place" s_check_place f fd) (O_is_place : Own P w K mg base CX0 2 "is_place" ["text", "place"] sp_is_place) : FnOk P w K mg base CX0 3 f fd ["text", "place"] sp_chk_p := by
  refine F.ok sc_check_place (fun vs H Q E h => ?_) (fun cdv A outer s H vs Q E hr h => ?_)
  · obtain ⟨l, p, rfl, _⟩ := h
    rfl
  obtain ⟨l, p, rfl, hl, hp, q⟩ := h
  refine ⟨_, (pss_one (ps_if (pt_not (pt_val (pe_own O_is_place hr (by rfl) pass0 (pa_cons (pv 0) (pa_cons (pv 1) pa_nil))))) pss_never pss_nil)), ?_⟩
  refine ⟨_, rfl, _, rfl, .inl ⟨l, _, rfl, by omega, _, rfl, ?_⟩⟩
  rw [inP_iff.mpr ⟨by omega, by omega⟩]
  exact iteF q
theorem sc_check_row : FnScope ["text", "row"] ["text", "row"] (defScope s_check_row) := ⟨rfl, rfl, rfl, by decide +kernel, rfl, by decide +kernel, by decide +kernel⟩
theorem ok_chk_r (F : Fun K "check_row" "check_row" s_check_row f fd) (O_is_row : Own P w K mg base CX0 2 "is_row" ["text", "row"] sp_is_row) : FnOk P w K mg base CX0 3 f fd ["text", "row"] sp_chk_r := by
  refine F.ok sc_check_row (fun vs H Q E h => ?_) (fun cdv A outer s H vs Q E hr h => ?_)
  · obtain ⟨l, p, rfl, _⟩ := h
    rfl
  obtain ⟨l, r, rfl, hr', q⟩ := h
  refine ⟨_, (pss_one (ps_if (pt_not (pt_val (pe_own O_is_row hr (by rfl) pass0 (pa_cons (pv 0) (pa_cons (pv 1) pa_nil))))) pss_never pss_nil)), ?_⟩
  refine ⟨_, rfl, _, rfl, l, _, rfl, _, rfl, ?_⟩
  rw [inR_iff.mpr ⟨by omega, by omega⟩]
  exact iteF q
theorem sc_row_of : FnScope ["text", "place"] ["text", "place"] (defScope s_row_of) := ⟨rfl, rfl, rfl, by decide +kernel, rfl, by decide +kernel, by decide +kernel⟩
theorem ok_row_of (F : Fun K "row_of" "row_of" s_row_of f fd) (O_check_place : Own P w K mg base CX0 3 "check_place" ["text", "place"] sp_chk_p) : FnOk P w K mg base CX0 4 f fd ["text", "place"] sp_row_in := by
  refine F.ok sc_row_of (fun vs H Q E h => ?_) (fun cdv A outer s H vs Q E hr h => ?_)
  · obtain ⟨l, p, rfl, _⟩ := h
    rfl
  obtain ⟨l, p, rfl, hl, hp, q⟩ := h
  refine ⟨_, (pss_cons (ps_expr (pe_own O_check_place hr (by rfl) pass0 (pa_cons (pv 0) (pa_cons (pv 1) pa_nil))))
      (pss_one (ps_ret (pe_bm PySem.F.plainAttrs_str PySem.F.slot_str_count PySem.F.type_str_count mt_count (pe_slice sl_str (pv 0) po_none (po_some (pv 1))) (pa_cons pe_str pa_nil))))), ?_⟩
  unfold rno at q
  rw [← cutL_m] at q
  exact ⟨_, rfl, _, rfl, l, p, rfl, hl, hp, _, rfl, _, rfl, _, rfl, l, rfl, small (by omega), rfl, _, 10, rfl, rfl, q⟩
theorem sc_begin_of : FnScope ["text", "row"] ["text", "row"] (defScope s_begin_of) := ⟨rfl, rfl, rfl, by decide +kernel, rfl, by decide +kernel, by decide +kernel⟩
theorem ok_begin_of (F : Fun K "begin_of" "begin_of" s_begin_of f fd) (O_check_row : Own P w K mg base CX0 3 "check_row" ["text", "row"] sp_chk_r) (m_len : mg "len" = none) : FnOk P w K mg base CX0 4 f fd ["text", "row"] sp_beg_in := by
  refine F.ok sc_begin_of (fun vs H Q E h => ?_) (fun cdv A outer s H vs Q E hr h => ?_)
  · obtain ⟨l, p, rfl, _⟩ := h
    rfl
  obtain ⟨l, r, rfl, hl, hr', q⟩ := h
  refine ⟨_, (pss_cons (ps_expr (pe_own O_check_row hr (by rfl) pass0 (pa_cons (pv 0) (pa_cons (pv 1) pa_nil))))
      (pss_one (ps_ret (pe_op op_sub (pe_callB call_lenS (by rfl) m_len PySem.boot_len (pa_cons (pv 0) pa_nil)) (pe_callB call_lenS (by rfl) m_len PySem.boot_len (pa_cons (pe_ix ix_list (pe_bm PySem.F.plainAttrs_str PySem.F.slot_str_split PySem.F.type_str_split mt_splitM (pv 0) (pa_cons pe_str (pa_cons (pv 1) pa_nil))) (pv 1) (fun _ _ => rfl)) pa_nil)))))), ?_⟩
  have hb := beg_le (l := l) (i := r) (by omega)
  have he := end_le (l := l) (i := r) (by omega)
  have hat : atI ((splitM l r).map fun r => V.str (S r)) (r : Int) = some (.str (S (l.drop (begAt l r)))) := atI_nat (by rw [List.getElem?_map, splitM_at hr']; rfl)
  refine ⟨_, rfl, _, rfl, l, r, rfl, hr', _, rfl, l, rfl, small (by omega), _, rfl, rfl, _, rfl, l, r, rfl, rfl, hr', hl, fun p hp => ?_⟩
  refine ⟨_, rfl, p, _, _, _, rfl, rfl, SqL.of upd_same, hat, _, rfl, small (by rw [List.length_drop]; omega), _, _, rfl, rfl, ?_⟩
  have z : ((l.length : Nat) : Int) - ((l.drop (begAt l r)).length : Int) = ((begAt l r : Nat) : Int) := by rw [List.length_drop]; omega
  show Q (V.int (((l.length : Nat) : Int) - ((l.drop (begAt l r)).length : Int))) _
  rw [z]
  exact q _ (same_new hp _)
theorem sc_end_of : FnScope ["text", "row", "end"] ["text", "row"] (defScope s_end_of) := ⟨rfl, rfl, rfl, by decide +kernel, rfl, by decide +kernel, by decide +kernel⟩
theorem ok_end_of (F : Fun K "end_of" "end_of" s_end_of f fd) (O_begin_of : Own P w K mg base CX0 4 "begin_of" ["text", "row"] sp_beg_in) (m_len : mg "len" = none) : FnOk P w K mg base CX0 5 f fd ["text", "row"] sp_end_in := by
  refine F.ok sc_end_of (fun vs H Q E h => ?_) (fun cdv A outer s H vs Q E hr h => ?_)
  · obtain ⟨l, p, rfl, _⟩ := h
    rfl
  obtain ⟨l, r, rfl, hl, hr', q⟩ := h
  refine ⟨_, (pss_cons (ps_set (i := 2) sc_end_of.nd rfl (Or.inl rfl) (pe_bm PySem.F.plainAttrs_str PySem.F.slot_str_find PySem.F.type_str_find mt_findN (pv 0) (pa_cons pe_str (pa_cons (pe_own O_begin_of hr (by rfl) pass0 (pa_cons (pv 0) (pa_cons (pv 1) pa_nil))) pa_nil))))
      (pss_one (ps_ret (pe_ifExp (pt_cmpR op_lt (pv 2) pe_int (nomark _)) (pe_callB call_lenS (by rfl) m_len PySem.boot_len (pa_cons (pv 0) pa_nil)) (pv 2))))), ?_⟩
  refine ⟨_, rfl, rfl, _, rfl, _, rfl, l, r, rfl, hl, hr', fun H1 S1 => ⟨l, _, rfl, rfl, ?_⟩⟩
  have he := end_le (l := l) (i := r) (by omega)
  rcases ffN_row hr' with ⟨e, e2⟩ | e
  · show gName _ (V.int (ffN l (begAt l r))) _ _ _
    rw [e]
    refine ⟨_, rfl, _, _, rfl, rfl, _, rfl, iteT ⟨_, rfl, l, rfl, small (by omega), ?_⟩⟩
    rw [← e2]
    exact q _ S1
  · show gName _ (V.int (ffN l (begAt l r))) _ _ _
    rw [e]
    have ed : decide (((endAt l r : Nat) : Int) < 0) = false := decide_eq_false (by omega)
    refine ⟨_, rfl, _, _, rfl, rfl, _, rfl, ?_⟩
    rw [ed]
    exact iteF ⟨_, rfl, q _ S1⟩

end
end My

set_option Elab.async false
set_option linter.all false
set_option maxRecDepth 100000
set_option maxHeartbeats 4000000
namespace My
open PySem L2



/-! the text with blanks behind its line feeds -/

theorem split_mem {l : List Nat} {r : List Nat} (h : r ∈ splitL l) : ∀ c ∈ r, c ∈ l := by
  unfold splitL at h
  obtain ⟨p, _, rfl⟩ := List.mem_map.mp h
  exact fun c hc => List.mem_of_mem_drop (List.mem_of_mem_take hc)
theorem split_flat (l : List Nat) : (splitL l).flatten.length + (l.count 10 + 1) = l.length + 1 := by
  have h := rows_sum (l := l) (Nat.le_refl _)
  have e : (begAt l (l.count 10 + 1) : Int) = (l.length : Int) + 1 := by
    show ((endAt l (l.count 10) + 1 : Nat) : Int) = _
    rw [stop_last]
    omega
  rw [e, List.take_of_length_le (by rw [splitL_len]; exact Nat.le_refl _)] at h
  have g : ∀ ls : List (List Nat), (ls.map fun rr => (rr.length : Int) + 1).sum = ((ls.flatten.length + ls.length : Nat) : Int) := fun ls => by
    induction ls with
    | nil => rfl
    | cons r rs ih => rw [List.map_cons, List.sum_cons, ih, List.flatten_cons, List.length_append, List.length_cons]; omega
  rw [g, splitL_len] at h
  omega
theorem glueZ_mem {z : List Nat} {ls : List (List Nat)} {c : Nat} (h : c ∈ glueZ z ls) : c ∈ z ∨ ∃ r ∈ ls, c ∈ r := by
  cases ls with
  | nil => cases h
  | cons r rs =>
    rcases List.mem_append.mp h with h | h
    · exact .inr ⟨r, List.mem_cons_self .., h⟩
    · obtain ⟨y, hy, hc⟩ := List.mem_flatten.mp h
      obtain ⟨p, hp, rfl⟩ := List.mem_map.mp hy
      rcases List.mem_append.mp hc with hc | hc
      · exact .inl hc
      · exact .inr ⟨p, List.mem_cons_of_mem _ hp, hc⟩
theorem glueZ_len (z : List Nat) (ls : List (List Nat)) : (glueZ z ls).length ≤ ls.flatten.length + ls.length * z.length := by
  cases ls with
  | nil => exact Nat.zero_le _
  | cons r rs =>
    have h : ∀ rs : List (List Nat), ((rs.map fun p => z ++ p).flatten).length = rs.flatten.length + rs.length * z.length := fun rs => by
      induction rs with
      | nil => simp
      | cons a as ih => rw [List.map_cons, List.flatten_cons, List.length_append, ih, List.length_append, List.flatten_cons, List.length_append, List.length_cons, Nat.add_mul, Nat.one_mul]; omega
    unfold glueZ
    rw [List.length_append, h, List.flatten_cons, List.length_append, List.length_cons, Nat.add_mul]
    omega
theorem blank_ok {l m : List Nat} (hl : l.length ≤ 60) (hm : m.length ≤ 3) (hla : ∀ c ∈ l, c < 128) (hma : ∀ c ∈ m, c < 128) : (glueZ (10 :: m) (splitL l)).length ≤ 600 ∧ ∀ c ∈ glueZ (10 :: m) (splitL l), c < 128 := by
  refine ⟨?_, fun c hc => ?_⟩
  · have h1 := glueZ_len (10 :: m) (splitL l)
    have h2 := split_flat l
    have h3 := count_le l
    rw [splitL_len, List.length_cons] at h1
    have h4 := Nat.mul_le_mul (show l.count 10 + 1 ≤ 61 by omega) (show m.length + 1 ≤ 4 by omega)
    omega
  · rcases glueZ_mem hc with h | ⟨r, hr, h⟩
    · rcases List.mem_cons.mp h with h | h
      · omega
      · exact hma _ h
    · exact hla _ (split_mem hr _ h)
section
variable {P : Program} {w : World} {K : PySem.W.Frag} {mg : Str → Option Value} {base : Heap} {f : Addr} {fd : FuncData}
theorem sc__law_blank_text : FnScope ["_law_script", "_law_text_here"] ["_law_script"] (defScope s__law_blank_text) := ⟨rfl, rfl, rfl, by decide +kernel, rfl, by decide +kernel, by decide +kernel⟩
theorem ok_blank (F : Fun K "_law_blank_text" "_law_blank_text" s__law_blank_text f fd) (O__law_cell_at : Own P w K mg base CX0 1 "_law_cell_at" ["_law_script", "_law_k"] (sp_cell K)) (O__law_text : Own P w K mg base CX0 2 "_law_text" ["_law_script"] (sp_text2 K)) (m_len : mg "len" = none) (nb : PySem.W.nsIn K cStatics sharingNotToldKey = some none) :
    FnOk P w K mg base CX0 3 f fd ["_law_script"] (sp_text2 K) := by
  refine F.ok sc__law_blank_text (fun vs H Q E h => ?_) (fun cdv A outer s H vs Q E hr h => ?_)
  · obtain ⟨a, ns, rfl, _⟩ := h
    rfl
  obtain ⟨a, ns, rfl, hS, h63, q⟩ := h
  refine ⟨_, (pss_cons (ps_set (i := 1) sc__law_blank_text.nd rfl (Or.inl rfl) (pe_own O__law_text hr (by rfl) pass0 (pa_cons (pv 0) pa_nil)))
      (pss_cons (ps_ifP (pt_cmpP op_le (pe_callB call_lenS (by rfl) m_len PySem.boot_len (pa_cons (pv 1) pa_nil)) (nomark _)) (pss_retP (pe_repl rfl rfl PySem.F.plainAttrs_str nb (pv 1) (pe_op op_mulS pe_str (pe_op op_mod (pe_op op_fdiv (pe_own O__law_cell_at hr (by rfl) pass0 (pa_cons (pv 0) (pa_cons pe_int pa_nil))) pe_int) pe_int)))) pss_nil)
      (pss_one (ps_ret (pv 1))))), ?_⟩
  refine ⟨_, rfl, a, ns, rfl, hS, h63, fun l H1 S1 hl hla => ?_⟩
  refine ⟨_, rfl, l, rfl, small (by omega), _, _, rfl, rfl, _, rfl, ?_⟩
  by_cases z : (l.length : Int) ≤ 60
  · have m0 : 0 ≤ cell ns 0 / 45 % 4 := Int.emod_nonneg _ (by decide)
    have m1 : cell ns 0 / 45 % 4 < 4 := Int.emod_lt_of_pos _ (by decide)
    refine iteDT z ⟨_, rfl, l, rfl, _, rfl, a, ns, 0, rfl, S1.seq hS, _, _, rfl, rfl, ⟨by decide, by decide⟩, _, _, rfl, rfl, (by show (0 : Int) < 4; decide), [32], _, rfl, rfl, m0, by omega, by decide, _, rfl, by omega, ?_, ?_⟩
    · rw [rep_len]
      simp
      omega
    · have hm : (rep [32] (cell ns 0 / 45 % 4).toNat).length ≤ 3 := by
        rw [rep_len]
        simp
        omega
      obtain ⟨g1, g2⟩ := blank_ok (l := l) (m := rep [32] (cell ns 0 / 45 % 4).toNat) (by omega) hm hla (fun c hc => by
        unfold rep at hc
        obtain ⟨y, hy, hc⟩ := List.mem_flatten.mp hc
        rw [List.eq_of_mem_replicate hy, List.mem_singleton] at hc
        omega)
      exact q _ H1 S1 g1 g2
  · exact iteDF z ⟨_, rfl, q l H1 S1 hl hla⟩
end

/-! the law's own rows: where a place stands, where each begins -/

def rowsV (l : List Nat) : List V := (splitL l).map fun r => V.str (S r)
theorem rows_at {l : List Nat} {r : Nat} (h : r ≤ l.count 10) : ∃ rr : List Nat, atI (rowsV l) (r : Int) = some (.str (S rr)) ∧ rr.length = endAt l r - begAt l r := by
  obtain ⟨rr, e1, e2⟩ := splitL_at (l := l) (i := r) (by omega)
  refine ⟨rr, atI_nat ?_, e2⟩
  unfold rowsV
  rw [List.getElem?_map, e1]
  rfl
def sp_at : Sp := fun vs H Q _ => ∃ (R : Addr) (l : List Nat) (p : Nat), vs = [.ref R, .int (p : Int)] ∧ H R = some (.lst (rowsV l)) ∧ l.length ≤ 1000 ∧ p ≤ l.length ∧ ∀ (t : Addr) (H' : Hp), Same H H' → H' t = some (.tup [.int (rno l p : Nat), .int (p - rb l p : Nat)]) → Q (.ref t) H'
def atP (R : Addr) (l : List Nat) (p : Nat) (H : Hp) (σ : St) (H' : Hp) : Prop := H = H' ∧ ∃ r : Nat, σ = [some (.ref R), some (.int ((p : Int) - begAt l r)), some (.int (r : Int))] ∧ begAt l r ≤ p ∧ r ≤ rno l p
def atM (l : List Nat) (σ : St) (_ : Hp) : Nat := match σ with | [_, _, some (.int k)] => ((l.length : Int) + 1 - k).toNat | _ => 0
section
variable {P : Program} {w : World} {K : PySem.W.Frag} {mg : Str → Option Value} {base : Heap} {f : Addr} {fd : FuncData}
theorem sc__law_at : FnScope ["_law_rows_here", "_law_place", "_law_row"] ["_law_rows_here", "_law_place"] (defScope s__law_at) := ⟨rfl, rfl, rfl, by decide +kernel, rfl, by decide +kernel, by decide +kernel⟩
theorem ok_at (F : Fun K "_law_at" "_law_at" s__law_at f fd) (m_len : mg "len" = none) : FnOk P w K mg base CX0 1 f fd ["_law_rows_here", "_law_place"] sp_at := by
  refine F.ok sc__law_at (fun vs H Q E h => ?_) (fun cdv A outer s H vs Q E hr h => ?_)
  · obtain ⟨R, l, p, rfl, _⟩ := h
    rfl
  obtain ⟨R, l, p, rfl, hR, hl, hp, q⟩ := h
  have hcl := count_le l
  have hrl := rno_le l hp
  refine ⟨_, (pss_cons (ps_set (i := 2) sc__law_at.nd rfl (Or.inl rfl) pe_int)
      (pss_cons (ps_while PassesOwn.never (pt_cmpR op_gt (pv 1) (pe_callB call_lenS (by rfl) m_len PySem.boot_len (pa_cons (pe_ix ix_list (pv 0) (pv 2) (fun _ _ => rfl)) pa_nil)) (nomark _)) (pss_cons (ps_set (i := 1) sc__law_at.nd rfl (Or.inl rfl) (pe_op op_sub (pe_op op_sub (pv 1) (pe_callB call_lenS (by rfl) m_len PySem.boot_len (pa_cons (pe_ix ix_list (pv 0) (pv 2) (fun _ _ => rfl)) pa_nil))) pe_int))
      (pss_one (ps_set (i := 2) sc__law_at.nd rfl (Or.inl rfl) (pe_op op_add (pv 2) pe_int)))))
      (pss_one (ps_ret (pe_tup (pa_cons (pv 2) (pa_cons (pv 1) pa_nil))))))), ?_⟩
  refine while_in (atP R l p H) (atM l) ⟨rfl, 0, (by show _ = [_, some (V.int ((p : Int) - ((0 : Nat) : Int))), _]; rw [show (p : Int) - ((0 : Nat) : Int) = (p : Int) by omega]; rfl), Nat.zero_le _, Nat.zero_le _⟩ ?_
  rintro σ H' ⟨rfl, r, rfl, hb, hr'⟩
  obtain ⟨rr, e1, e2⟩ := rows_at (l := l) (r := r) (by omega)
  have hbe := beg_le (l := l) (i := r) (by omega)
  have hel := end_le (l := l) (i := r) (by omega)
  have hst := step_gt hp hr'
  refine ⟨_, rfl, _, rfl, _, rfl, R, _, _, _, rfl, rfl, SqL.of hR, e1, rr, rfl, small (by omega), _, _, rfl, rfl, _, rfl, ?_⟩
  refine ite2 (fun c => ?_) (fun c => ?_)
  · have c' : (rr.length : Int) < (p : Int) - begAt l r := of_decide_eq_true c
    have lt : r < rno l p := hst.mp (by omega)
    refine ⟨_, turn_N (Pv := atP R l p H) (μ := atM l), ?_⟩
    refine ⟨_, rfl, _, rfl, _, rfl, R, _, _, _, rfl, rfl, SqL.of hR, e1, rr, rfl, small (by omega), _, _, rfl, rfl, _, _, rfl, rfl, ?_⟩
    refine ⟨_, rfl, _, _, rfl, rfl, ⟨rfl, r + 1, ?_, ?_, lt⟩, ?_⟩
    · have z : (p : Int) - ((begAt l (r + 1) : Nat) : Int) = (p : Int) - begAt l r - rr.length - 1 := by
        show (p : Int) - ((endAt l r + 1 : Nat) : Int) = _
        omega
      rw [z]
      rfl
    · show endAt l r + 1 ≤ p
      exact hst.mpr lt
    · show ((l.length : Int) + 1 - ((r : Int) + 1)).toNat < ((l.length : Int) + 1 - (r : Int)).toNat
      omega
  · have c' : ¬ (rr.length : Int) < (p : Int) - begAt l r := of_decide_eq_false (Bool.eq_false_iff.mpr c)
    have e : r = rno l p := by
      rcases Nat.lt_or_ge r (rno l p) with z | z
      · have := hst.mpr z; omega
      · omega
    subst e
    refine ⟨_, rfl, _, rfl, (by show 2 ≤ sizeLine; decide), fun t ht => q t _ (same_new ht _) ?_⟩
    rw [upd_same, show ((p - rb l p : Nat) : Int) = (p : Int) - begAt l (rno l p) from by show ((p - begAt l (rno l p) : Nat) : Int) = _; omega]
def begL (l : List Nat) (n : Nat) : List V := (List.range n).map fun i => nV (begAt l i)
theorem begL_at {l : List Nat} {n i : Nat} (h : i < n) : atI (begL l n) (i : Int) = some (nV (begAt l i)) := by
  refine atI_nat ?_
  unfold begL
  rw [List.getElem?_map, List.getElem?_range h]
  rfl
theorem begL_len (l : List Nat) (n : Nat) : (begL l n).length = n := by unfold begL; simp
def sp_starts : Sp := fun vs H Q _ => ∃ (R : Addr) (l : List Nat), vs = [.ref R] ∧ H R = some (.lst (rowsV l)) ∧ l.length ≤ 1000 ∧ ∀ (D : Addr) (H' : Hp), Same H H' → H' D = some (.lst (begL l (l.count 10 + 2))) → Q (.ref D) H'
theorem sc__law_starts : FnScope ["_law_rows_here", "_law_starts_here", "_law_one"] ["_law_rows_here"] (defScope s__law_starts) := ⟨rfl, rfl, rfl, by decide +kernel, rfl, by decide +kernel, by decide +kernel⟩
theorem ok_starts (F : Fun K "_law_starts" "_law_starts" s__law_starts f fd) (m_len : mg "len" = none) : FnOk P w K mg base CX0 1 f fd ["_law_rows_here"] sp_starts := by
  refine F.ok sc__law_starts (fun vs H Q E h => ?_) (fun cdv A outer s H vs Q E hr h => ?_)
  · obtain ⟨R, l, rfl, _⟩ := h
    rfl
  obtain ⟨R, l, rfl, hR, hl, q⟩ := h
  have hcl := count_le l
  refine ⟨_, (pss_cons (ps_set (i := 1) sc__law_starts.nd rfl (Or.inl rfl) (pe_lst (pa_cons pe_int pa_nil)))
      (pss_cons (ps_for PassesOwn.never rfl (pi_list (pv 0)) (pg_name (i := 2) sc__law_starts.nd rfl (Or.inl rfl)) (pss_one (ps_expr (pe_bm PySem.F.plainAttrs_list PySem.F.slot_list_append PySem.F.type_list_append mt_append (pv 1) (pa_cons (pe_op op_add (pe_op op_add (pe_ix ix_list (pv 1) (pe_un un_neg pe_int) (fun _ _ => rfl)) (pe_callB call_lenS (by rfl) m_len PySem.boot_len (pa_cons (pv 2) pa_nil))) pe_int) pa_nil)))))
      (pss_one (ps_ret (pv 1))))), ?_⟩
  refine ⟨(by show 1 ≤ sizeLine; decide), fun D hD => ?_⟩
  refine ⟨_, rfl, R, rfl, ⟨_, SqL.of (same_new hD _ _ _ hR)⟩, ?_⟩
  have hlen : (rowsV l).length = l.count 10 + 1 := by unfold rowsV; rw [List.length_map, splitL_len]
  refine for_list (xs := rowsV l) (fun i σ H' => (∃ x : Option V, σ = [some (.ref R), some (.ref D), x]) ∧ Same H H' ∧ H' D = some (.lst (begL l (i + 1)))) ⟨⟨none, rfl⟩, same_new hD _, upd_same⟩ (fun i σ H' _ h => SqL.of (h.2.1 _ _ hR)) ?_ ?_
  · rintro i v σ H' hv ⟨⟨x, rfl⟩, SS, hD'⟩
    have hi : i < l.count 10 + 1 := by rw [← hlen]; exact (List.getElem?_eq_some_iff.mp hv).1
    obtain ⟨rr, e1, e2⟩ := splitL_at (l := l) (i := i) hi
    have ev : v = .str (S rr) := by
      unfold rowsV at hv
      rw [List.getElem?_map, e1] at hv
      exact (Option.some.inj hv).symm
    subst ev
    have hbe := beg_le (l := l) (i := i) (by omega)
    have hel := end_le (l := l) (i := i) (by omega)
    have hat : atI (begL l (i + 1)) (-1) = some (nV (begAt l i)) := by
      rw [atI_lst (by rw [begL_len]; omega), List.getLast?_eq_getElem?, begL_len]
      unfold begL
      rw [List.getElem?_map, List.getElem?_range (by omega)]
      rfl
    refine ⟨_, rfl, .inl ⟨rfl, _, SqL.of hD'⟩, _, rfl, _, rfl, D, _, _, _, rfl, rfl, SqL.of hD', hat, _, rfl, rr, rfl, small (by omega), (begAt l i : Int), _, rfl, rfl, _, _, rfl, rfl, D, _, _, rfl, rfl, hD', ?_, ⟨_, rfl⟩, same_upd SS hD, ?_⟩
    · rw [begL_len]
      exact Nat.lt_of_lt_of_le (show _ < 1000000 by omega) (small (Nat.le_refl _))
    · rw [upd_same]
      have e3 : V.int ((begAt l i : Int) + (rr.length : Int) + 1) = nV (begAt l (i + 1)) := congrArg V.int (by show _ = ((endAt l i + 1 : Nat) : Int); omega)
      show some (HO.lst (begL l (i + 1) ++ [V.int ((begAt l i : Int) + (rr.length : Int) + 1)])) = _
      rw [e3]
      unfold begL
      rw [List.range_succ (n := i + 1), List.map_append]
      rfl
  · rintro σ H' ⟨⟨x, rfl⟩, SS, hD'⟩
    rw [hlen] at hD'
    exact ⟨_, rfl, q D H' SS hD'⟩
def StGood (l : List Nat) (o : Nat × Nat × List Nat) : Prop := o.1 ≤ o.2.1 ∧ o.2.1 ≤ l.length ∧ (o.2.2 = cSigns ∨ o.2.2 = cBlock ∨ (o.2.2 = cRows ∧ ∃ p q, p ≤ q ∧ q ≤ l.length ∧ o.1 = rb l p ∧ o.2.1 = min (re l q + 1) l.length))
def sp_lstretch : Sp := fun vs H Q _ => ∃ (R : Addr) (l : List Nat) (n : Int), vs = [.str (S l), .ref R, .int n] ∧ H R = some (.lst (rowsV l)) ∧ l.length ≤ 1000 ∧ ∀ (o : Nat × Nat × List Nat) (t : Addr) (H' : Hp), Same H H' → StGood l o → H' t = some (.tup [nV o.1, nV o.2.1, .str (S o.2.2)]) → Q (.ref t) H'
theorem kind3 (n : Int) : ∃ k, (k = cSigns ∨ k = cRows ∨ k = cBlock) ∧ atI [V.str "signs", V.str "rows", V.str "block"] (n % 3) = some (.str (S k)) := by
  have k0 : 0 ≤ n % 3 := Int.emod_nonneg _ (by decide)
  have k1 : n % 3 < 3 := Int.emod_lt_of_pos _ (by decide)
  have h : n % 3 = 0 ∨ n % 3 = 1 ∨ n % 3 = 2 := by omega
  rcases h with h | h | h <;> rw [h]
  · exact ⟨cSigns, .inl rfl, rfl⟩
  · exact ⟨cRows, .inr (.inl rfl), rfl⟩
  · exact ⟨cBlock, .inr (.inr rfl), rfl⟩
theorem nat_mod (a : Int) {b : Nat} : ∃ c : Nat, a % ((b : Int) + 1) = (c : Int) ∧ c ≤ b := by
  have h0 : 0 ≤ a % ((b : Int) + 1) := Int.emod_nonneg _ (by omega)
  have h1 : a % ((b : Int) + 1) < (b : Int) + 1 := Int.emod_lt_of_pos _ (by omega)
  exact ⟨(a % ((b : Int) + 1)).toNat, by omega, by omega⟩
theorem sc__law_stretch : FnScope ["_law_text_here", "_law_rows_here", "_law_number", "_law_low", "_law_high", "_law_kind", "_law_starts_here"] ["_law_text_here", "_law_rows_here", "_law_number"] (defScope s__law_stretch) := ⟨rfl, rfl, rfl, by decide +kernel, rfl, by decide +kernel, by decide +kernel⟩
theorem ok_lstretch (F : Fun K "_law_stretch" "_law_stretch" s__law_stretch f fd) (O__law_at : Own P w K mg base CX0 1 "_law_at" ["_law_rows_here", "_law_place"] sp_at) (O__law_starts : Own P w K mg base CX0 1 "_law_starts" ["_law_rows_here"] sp_starts) (m_len : mg "len" = none) (m_min : mg "min" = none) : FnOk P w K mg base CX0 2 f fd ["_law_text_here", "_law_rows_here", "_law_number"] sp_lstretch := by
  refine F.ok sc__law_stretch (fun vs H Q E h => ?_) (fun cdv A outer s H vs Q E hr h => ?_)
  · obtain ⟨R, l, n, rfl, _⟩ := h
    rfl
  obtain ⟨R, l, n, rfl, hR, hl, q⟩ := h
  have hpos : (0 : Int) < (l.length : Int) + 1 := by omega
  refine ⟨_, (pss_cons (ps_set (i := 3) sc__law_stretch.nd rfl (Or.inl rfl) (pe_op op_mod (pe_op op_fdiv (pv 2) pe_int) (pe_op op_add (pe_callB call_lenS (by rfl) m_len PySem.boot_len (pa_cons (pv 0) pa_nil)) pe_int)))
      (pss_cons (ps_set (i := 4) sc__law_stretch.nd rfl (Or.inl rfl) (pe_op op_mod (pe_op op_fdiv (pv 2) pe_int) (pe_op op_add (pe_callB call_lenS (by rfl) m_len PySem.boot_len (pa_cons (pv 0) pa_nil)) pe_int)))
      (pss_cons (ps_if (pt_cmpR op_eq (pe_op op_mod (pe_op op_fdiv (pv 2) pe_int) pe_int) pe_int (nomark _)) (pss_one (ps_set (i := 4) sc__law_stretch.nd rfl (Or.inl rfl) (pe_callB (call_min2 (by rfl)) (by rfl) m_min boot_min (pa_cons (pe_callB call_lenS (by rfl) m_len PySem.boot_len (pa_cons (pv 0) pa_nil)) (pa_cons (pe_op op_add (pv 3) (pe_op op_mod (pe_op op_fdiv (pv 2) pe_int) pe_int)) pa_nil))))) pss_nil)
      (pss_cons (ps_if (pt_cmpR op_lt (pv 4) (pv 3) (nomark _)) (pss_one (ps_par (i := 3) (j := 4) rfl sc__law_stretch.nd rfl rfl (by decide) rfl rfl (pa_cons (pv 4) (pa_cons (pv 3) pa_nil)) (by rfl))) pss_nil)
      (pss_cons (ps_set (i := 5) sc__law_stretch.nd rfl (Or.inl rfl) (pe_ix ix_list (pe_lst (pa_cons pe_str (pa_cons pe_str (pa_cons pe_str pa_nil)))) (pe_op op_mod (pv 2) pe_int) (fun _ _ => rfl)))
      (pss_cons (ps_if (pt_cmpR op_eq (pv 5) pe_str (nomark _)) (pss_cons (ps_set (i := 6) sc__law_stretch.nd rfl (Or.inl rfl) (pe_own O__law_starts hr (by rfl) pass0 (pa_cons (pv 1) pa_nil)))
      (pss_cons (ps_set (i := 3) sc__law_stretch.nd rfl (Or.inl rfl) (pe_ix ix_list (pv 6) (pe_ix ix_tup (pe_own O__law_at hr (by rfl) pass0 (pa_cons (pv 1) (pa_cons (pv 3) pa_nil))) pe_int (fun _ _ => rfl)) (fun _ _ => rfl)))
      (pss_one (ps_set (i := 4) sc__law_stretch.nd rfl (Or.inl rfl) (pe_callB (call_min2 (by rfl)) (by rfl) m_min boot_min (pa_cons (pe_callB call_lenS (by rfl) m_len PySem.boot_len (pa_cons (pv 0) pa_nil)) (pa_cons (pe_ix ix_list (pv 6) (pe_op op_add (pe_ix ix_tup (pe_own O__law_at hr (by rfl) pass0 (pa_cons (pv 1) (pa_cons (pv 4) pa_nil))) pe_int (fun _ _ => rfl)) pe_int) (fun _ _ => rfl)) pa_nil))))))) pss_nil)
      (pss_one (ps_ret (pe_tup (pa_cons (pv 3) (pa_cons (pv 4) (pa_cons (pv 5) pa_nil)))))))))))), ?_⟩
  obtain ⟨lo, hlo, blo⟩ := nat_mod (n / 3) (b := l.length)
  obtain ⟨hi, hhi, bhi⟩ := nat_mod (n / 2003) (b := l.length)
  refine ⟨_, rfl, _, _, rfl, rfl, ⟨by decide, by decide⟩, _, rfl, l, rfl, small (by omega), _, _, rfl, rfl, _, _, rfl, rfl, hpos, ?_⟩
  show gName _ (V.int (n / 3 % ((l.length : Int) + 1))) _ _ _
  rw [hlo]
  refine ⟨_, rfl, _, _, rfl, rfl, ⟨by decide, by decide⟩, _, rfl, l, rfl, small (by omega), _, _, rfl, rfl, _, _, rfl, rfl, hpos, ?_⟩
  show gName _ (V.int (n / 2003 % ((l.length : Int) + 1))) _ _ _
  rw [hhi]
  refine gname_go (seq_at (seq_to (fun σ H' => H = H' ∧ ∃ hi : Nat, hi ≤ l.length ∧ σ = [some (.str (S l)), some (.ref R), some (.int n), some (.int (lo : Int)), some (.int (hi : Int)), none, none]) (fun nx fin => ?_) ?_))
  · refine ⟨_, rfl, _, _, rfl, rfl, ⟨by decide, by decide⟩, _, _, rfl, rfl, (by show (0 : Int) < 2; decide), rfl, _, rfl, ite2 (fun _ => ?_) (fun _ => fin _ _ ⟨rfl, hi, bhi, rfl⟩)⟩
    have z0 : 0 ≤ n / 2003 % 9 := Int.emod_nonneg _ (by decide)
    obtain ⟨z, hz⟩ : ∃ z : Nat, n / 2003 % 9 = (z : Int) := ⟨_, (Int.toNat_of_nonneg z0).symm⟩
    refine ⟨_, rfl, l, rfl, small (by omega), _, rfl, _, rfl, _, _, rfl, rfl, ⟨by decide, by decide⟩, _, _, rfl, rfl, (by show (0 : Int) < 9; decide), _, _, rfl, rfl, _, _, rfl, ?_⟩
    show gName _ (V.int (if (lo : Int) + n / 2003 % 9 < (l.length : Int) then (lo : Int) + n / 2003 % 9 else (l.length : Int))) _ _ _
    rw [hz]
    have e : (if (lo : Int) + (z : Int) < (l.length : Int) then (lo : Int) + (z : Int) else (l.length : Int)) = ((min l.length (lo + z) : Nat) : Int) := by split <;> omega
    rw [e]
    exact fin _ _ ⟨rfl, min l.length (lo + z), by omega, rfl⟩
  rintro σ H' ⟨rfl, hi, bhi, rfl⟩
  refine seq_to (fun σ H' => Same H H' ∧ ∃ lo hi : Nat, lo ≤ hi ∧ hi ≤ l.length ∧ σ = [some (.str (S l)), some (.ref R), some (.int n), some (.int (lo : Int)), some (.int (hi : Int)), none, none]) (fun nx fin => ?_) ?_
  · refine ⟨_, rfl, _, rfl, _, _, rfl, rfl, _, rfl, ?_⟩
    by_cases z : (hi : Int) < (lo : Int)
    · exact iteDT z ⟨_, rfl, _, rfl, _, _, rfl, fin _ _ ⟨Same.refl _, hi, lo, by omega, blo, rfl⟩⟩
    · exact iteDF z (fin _ _ ⟨Same.refl _, lo, hi, by omega, bhi, rfl⟩)
  rintro σ H1 ⟨S1, lo, hi, hle, bhi, rfl⟩
  obtain ⟨k, hk, hat⟩ := kind3 n
  refine ⟨(by show 3 ≤ sizeLine; decide), fun A1 hA1 => ?_⟩
  have S2 := same_new hA1 (.lst [V.str "signs", V.str "rows", V.str "block"])
  refine ⟨_, rfl, _, _, rfl, rfl, (by show (0 : Int) < 3; decide), A1, _, _, _, rfl, rfl, SqL.of upd_same, hat, ?_⟩
  have S12 := S1.trans S2
  generalize upd H1 A1 (.lst [V.str "signs", V.str "rows", V.str "block"]) = H2 at S2 S12
  refine gname_go (seq_at (seq_to (fun σ H' => Same H H' ∧ ∃ (o : Nat × Nat × List Nat) (x : Option V), StGood l o ∧ σ = [some (.str (S l)), some (.ref R), some (.int n), some (nV o.1), some (nV o.2.1), some (.str (S o.2.2)), x]) (fun nx fin => ?_) ?_))
  · refine ⟨_, rfl, rfl, _, rfl, ?_⟩
    by_cases ek : k = cRows
    · subst ek
      refine iteDT rfl ?_
      have hlo : lo ≤ l.length := by omega
      refine ⟨_, rfl, R, l, rfl, S12 _ _ hR, hl, fun D H3 S3 hD => ?_⟩
      have S13 := S12.trans S3
      refine ⟨_, rfl, _, rfl, _, rfl, R, l, lo, rfl, S13 _ _ hR, hl, hlo, fun t1 H4 S4 ht1 => ?_⟩
      refine ⟨t1, _, _, _, rfl, rfl, SqT.of ht1, rfl, D, _, _, _, rfl, rfl, SqL.of (S4 _ _ hD), begL_at (show rno l lo < l.count 10 + 2 by have := rno_le l hlo; omega), ?_⟩
      refine ⟨_, rfl, l, rfl, small (by omega), _, rfl, _, rfl, _, rfl, R, l, hi, rfl, (S13.trans S4) _ _ hR, hl, bhi, fun t2 H5 S5 ht2 => ?_⟩
      have hr := rno_le l bhi
      refine ⟨t2, _, _, _, rfl, rfl, SqT.of ht2, rfl, ((rno l hi : Nat) : Int), _, rfl, rfl, D, _, _, _, rfl, rfl, SqL.of ((S4.trans S5) _ _ hD), begL_at (i := rno l hi + 1) (by omega), (l.length : Int), ((begAt l (rno l hi + 1) : Nat) : Int), rfl, ?_⟩
      have e : (if ((begAt l (rno l hi + 1) : Nat) : Int) < (l.length : Int) then ((begAt l (rno l hi + 1) : Nat) : Int) else (l.length : Int)) = ((min (re l hi + 1) l.length : Nat) : Int) := by
        show (if ((re l hi + 1 : Nat) : Int) < (l.length : Int) then ((re l hi + 1 : Nat) : Int) else (l.length : Int)) = _
        split <;> omega
      show gName _ (V.int (if ((begAt l (rno l hi + 1) : Nat) : Int) < (l.length : Int) then ((begAt l (rno l hi + 1) : Nat) : Int) else (l.length : Int))) _ _ _
      rw [e]
      refine fin _ _ ⟨S13.trans (S4.trans S5), (rb l lo, min (re l hi + 1) l.length, cRows), _, ⟨?_, ?_, .inr (.inr ⟨rfl, lo, hi, hle, bhi, rfl, rfl⟩)⟩, rfl⟩
      · have h1 : rb l lo ≤ lo := (row_is hlo).1
        have h2 : hi ≤ re l hi := (row_is bhi).2.1
        show rb l lo ≤ min (re l hi + 1) l.length
        omega
      · show min (re l hi + 1) l.length ≤ l.length
        omega
    · refine iteDF (fun z => ek (S_inj (V.str.inj z))) (fin _ _ ⟨S12, (lo, hi, k), _, ⟨hle, bhi, ?_⟩, rfl⟩)
      rcases hk with h | h | h
      · exact .inl h
      · exact absurd h ek
      · exact .inr (.inl h)
  rintro σ H3 ⟨S3, o, x, hg, rfl⟩
  exact ⟨_, rfl, _, rfl, _, rfl, (by show 3 ≤ sizeLine; decide), fun t ht => q o t _ (S3.trans (same_new ht _)) hg upd_same⟩
end

end My

set_option Elab.async false
set_option linter.all false
set_option maxRecDepth 100000
set_option maxHeartbeats 4000000
namespace My
open PySem L2



/-! pieces -/

theorem rno_at {l : List Nat} {r p : Nat} (hr : r ≤ l.count 10) (h1 : begAt l r ≤ p) (h2 : p ≤ endAt l r) : rno l p = r := by
  have he := end_le (l := l) (i := r) (by omega)
  have hp : p ≤ l.length := by omega
  have a1 := (head_le hp (j := r) (by omega)).mp h1
  have a2 : ¬ (r + 1 ≤ rno l p) := fun z => by
    have := (head_le hp (j := r + 1) (by omega)).mpr z
    have e : begAt l (r + 1) = endAt l r + 1 := rfl
    omega
  omega
section
variable {P : Program} {w : World} {K : PySem.W.Frag} {mg : Str → Option Value} {base : Heap} {f : Addr} {fd : FuncData}
end

end My

set_option Elab.async false
set_option linter.all false
set_option maxRecDepth 100000
set_option maxHeartbeats 4000000
namespace My
open PySem L2



/-! the law's own pieces and shelf -/

def cutT (l : List Nat) (a b : Nat) : List Nat := (l.drop a).take (b - a)
theorem rows_is {l : List Nat} {r : Nat} (h : r ≤ l.count 10) : atI (rowsV l) (r : Int) = some (.str (S (cutT l (begAt l r) (endAt l r)))) := by
  refine atI_nat ?_
  unfold rowsV splitL
  have z : ((starts l).zip (stops l))[r]? = some (begAt l r, endAt l r) := by
    rw [List.getElem?_zip_eq_some]
    exact ⟨starts_at (by omega), stops_at (by omega)⟩
  rw [List.getElem?_map, List.getElem?_map, z]
  rfl
theorem cutT_len {l : List Nat} {a b : Nat} (h : b ≤ l.length) : (cutT l a b).length = b - a := by
  unfold cutT
  rw [List.length_take, List.length_drop]
  omega
theorem cutT_le (l : List Nat) (a b : Nat) : (cutT l a b).length ≤ l.length := by
  unfold cutT
  rw [List.length_take, List.length_drop]
  omega
def txtsV (ts : List (List Nat)) : List V := ts.map fun r => V.str (S r)
def sp_lshelf : Sp := fun vs H Q _ => (vs = [.non, .non] ∧ ∀ H', Same H H' → Q (.bl true) H') ∨ ∃ (u v B D : Addr) (k : List Nat) (ts : List (List Nat)), vs = [.ref u, .ref v] ∧ H u = some (.tup [.str (S k), .ref B]) ∧ H v = some (.tup [.str (S k), .ref D]) ∧ H B = some (.lst (txtsV ts)) ∧ H D = some (.lst (txtsV ts)) ∧ ts.length ≤ 1000 ∧ ∀ H', Same H H' → Q (.bl true) H'
theorem txts_flat (ts : List (List Nat)) : (txtsV ts).all flatV = true ∧ eqs (txtsV ts) (txtsV ts) = true := by
  induction ts with
  | nil => exact ⟨rfl, rfl⟩
  | cons r ts ih =>
    obtain ⟨h1, h2⟩ := ih
    refine ⟨?_, ?_⟩
    · show (flatV (.str (S r)) && (txtsV ts).all flatV) = true
      rw [h1]
      rfl
    · show (eqV (.str (S r)) (.str (S r)) && eqs (txtsV ts) (txtsV ts)) = true
      rw [h2, eqV_self (x := .str (S r)) rfl]
      rfl
section
variable {P : Program} {w : World} {K : PySem.W.Frag} {mg : Str → Option Value} {base : Heap} {f : Addr} {fd : FuncData}
theorem sc__law_shelf : FnScope ["_law_found", "_law_due"] ["_law_found", "_law_due"] (defScope s__law_shelf) := ⟨rfl, rfl, rfl, by decide +kernel, rfl, by decide +kernel, by decide +kernel⟩
theorem ok_lshelf (F : Fun K "_law_shelf" "_law_shelf" s__law_shelf f fd) (m_len : mg "len" = none) (m_isinstance : mg "isinstance" = none) (m_str : mg "str" = none) (m_tuple : mg "tuple" = none) (m_list : mg "list" = none) : FnOk P w K mg base CX0 1 f fd ["_law_found", "_law_due"] sp_lshelf := by
  refine F.ok sc__law_shelf (fun vs H Q E h => ?_) (fun cdv A outer s H vs Q E hr h => ?_)
  · rcases h with ⟨rfl, _⟩ | ⟨u, v, B, D, k, ts, rfl, _⟩ <;> rfl
  refine ⟨_, (pss_cons (ps_if (pt_cmpR op_isN (pv 1) pe_non (nomark _)) (pss_one (ps_ret (pe_cmpR op_isN (pv 0) pe_non (nomark _)))) pss_nil)
      (pss_cons (ps_if (PW.pt (pw_or (pt_not (pt_val (pe_callB call_isi (by rfl) m_isinstance boot_isi (pa_cons (pv 0) (pa_cons (pe_bltn (v := .ty "tuple") (by rfl) m_tuple boot_tuple rfl) pa_nil))))) (pw_or (pt_cmpR op_ne (pe_callB call_len_seq (by rfl) m_len PySem.boot_len (pa_cons (pv 0) pa_nil)) pe_int (nomark _)) (pw_or1 (pt_not (pt_val (pe_callB call_isi (by rfl) m_isinstance boot_isi (pa_cons (pe_ix ix_tup (pv 0) pe_int (fun _ _ => rfl)) (pa_cons (pe_bltn (v := .ty "str") (by rfl) m_str boot_str rfl) pa_nil))))))))) (pss_one (ps_ret pe_bl)) pss_nil)
      (pss_cons (ps_if (PW.pt (pw_or (pt_not (pt_val (pe_callB call_isi (by rfl) m_isinstance boot_isi (pa_cons (pe_ix ix_tup (pv 0) pe_int (fun _ _ => rfl)) (pa_cons (pe_bltn (v := .ty "list") (by rfl) m_list boot_list rfl) pa_nil))))) (pw_or1 (pt_cmpR op_gt (pe_callB call_len_seq (by rfl) m_len PySem.boot_len (pa_cons (pe_comp ["_law_one"] _ [] rfl (cl_none ["_law_one"] (by decide +kernel) rfl (by decide +kernel)) (pi_list (pe_ix ix_tup (pv 0) pe_int (fun _ _ => rfl))) (fun _ _ _ _ => pg_name (i := 0) (nd1 _) rfl (Or.inl rfl)) (fun _ _ _ _ => (pif_one (pt_not (pt_val (pe_callB (call_isiK (K := K) rfl) (by rfl) m_isinstance boot_isi (pa_cons (pv 0) (pa_cons (pe_bltn (v := .ty "str") (by rfl) m_str boot_str rfl) pa_nil))))))) (fun _ _ _ _ => (pv 0))) pa_nil)) pe_int (nomark _))))) (pss_one (ps_ret pe_bl)) pss_nil)
      (pss_one (ps_ret (pe_cmpR (op_eqS hr.u1) (pv 0) (pv 1) (nomark _))))))), ?_⟩
  rcases h with ⟨rfl, q⟩ | ⟨u, v, B, D, k, ts, rfl, hu, hv, hB, hD, hts, q⟩
  · refine ⟨_, rfl, rfl, _, rfl, iteDT rfl ⟨_, rfl, rfl, ?_⟩⟩
    rw [decide_eq_true rfl]
    exact q H (Same.refl _)
  refine ⟨_, rfl, rfl, _, rfl, iteDF (fun z => by cases z) ?_⟩
  refine ⟨_, rfl, _, _, _, _, rfl, ⟨_, .inl rfl⟩, .tup hu, kit_tt, _, rfl, iteF ?_⟩
  refine ⟨_, rfl, u, _, rfl, .inr (SqT.of hu), rfl, _, rfl, iteF ?_⟩
  refine ⟨_, rfl, u, _, _, _, rfl, rfl, SqT.of hu, rfl, _, _, _, _, rfl, ⟨_, .inl rfl⟩, .str _, kit_ss, _, rfl, iteF ?_⟩
  refine ⟨_, rfl, u, _, _, _, rfl, rfl, SqT.of hu, rfl, _, _, _, _, rfl, ⟨_, .inl rfl⟩, .lst hB, kit_ll, _, rfl, iteF ?_⟩
  refine ⟨_, rfl, u, _, _, _, rfl, rfl, SqT.of hu, rfl, B, rfl, ⟨_, SqL.of hB⟩, fun N hN => ?_⟩
  refine comp_list (xs := txtsV ts) (fun i σ H' => (∃ x : Option V, σ = [x]) ∧ Same H H' ∧ H' N = some (.lst [])) ⟨⟨none, rfl⟩, same_new hN _, upd_same⟩ (fun i σ H' _ h => h.2.1.seq (SqL.of hB)) ?_ ?_
  · rintro i x σ H' hx ⟨⟨y, rfl⟩, SS, hN'⟩
    obtain ⟨r, _, rfl⟩ := List.mem_map.mp (List.mem_of_getElem? hx)
    exact ⟨_, rfl, _, _, _, _, rfl, ⟨_, .inl rfl⟩, .str _, kit_ss, _, rfl, iteF ⟨⟨_, rfl⟩, SS, hN'⟩⟩
  rintro σ H1 ⟨_, S1, hN1⟩
  refine ⟨N, _, rfl, .inl (SqL.of hN1), _, _, rfl, rfl, _, rfl, iteDF (by decide) ?_⟩
  obtain ⟨f1, f2⟩ := txts_flat ts
  refine ⟨_, rfl, _, rfl, u, v, _, _, rfl, rfl, .inr ⟨SqT.of (S1 _ _ hu), SqT.of (S1 _ _ hv)⟩, rfl, fun j a b ea eb => ?_, q H1 S1⟩
  match j, ea, eb with
  | 0, ea, eb =>
    cases ea
    cases eb
    exact .inl ⟨rfl, rfl, eqV_self rfl⟩
  | 1, ea, eb =>
    cases ea
    cases eb
    exact .inr ⟨B, D, txtsV ts, rfl, rfl, .inl ⟨SqL.of (S1 _ _ hB), SqL.of (S1 _ _ hD)⟩, f1, f2⟩
end

end My

set_option Elab.async false
set_option linter.all false
set_option maxRecDepth 100000
set_option maxHeartbeats 4000000
namespace My
open PySem L2



/-! the law's own comparison of what a verb tells -/

abbrev Spl := Nat × List Nat × List Nat
def splV (sps : List Spl) : List (List V) := sps.map fun s => [nV s.1, .str (S s.2.1), .str (S s.2.2)]
def sp_lwhole : Sp := fun vs H Q _ => ∃ i : Int, vs = [.int i] ∧ Q (.bl true) H
def sp_lsplices : Sp := fun vs H Q _ => ∃ (D E : Addr) (sps : List Spl), vs = [.ref D, .ref E] ∧ TupsV H D (splV sps) ∧ TupsV H E (splV sps) ∧ Q (.bl true) H
theorem spl_flat (s : Spl) : ([nV s.1, .str (S s.2.1), .str (S s.2.2)] : List V).all flatV = true ∧ eqs [nV s.1, .str (S s.2.1), .str (S s.2.2)] [nV s.1, .str (S s.2.1), .str (S s.2.2)] = true := by
  refine ⟨rfl, ?_⟩
  show (eqV (nV s.1) (nV s.1) && (eqV (.str (S s.2.1)) (.str (S s.2.1)) && (eqV (.str (S s.2.2)) (.str (S s.2.2)) && true))) = true
  rw [eqV_self (x := nV s.1) rfl, eqV_self (x := .str (S s.2.1)) rfl, eqV_self (x := .str (S s.2.2)) rfl]
  rfl
theorem splV_at {sps : List Spl} {i : Nat} {t : List V} (h : (splV sps)[i]? = some t) : ∃ s, sps[i]? = some s ∧ t = [nV s.1, .str (S s.2.1), .str (S s.2.2)] := by
  unfold splV at h
  rw [List.getElem?_map] at h
  cases e : sps[i]? with
  | none => rw [e] at h; cases h
  | some s => rw [e] at h; exact ⟨s, rfl, (Option.some.inj h).symm⟩
section
variable {P : Program} {w : World} {K : PySem.W.Frag} {mg : Str → Option Value} {base : Heap} {f : Addr} {fd : FuncData}
theorem sc__law_whole : FnScope ["_law_found"] ["_law_found"] (defScope s__law_whole) := ⟨rfl, rfl, rfl, by decide +kernel, rfl, by decide +kernel, by decide +kernel⟩
theorem ok_lwhole (F : Fun K "_law_whole" "_law_whole" s__law_whole f fd) (m_isinstance : mg "isinstance" = none) (m_int : mg "int" = none) (m_bool : mg "bool" = none) : FnOk P w K mg base CX0 1 f fd ["_law_found"] sp_lwhole := by
  refine F.ok sc__law_whole (fun vs H Q E h => ?_) (fun cdv A outer s H vs Q E hr h => ?_)
  · obtain ⟨x, rfl, _⟩ := h
    rfl
  obtain ⟨x, rfl, q⟩ := h
  refine ⟨_, (pss_one (ps_ret (pe_and (pe_callB call_isi (by rfl) m_isinstance boot_isi (pa_cons (pv 0) (pa_cons (pe_bltn (v := .ty "int") (by rfl) m_int boot_int rfl) pa_nil))) (pe_one (pe_not (pe_callB call_isi (by rfl) m_isinstance boot_isi (pa_cons (pv 0) (pa_cons (pe_bltn (v := .ty "bool") (by rfl) m_bool boot_bool rfl) pa_nil)))))))), ?_⟩
  refine ⟨_, rfl, _, _, _, _, rfl, ⟨_, .inl rfl⟩, .int x, kit_ii, _, rfl, iteT ?_⟩
  exact ⟨_, rfl, _, _, _, _, rfl, ⟨_, .inl rfl⟩, .int x, kit_ib, _, rfl, q⟩
theorem sc__law_splices : FnScope ["_law_found", "_law_due", "_law_splice"] ["_law_found", "_law_due"] (defScope s__law_splices) := ⟨rfl, rfl, rfl, by decide +kernel, rfl, by decide +kernel, by decide +kernel⟩
theorem ok_lsplices (F : Fun K "_law_splices" "_law_splices" s__law_splices f fd) (O__law_whole : Own P w K mg base CX0 1 "_law_whole" ["_law_found"] sp_lwhole) (m_len : mg "len" = none) (m_isinstance : mg "isinstance" = none) (m_str : mg "str" = none) (m_tuple : mg "tuple" = none) (m_list : mg "list" = none) : FnOk P w K mg base CX0 2 f fd ["_law_found", "_law_due"] sp_lsplices := by
  refine F.ok sc__law_splices (fun vs H Q E h => ?_) (fun cdv A outer s H vs Q E hr h => ?_)
  · obtain ⟨D, E, sps, rfl, _⟩ := h
    rfl
  obtain ⟨D, E, sps, rfl, hD, hE, q⟩ := h
  obtain ⟨xs, hx, hxl, hxa⟩ := hD.mem
  obtain ⟨ys, hy, hyl, _⟩ := hE.mem
  refine ⟨_, (pss_cons (ps_if (PW.pt (pw_or (pt_not (pt_val (pe_callB call_isi (by rfl) m_isinstance boot_isi (pa_cons (pv 0) (pa_cons (pe_bltn (v := .ty "list") (by rfl) m_list boot_list rfl) pa_nil))))) (pw_or1 (pt_cmpR op_ne (pe_callB call_len_seq (by rfl) m_len PySem.boot_len (pa_cons (pv 0) pa_nil)) (pe_callB call_len_seq (by rfl) m_len PySem.boot_len (pa_cons (pv 1) pa_nil)) (nomark _))))) (pss_one (ps_ret pe_bl)) pss_nil)
      (pss_cons (ps_for PassesOwn.never rfl (pi_list (pv 0)) (pg_name (i := 2) sc__law_splices.nd rfl (Or.inl rfl)) (pss_cons (ps_if (PW.pt (pw_or (pt_not (pt_val (pe_callB call_isi (by rfl) m_isinstance boot_isi (pa_cons (pv 2) (pa_cons (pe_bltn (v := .ty "tuple") (by rfl) m_tuple boot_tuple rfl) pa_nil))))) (pw_or (pt_cmpR op_ne (pe_callB call_len_seq (by rfl) m_len PySem.boot_len (pa_cons (pv 2) pa_nil)) pe_int (nomark _)) (pw_or1 (pt_not (pt_val (pe_own O__law_whole hr (by rfl) pass0 (pa_cons (pe_ix ix_tup (pv 2) pe_int (fun _ _ => rfl)) pa_nil)))))))) (pss_one (ps_ret pe_bl)) pss_nil)
      (pss_one (ps_if (PW.pt (pw_or (pt_not (pt_val (pe_callB call_isi (by rfl) m_isinstance boot_isi (pa_cons (pe_ix ix_tup (pv 2) pe_int (fun _ _ => rfl)) (pa_cons (pe_bltn (v := .ty "str") (by rfl) m_str boot_str rfl) pa_nil))))) (pw_or1 (pt_not (pt_val (pe_callB call_isi (by rfl) m_isinstance boot_isi (pa_cons (pe_ix ix_tup (pv 2) pe_int (fun _ _ => rfl)) (pa_cons (pe_bltn (v := .ty "str") (by rfl) m_str boot_str rfl) pa_nil)))))))) (pss_one (ps_ret pe_bl)) pss_nil))))
      (pss_one (ps_ret (pe_cmpR (op_eqP hr.u1) (pv 0) (pv 1) (nomark _)))))), ?_⟩
  refine ⟨_, rfl, _, _, _, _, rfl, ⟨_, .inl rfl⟩, .lst hx, kit_ll, _, rfl, iteF ?_⟩
  refine ⟨_, rfl, D, _, rfl, .inl (SqL.of hx), _, rfl, E, _, rfl, .inl (SqL.of hy), rfl, _, rfl, iteNS ?_ ?_⟩
  · show V.int ((xs.length : Nat) : Int) = V.int ((ys.length : Nat) : Int)
    rw [hxl, hyl]
  refine ⟨_, rfl, D, rfl, ⟨_, SqL.of hx⟩, ?_⟩
  refine for_list (xs := xs) (fun i σ H' => H = H' ∧ ∃ x : Option V, σ = [some (.ref D), some (.ref E), x]) ⟨rfl, none, rfl⟩ (fun i σ H' _ h => by rw [← h.1]; exact SqL.of hx) ?_ ?_
  · rintro i v σ H' hv ⟨rfl, x, rfl⟩
    obtain ⟨t, tt, rfl, h1, ht⟩ := hxa i v hv
    obtain ⟨s, _, rfl⟩ := splV_at h1
    refine ⟨_, rfl, _, _, _, _, rfl, ⟨_, .inl rfl⟩, .tup ht, kit_tt, _, rfl, iteF ?_⟩
    refine ⟨_, rfl, t, _, rfl, .inr (SqT.of ht), rfl, _, rfl, iteF ?_⟩
    refine ⟨_, rfl, t, _, _, _, rfl, rfl, SqT.of ht, rfl, _, rfl, _, rfl, iteF ?_⟩
    refine ⟨_, rfl, t, _, _, _, rfl, rfl, SqT.of ht, rfl, _, _, _, _, rfl, ⟨_, .inl rfl⟩, .str _, kit_ss, _, rfl, iteF ?_⟩
    exact ⟨_, rfl, t, _, _, _, rfl, rfl, SqT.of ht, rfl, _, _, _, _, rfl, ⟨_, .inl rfl⟩, .str _, kit_ss, _, rfl, iteF ⟨rfl, _, rfl⟩⟩
  · rintro σ H' ⟨rfl, x, rfl⟩
    obtain ⟨as, a1, a2, a3⟩ := hD
    obtain ⟨bs, b1, b2, b3⟩ := hE
    refine ⟨_, rfl, _, rfl, D, E, as, bs, rfl, rfl, SqL.of a1, SqL.of b1, by rw [a2, b2], fun j a b ea eb => ?_, q⟩
    have hj : j < (splV sps).length := by rw [← a2]; exact (List.getElem?_eq_some_iff.mp ea).1
    have e := List.getElem?_eq_getElem hj
    obtain ⟨s, _, es⟩ := splV_at e
    obtain ⟨f1, f2⟩ := spl_flat s
    rw [es] at e
    exact ⟨_, SqT.of (a3 j a _ ea e), SqT.of (b3 j b _ eb e), f1, f2⟩
end

abbrev Shf := Option (List Nat × List (List Nat))
def ShV (H : Hp) (sh : Shf) (x : V) : Prop := match sh with
  | none => x = .non
  | some (k, ts) => ∃ w B, x = .ref w ∧ H w = some (.tup [.str (S k), .ref B]) ∧ H B = some (.lst (txtsV ts)) ∧ ts.length ≤ 1000
def sp_told4 : Sp := fun vs H Q _ => ∃ (u D E : Addr) (sps : List Spl) (p : Nat) (sh : Shf) (x y : V), vs = [.ref u, .ref E, .int (p : Int), y] ∧ H u = some (.tup [.ref D, nV p, x]) ∧ TupsV H D (splV sps) ∧ TupsV H E (splV sps) ∧ ShV H sh x ∧ ShV H sh y ∧ ∀ H', Same H H' → Q (.bl true) H'
section
variable {P : Program} {w : World} {K : PySem.W.Frag} {mg : Str → Option Value} {base : Heap} {f : Addr} {fd : FuncData}
theorem sc__law_told : FnScope ["_law_found", "_law_splices_here", "_law_place", "_law_shelf_here"] ["_law_found", "_law_splices_here", "_law_place", "_law_shelf_here"] (defScope s__law_told) := ⟨rfl, rfl, rfl, by decide +kernel, rfl, by decide +kernel, by decide +kernel⟩
theorem ok_told4 (F : Fun K "_law_told" "_law_told" s__law_told f fd) (O__law_whole : Own P w K mg base CX0 1 "_law_whole" ["_law_found"] sp_lwhole) (O__law_splices : Own P w K mg base CX0 2 "_law_splices" ["_law_found", "_law_due"] sp_lsplices) (O__law_shelf : Own P w K mg base CX0 1 "_law_shelf" ["_law_found", "_law_due"] sp_lshelf) (m_len : mg "len" = none) (m_isinstance : mg "isinstance" = none) (m_tuple : mg "tuple" = none) : FnOk P w K mg base CX0 3 f fd ["_law_found", "_law_splices_here", "_law_place", "_law_shelf_here"] sp_told4 := by
  refine F.ok sc__law_told (fun vs H Q E h => ?_) (fun cdv A outer s H vs Q E hr h => ?_)
  · obtain ⟨u, D, E, sps, p, sh, x, y, rfl, _⟩ := h
    rfl
  obtain ⟨u, D, E, sps, p, sh, x, y, rfl, hu, hD, hE, hx, hy, q⟩ := h
  refine ⟨_, (pss_cons (ps_if (PW.pt (pw_or (pt_not (pt_val (pe_callB call_isi (by rfl) m_isinstance boot_isi (pa_cons (pv 0) (pa_cons (pe_bltn (v := .ty "tuple") (by rfl) m_tuple boot_tuple rfl) pa_nil))))) (pw_or (pt_cmpR op_ne (pe_callB call_len_seq (by rfl) m_len PySem.boot_len (pa_cons (pv 0) pa_nil)) pe_int (nomark _)) (pw_or1 (pt_not (pt_val (pe_own O__law_splices hr (by rfl) pass0 (pa_cons (pe_ix ix_tup (pv 0) pe_int (fun _ _ => rfl)) (pa_cons (pv 1) pa_nil))))))))) (pss_one (ps_ret pe_bl)) pss_nil)
      (pss_one (ps_ret (pe_and (pe_own O__law_whole hr (by rfl) pass0 (pa_cons (pe_ix ix_tup (pv 0) pe_int (fun _ _ => rfl)) pa_nil)) (pe_and (pe_cmpR op_eq (pe_ix ix_tup (pv 0) pe_int (fun _ _ => rfl)) (pv 2) (nomark _)) (pe_one (pe_own O__law_shelf hr (by rfl) pass0 (pa_cons (pe_ix ix_tup (pv 0) pe_int (fun _ _ => rfl)) (pa_cons (pv 3) pa_nil))))))))), ?_⟩
  refine ⟨_, rfl, _, _, _, _, rfl, ⟨_, .inl rfl⟩, .tup hu, kit_tt, _, rfl, iteF ?_⟩
  refine ⟨_, rfl, u, _, rfl, .inr (SqT.of hu), rfl, _, rfl, iteF ?_⟩
  refine ⟨_, rfl, u, _, _, _, rfl, rfl, SqT.of hu, rfl, _, rfl, D, E, sps, rfl, hD, hE, _, rfl, iteF ?_⟩
  refine ⟨_, rfl, u, _, _, _, rfl, rfl, SqT.of hu, rfl, (p : Int), rfl, _, rfl, iteT ?_⟩
  refine ⟨_, rfl, u, _, _, _, rfl, rfl, SqT.of hu, rfl, _, rfl, rfl, _, rfl, iteDT rfl ?_⟩
  refine ⟨_, rfl, u, _, _, _, rfl, rfl, SqT.of hu, rfl, _, rfl, ?_⟩
  cases sh with
  | none =>
    cases hx
    cases hy
    exact .inl ⟨rfl, q⟩
  | some kt =>
    obtain ⟨w1, B1, rfl, h1, h2, h3⟩ := hx
    obtain ⟨w2, B2, rfl, h4, h5, _⟩ := hy
    exact .inr ⟨w1, w2, B1, B2, kt.1, kt.2, rfl, h1, h4, h2, h5, h3, q⟩
end

/-! what done is to tell -/

abbrev Res := Option (List Spl × Nat × Shf)
def ShN (H H' : Hp) (sh : Shf) (x : V) : Prop := match sh with
  | none => x = .non
  | some (k, ts) => ∃ w B, x = .ref w ∧ H' w = some (.tup [.str (S k), .ref B]) ∧ H' B = some (.lst (txtsV ts)) ∧ ts.length ≤ 1000 ∧ H B = none
def DoneV (H H' : Hp) (v : V) : Res → Prop
  | none => v = .non
  | some (sps, p, sh) => ∃ u D x, v = .ref u ∧ H' u = some (.tup [.ref D, nV p, x]) ∧ TupsV H' D (splV sps) ∧ ShN H H' sh x ∧ H D = none
def sp_doneK (ks : Nat → Prop) (vb : Nat → List Nat → (Nat × Nat × List Nat) → List Nat → Res) : Sp := fun vs H Q _ => ∃ (k : Nat) (t : Addr) (l : List Nat) (o : Nat × Nat × List Nat) (ty : List Nat), vs = [.str (S [k]), .str (S l), .ref t, .str (S ty)] ∧ ks k ∧ H t = some (.tup [nV o.1, nV o.2.1, .str (S o.2.2)]) ∧ l.length ≤ 600 ∧ (∀ c ∈ l, c < 128) ∧ StGood l o ∧ ty.length ≤ 1000 ∧ ∀ v H', Same H H' → DoneV H H' v (vb k l o ty) → Q v H'
/-! what the program's verbs are to tell -/

def lastR (l : List Nat) (o : Nat × Nat × List Nat) : Nat := rno l (if o.2.2 = cRows ∧ o.1 < o.2.1 then o.2.1 - 1 else o.2.1)
def sp_rows_in : Sp := fun vs H Q _ => ∃ (t : Addr) (l : List Nat) (o : Nat × Nat × List Nat), vs = [.str (S l), .ref t] ∧ H t = some (.tup [nV o.1, nV o.2.1, .str (S o.2.2)]) ∧ l.length ≤ 1000 ∧ StGood l o ∧ ∀ u H', Same H H' → H' u = some (.tup [nV (rno l o.1), nV (lastR l o)]) → Q (.ref u) H'
end My

set_option Elab.async false
set_option linter.all false
set_option maxRecDepth 100000
set_option maxHeartbeats 4000000
namespace My
open PySem L2



/-! the law's own rows of a stretch, two at the least -/

def botJ (l : List Nat) (o : Nat × Nat × List Nat) : Nat := max (rno l o.1 + 1) (lastR l o)
def sp_lrows : Sp := fun vs H Q _ => ∃ (R t : Addr) (l : List Nat) (o : Nat × Nat × List Nat), vs = [.ref R, .ref t] ∧ H R = some (.lst (rowsV l)) ∧ H t = some (.tup [nV o.1, nV o.2.1, .str (S o.2.2)]) ∧ l.length ≤ 1000 ∧ o.1 ≤ o.2.1 ∧ o.2.1 ≤ l.length ∧ ∀ u H', Same H H' → H' u = some (.tup [nV (rno l o.1), nV (botJ l o)]) → Q (.ref u) H'
section
variable {P : Program} {w : World} {K : PySem.W.Frag} {mg : Str → Option Value} {base : Heap} {f : Addr} {fd : FuncData}
theorem sc__law_rows : FnScope ["_law_rows_here", "_law_one", "_law_low", "_law_high", "_law_kind", "_law_top"] ["_law_rows_here", "_law_one"] (defScope s__law_rows) := ⟨rfl, rfl, rfl, by decide +kernel, rfl, by decide +kernel, by decide +kernel⟩
theorem ok_lrows (F : Fun K "_law_rows" "_law_rows" s__law_rows f fd) (O__law_at : Own P w K mg base CX0 1 "_law_at" ["_law_rows_here", "_law_place"] sp_at) (m_max : mg "max" = none) : FnOk P w K mg base CX0 2 f fd ["_law_rows_here", "_law_one"] sp_lrows := by
  refine F.ok sc__law_rows (fun vs H Q E h => ?_) (fun cdv A outer s H vs Q E hr h => ?_)
  · obtain ⟨R, t, l, o, rfl, _⟩ := h
    rfl
  obtain ⟨R, t, l, ⟨a, b, k⟩, rfl, hR, ht, hl, hab, hb, q⟩ := h
  dsimp only at ht hab hb
  refine ⟨_, (pss_cons (ps_asg (pv 1) (pg_tup rfl (pgs_cons (pg_name (i := 2) sc__law_rows.nd rfl (Or.inl rfl)) (pgs_cons (pg_name (i := 3) sc__law_rows.nd rfl (Or.inl rfl)) (pgs_cons (pg_name (i := 4) sc__law_rows.nd rfl (Or.inl rfl)) pgs_nil)))))
      (pss_cons (ps_if (PW.pt (pw_and (pt_cmpR op_eq (pv 4) pe_str (nomark _)) (pw_and1 (pt_cmpR op_lt (pv 2) (pv 3) (nomark _))))) (pss_one (ps_set (i := 3) sc__law_rows.nd rfl (Or.inl rfl) (pe_op op_sub (pv 3) pe_int))) pss_nil)
      (pss_cons (ps_set (i := 5) sc__law_rows.nd rfl (Or.inl rfl) (pe_ix ix_tup (pe_own O__law_at hr (by rfl) pass0 (pa_cons (pv 0) (pa_cons (pv 2) pa_nil))) pe_int (fun _ _ => rfl)))
      (pss_one (ps_ret (pe_tup (pa_cons (pv 5) (pa_cons (pe_callB (call_max2 (by rfl)) (by rfl) m_max boot_max (pa_cons (pe_op op_add (pv 5) pe_int) (pa_cons (pe_ix ix_tup (pe_own O__law_at hr (by rfl) pass0 (pa_cons (pv 0) (pa_cons (pv 3) pa_nil))) pe_int (fun _ _ => rfl)) pa_nil))) pa_nil)))))))), ?_⟩
  refine ⟨_, rfl, t, _, rfl, SqT.of ht, rfl, _, _, rfl, _, _, rfl, _, _, rfl, rfl, ?_⟩
  obtain ⟨c, hc, hcb⟩ : ∃ c : Nat, c = (if k = cRows ∧ a < b then b - 1 else b) ∧ c ≤ b := ⟨_, rfl, by split <;> omega⟩
  refine seq_at (seq_to (fun σ H' => H = H' ∧ σ = [some (.ref R), some (.ref t), some (nV a), some (nV c), some (.str (S k)), none]) (fun nx fin => ?_) ?_)
  · refine ⟨_, rfl, rfl, _, rfl, ?_⟩
    by_cases ek : k = cRows
    · subst ek
      refine iteDT rfl ⟨_, rfl, _, rfl, (a : Int), (b : Int), rfl, rfl, _, rfl, ?_⟩
      by_cases z : a < b
      · rw [if_pos ⟨rfl, z⟩] at hc
        subst hc
        refine iteDT (by omega) ⟨_, rfl, (b : Int), _, rfl, rfl, fin _ _ ⟨rfl, ?_⟩⟩
        show _ = [_, _, _, some (V.int ((b - 1 : Nat) : Int)), _, _]
        rw [show ((b - 1 : Nat) : Int) = (b : Int) - 1 by omega]
        rfl
      · rw [if_neg (fun h => z h.2)] at hc
        subst hc
        exact iteDF (by omega) (fin _ _ ⟨rfl, rfl⟩)
    · rw [if_neg (fun h => ek h.1)] at hc
      subst hc
      exact iteDF (fun z => ek (S_inj (V.str.inj z))) (iteF (fin _ _ ⟨rfl, rfl⟩))
  rintro σ H' ⟨rfl, rfl⟩
  have e : botJ l (a, b, k) = max (rno l a + 1) (rno l c) := by unfold botJ lastR; rw [hc]
  rw [e] at q
  refine ⟨_, rfl, _, rfl, R, l, a, rfl, hR, hl, by omega, fun t1 H1 S1 ht1 => ?_⟩
  refine ⟨t1, _, _, _, rfl, rfl, SqT.of ht1, rfl, ?_⟩
  refine ⟨_, rfl, _, rfl, ((rno l a : Nat) : Int), _, rfl, rfl, _, rfl, _, rfl, R, l, c, rfl, S1 _ _ hR, hl, by omega, fun t2 H2 S2 ht2 => ?_⟩
  refine ⟨t2, _, _, _, rfl, rfl, SqT.of ht2, rfl, ((rno l a : Nat) : Int) + 1, ((rno l c : Nat) : Int), rfl, (by show 2 ≤ sizeLine; decide), fun u hu => ?_⟩
  refine q u _ ((S1.trans S2).trans (same_new hu _)) ?_
  rw [upd_same]
  have e2 : (if ((rno l c : Nat) : Int) > ((rno l a : Nat) : Int) + 1 then ((rno l c : Nat) : Int) else ((rno l a : Nat) : Int) + 1) = ((max (rno l a + 1) (rno l c) : Nat) : Int) := by split <;> omega
  rw [e2]
  rfl
end

/-! rows joined -/
def rowT (l : List Nat) (r : Nat) : List Nat := cutT l (begAt l r) (endAt l r)
def walkS (l : List Nat) : List Spl → Option (List Nat)
  | [] => some l
  | s :: rest => if s.1 ≤ l.length ∧ cutT l s.1 (s.1 + s.2.1.length) = s.2.1 then walkS (l.take s.1 ++ s.2.2 ++ l.drop (s.1 + s.2.1.length)) rest else none
def preR (ls : List (List Nat)) : List Nat := (ls.map fun r => r ++ [10]).flatten
def postR (ls : List (List Nat)) : List Nat := (ls.map fun r => 10 :: r).flatten
theorem glue_mid (A : List (List Nat)) (x : List Nat) (C : List (List Nat)) : glue (A ++ x :: C) = preR A ++ (x ++ postR C) := by
  induction A with
  | nil => rfl
  | cons a A ih =>
    have e : glue (a :: (A ++ x :: C)) = a ++ 10 :: glue (A ++ x :: C) := by
      cases A with
      | nil => exact glue_cons _ _ _
      | cons b B => exact glue_cons _ _ _
    show glue (a :: (A ++ x :: C)) = _
    rw [e, ih]
    unfold preR
    simp
theorem take_rowJ {l : List Nat} {r : Nat} (h : r ≤ l.count 10) : l.take (endAt l r) = l.take (begAt l r) ++ rowT l r := by
  have hbe := beg_le (l := l) (i := r) (by omega)
  unfold rowT cutT
  rw [show endAt l r = begAt l r + (endAt l r - begAt l r) by omega, List.take_add, show begAt l r + (endAt l r - begAt l r) - begAt l r = endAt l r - begAt l r by omega]
theorem row_at {l : List Nat} {r : Nat} (h : r ≤ l.count 10) : (splitL l)[r]? = some (rowT l r) := splitL_get h
theorem preR_take {l : List Nat} : ∀ {r : Nat}, r ≤ l.count 10 → preR ((splitL l).take r) = l.take (begAt l r)
  | 0, _ => by simp [preR, begAt]
  | r + 1, h => by
    rw [List.take_add_one, row_at (by omega)]
    have e : preR ((splitL l).take r ++ [rowT l r]) = preR ((splitL l).take r) ++ (rowT l r ++ [10]) := by unfold preR; simp
    show preR ((splitL l).take r ++ [rowT l r]) = l.take (endAt l r + 1)
    obtain ⟨x, hx, hxe⟩ := stop_occ (show r < l.count 10 by omega)
    have h10 : l[endAt l r]? = some 10 := by rw [hxe]; exact occs_has.mp (List.mem_of_getElem? hx)
    rw [e, preR_take (by omega), List.take_succ, h10, take_rowJ (by omega)]
    simp
theorem preR_all (l : List Nat) : preR ((splitL l).take (l.count 10)) ++ rowT l (l.count 10) = l := by
  rw [preR_take (Nat.le_refl _), ← take_rowJ (Nat.le_refl _), stop_last, List.take_length]
theorem split_dec {l : List Nat} {r : Nat} (h : r ≤ l.count 10) : splitL l = (splitL l).take r ++ rowT l r :: (splitL l).drop (r + 1) := by
  have hr : r < (splitL l).length := by rw [splitL_len]; omega
  have e := row_at h
  rw [List.getElem?_eq_getElem hr] at e
  rw [← Option.some.inj e, ← List.drop_eq_getElem_cons hr, List.take_append_drop]
theorem glue_splitL (l : List Nat) : glue (splitL l) = l := by
  have e := split_dec (l := l) (Nat.le_refl _)
  rw [e, glue_mid, List.drop_eq_nil_of_le (by rw [splitL_len]; exact Nat.le_refl _)]
  show _ ++ (_ ++ []) = _
  rw [List.append_nil]
  exact preR_all l
theorem postR_drop {l : List Nat} {r : Nat} (h : r ≤ l.count 10) : postR ((splitL l).drop (r + 1)) = l.drop (endAt l r) := by
  have e := glue_splitL l
  rw [split_dec h, glue_mid, preR_take h, ← List.append_assoc, ← take_rowJ h] at e
  have e2 : l.take (endAt l r) ++ postR ((splitL l).drop (r + 1)) = l.take (endAt l r) ++ l.drop (endAt l r) := by rw [e, List.take_append_drop]
  exact List.append_cancel_left e2
theorem glue_J {l t : List Nat} {tp bt : Nat} (h1 : tp ≤ l.count 10) (h2 : bt ≤ l.count 10) : glue ((splitL l).take tp ++ t :: (splitL l).drop (bt + 1)) = l.take (begAt l tp) ++ (t ++ l.drop (endAt l bt)) := by
  rw [glue_mid, preR_take h1, postR_drop h2]
theorem walk_one (P O N R : List Nat) (rest : List Spl) : walkS (P ++ (O ++ R)) ((P.length, O, N) :: rest) = walkS (P ++ (N ++ R)) rest := by
  have e1 : cutT (P ++ (O ++ R)) P.length (P.length + O.length) = O := by
    unfold cutT
    rw [List.drop_left, Nat.add_sub_cancel_left, List.take_left]
  have e2 : (P ++ (O ++ R)).take P.length ++ N ++ (P ++ (O ++ R)).drop (P.length + O.length) = P ++ (N ++ R) := by
    rw [List.take_left, ← List.append_assoc P O R, ← List.length_append, List.drop_left, List.append_assoc]
  show (if _ then walkS _ rest else none) = _
  rw [if_pos ⟨by rw [List.length_append]; exact Nat.le_add_right _ _, e1⟩]
  exact congrArg (fun z => walkS z rest) e2
def noB (t : List Nat) : List Nat := t.dropWhile (· == 32)
def blkN (t : List Nat) : Nat := (t.takeWhile (· == 32)).length
def tailJ (l : List Nat) (bt : Nat) : Nat → List Nat
  | 0 => rowT l bt
  | i + 1 => rowT l (bt - (i + 1)) ++ 32 :: noB (tailJ l bt i)
def splJ (l : List Nat) (bt i : Nat) : Spl := (begAt l (bt - i) - 1, 10 :: List.replicate (blkN (tailJ l bt i)) 32, [32])
def TJ (l : List Nat) (bt i : Nat) : List Nat := l.take (begAt l (bt - i)) ++ (tailJ l bt i ++ l.drop (endAt l bt))
theorem blk_rep (t : List Nat) : t = List.replicate (blkN t) 32 ++ noB t := by
  unfold blkN noB
  induction t with
  | nil => rfl
  | cons c t ih =>
    rw [List.takeWhile_cons, List.dropWhile_cons]
    by_cases h : c = 32
    · subst h
      rw [if_pos (by rfl), if_pos (by rfl), List.length_cons, List.replicate_succ, List.cons_append, ← ih]
    · have e : (c == 32) = false := by simpa using h
      rw [e]
      simp
theorem TJ_step {l : List Nat} {bt i : Nat} (hb : bt ≤ l.count 10) (hi : i < bt) (rest : List Spl) : walkS (TJ l bt i) (splJ l bt i :: rest) = walkS (TJ l bt (i + 1)) rest := by
  obtain ⟨r, hr⟩ : ∃ r, bt - i = r + 1 := ⟨bt - i - 1, by omega⟩
  have hr' : bt - (i + 1) = r := by omega
  have hrc : r < l.count 10 := by omega
  have hel := end_le (l := l) (i := r) (by omega)
  obtain ⟨x, hx, hxe⟩ := stop_occ hrc
  have h10 : l[endAt l r]? = some 10 := by rw [hxe]; exact occs_has.mp (List.mem_of_getElem? hx)
  have e1 : l.take (begAt l (r + 1)) = l.take (endAt l r) ++ [10] := by
    show l.take (endAt l r + 1) = _
    rw [List.take_succ, h10]
    rfl
  have hP : (l.take (endAt l r)).length = endAt l r := by rw [List.length_take]; omega
  have e2 : TJ l bt i = l.take (endAt l r) ++ ((10 :: List.replicate (blkN (tailJ l bt i)) 32) ++ (noB (tailJ l bt i) ++ l.drop (endAt l bt))) := by
    unfold TJ
    rw [hr, e1]
    have := blk_rep (tailJ l bt i)
    generalize blkN (tailJ l bt i) = k at this ⊢
    generalize noB (tailJ l bt i) = n at this ⊢
    rw [this]
    simp
  have e3 : splJ l bt i = ((l.take (endAt l r)).length, 10 :: List.replicate (blkN (tailJ l bt i)) 32, [32]) := by
    unfold splJ
    rw [hr, hP]
    rfl
  rw [e2, e3, walk_one]
  congr 1
  unfold TJ
  rw [hr', take_rowJ (by omega)]
  show _ = l.take (begAt l r) ++ ((rowT l (bt - (i + 1)) ++ 32 :: noB (tailJ l bt i)) ++ _)
  rw [hr']
  simp
theorem TJ_zero {l : List Nat} {bt : Nat} (hb : bt ≤ l.count 10) : TJ l bt 0 = l := by
  show l.take (begAt l bt) ++ (rowT l bt ++ l.drop (endAt l bt)) = l
  rw [← List.append_assoc, ← take_rowJ hb, List.take_append_drop]
theorem walk_J {l : List Nat} {bt : Nat} (hb : bt ≤ l.count 10) : ∀ (n i : Nat), i + n ≤ bt → walkS (TJ l bt i) ((List.range' i n).map (splJ l bt)) = some (TJ l bt (i + n))
  | 0, i, _ => rfl
  | n + 1, i, h => by
    rw [List.range'_succ, List.map_cons, TJ_step hb (by omega), walk_J hb n (i + 1) (by omega), show i + 1 + n = i + (n + 1) by omega]

end My

set_option Elab.async false
set_option linter.all false
set_option maxRecDepth 100000
set_option maxHeartbeats 4000000
namespace My
open PySem L2




def putL (sps : List Spl) : Nat := (sps.map fun s => s.2.2.length).sum
def sp_walked : Sp := fun vs H Q _ => ∃ (D : Addr) (l l' : List Nat) (sps : List Spl), vs = [.str (S l), .ref D] ∧ TupsV H D (splV sps) ∧ walkS l sps = some l' ∧ l.length + putL sps ≤ 100000 ∧ (∀ s ∈ sps, s.2.1.length ≤ 100000) ∧ Q (.str (S l')) H
section
variable {P : Program} {w : World} {K : PySem.W.Frag} {mg : Str → Option Value} {base : Heap} {f : Addr} {fd : FuncData}
theorem sc__law_walked : FnScope ["_law_text_here", "_law_splices_here", "_law_at_here", "_law_out", "_law_new"] ["_law_text_here", "_law_splices_here"] (defScope s__law_walked) := ⟨rfl, rfl, rfl, by decide +kernel, rfl, by decide +kernel, by decide +kernel⟩
theorem ok_walked (F : Fun K "_law_walked" "_law_walked" s__law_walked f fd) (m_len : mg "len" = none) : FnOk P w K mg base CX0 1 f fd ["_law_text_here", "_law_splices_here"] sp_walked := by
  refine F.ok sc__law_walked (fun vs H Q E h => ?_) (fun cdv A outer s H vs Q E hr h => ?_)
  · obtain ⟨D, l, l', sps, rfl, _⟩ := h
    rfl
  obtain ⟨D, l, l', sps, rfl, hD, hw, hl, ho, q⟩ := h
  obtain ⟨xs, hx, hxl, hxa⟩ := hD.mem
  have hxl' : xs.length = sps.length := by rw [hxl]; unfold splV; rw [List.length_map]
  refine ⟨_, (pss_cons (ps_for PassesOwn.never rfl (pi_list (pv 1)) (pg_tup rfl (pgs_cons (pg_name (i := 2) sc__law_walked.nd rfl (Or.inl rfl)) (pgs_cons (pg_name (i := 3) sc__law_walked.nd rfl (Or.inl rfl)) (pgs_cons (pg_name (i := 4) sc__law_walked.nd rfl (Or.inl rfl)) pgs_nil)))) (pss_cons (ps_if (PW.pt (pw_or (pt_cmpR op_lt (pv 2) pe_int (nomark _)) (pw_or1 (pt_cmpR op_ne (pe_slice sl_str (pv 0) (po_some (pv 2)) (po_some (pe_op op_add (pv 2) (pe_callB call_lenS (by rfl) m_len PySem.boot_len (pa_cons (pv 3) pa_nil))))) (pv 3) (nomark _))))) (pss_one (ps_ret pe_non)) pss_nil)
      (pss_one (ps_set (i := 0) sc__law_walked.nd rfl (Or.inl rfl) (pe_op op_adS (pe_op op_adS (pe_slice sl_str (pv 0) po_none (po_some (pv 2))) (pv 4)) (pe_slice sl_str (pv 0) (po_some (pe_op op_add (pv 2) (pe_callB call_lenS (by rfl) m_len PySem.boot_len (pa_cons (pv 3) pa_nil)))) po_none))))))
      (pss_one (ps_ret (pv 0)))), ?_⟩
  refine ⟨_, rfl, D, rfl, ⟨_, SqL.of hx⟩, ?_⟩
  refine for_list (xs := xs) (fun i σ H' => H = H' ∧ ∃ (c : List Nat) (x y z : Option V), walkS c (sps.drop i) = some l' ∧ c.length + putL (sps.drop i) ≤ 100000 ∧ σ = [some (.str (S c)), some (.ref D), x, y, z]) ⟨rfl, l, none, none, none, hw, hl, rfl⟩ (fun i σ H' _ h => by rw [← h.1]; exact SqL.of hx) ?_ ?_
  · rintro i v σ H' hv ⟨rfl, c, x, y, z, hw', hc, rfl⟩
    obtain ⟨u, tt, rfl, h1, hu⟩ := hxa i v hv
    obtain ⟨s, hs, rfl⟩ := splV_at h1
    have hi : i < sps.length := (List.getElem?_eq_some_iff.mp hs).1
    have ed : sps.drop i = s :: sps.drop (i + 1) := by
      rw [List.drop_eq_getElem_cons hi]
      rw [List.getElem?_eq_getElem hi] at hs
      rw [Option.some.inj hs]
    rw [ed] at hw' hc
    have ho' := ho s (List.mem_of_getElem? hs)
    have hc' : c.length + (s.2.2.length + putL (sps.drop (i + 1))) ≤ 100000 := by
      have : putL (s :: sps.drop (i + 1)) = s.2.2.length + putL (sps.drop (i + 1)) := by unfold putL; rw [List.map_cons, List.sum_cons]
      omega
    have hw2 : (if s.1 ≤ c.length ∧ cutT c s.1 (s.1 + s.2.1.length) = s.2.1 then walkS (c.take s.1 ++ s.2.2 ++ c.drop (s.1 + s.2.1.length)) (sps.drop (i + 1)) else none) = some l' := hw'
    by_cases cd : s.1 ≤ c.length ∧ cutT c s.1 (s.1 + s.2.1.length) = s.2.1
    case neg => rw [if_neg cd] at hw2; cases hw2
    rw [if_pos cd] at hw2
    obtain ⟨c1, c2⟩ := cd
    refine ⟨u, _, rfl, SqT.of hu, rfl, _, _, rfl, _, _, rfl, _, _, rfl, rfl, ?_⟩
    refine ⟨_, rfl, (s.1 : Int), _, rfl, rfl, _, rfl, iteDF (by omega) ?_⟩
    have ec : cutL c (some (s.1 : Int)) (some ((s.1 : Int) + (s.2.1.length : Int))) = s.2.1 := by
      rw [show (s.1 : Int) + (s.2.1.length : Int) = ((s.1 + s.2.1.length : Nat) : Int) by omega, cutL_nn]
      exact c2
    refine ⟨_, rfl, _, rfl, (s.1 : Int), rfl, _, rfl, _, rfl, s.2.1, rfl, small (by omega), (s.1 : Int), _, rfl, rfl, _, rfl, c, rfl, small (by omega), _, rfl, rfl, _, rfl, iteNS (congrArg (fun z => V.str (S z)) ec) ?_⟩
    have e1 : cutL c none (some (s.1 : Int)) = c.take s.1 := cutL_m c s.1
    have e2 : cutL c (some ((s.1 : Int) + (s.2.1.length : Int))) none = c.drop (s.1 + s.2.1.length) := by
      rw [show (s.1 : Int) + (s.2.1.length : Int) = ((s.1 + s.2.1.length : Nat) : Int) by omega]
      exact cutL_n c _
    have l1 : (c.take s.1).length ≤ s.1 := by rw [List.length_take]; omega
    have l2 : (c.drop (s.1 + s.2.1.length)).length ≤ c.length - s.1 := by rw [List.length_drop]; omega
    refine ⟨_, rfl, _, rfl, (s.1 : Int), rfl, c, rfl, small (by omega), _, rfl, c.take s.1, s.2.2, (by rw [← e1]), rfl, ?_, _, rfl, _, rfl, _, rfl, s.2.1, rfl, small (by omega), (s.1 : Int), _, rfl, rfl, _, rfl, c, rfl, small (by omega), c.take s.1 ++ s.2.2, c.drop (s.1 + s.2.1.length), rfl, (by rw [← e2]), ?_, rfl, _, _, _, _, hw2, ?_, rfl⟩
    · exact Nat.le_trans (show _ ≤ 1000000 by omega) (small (Nat.le_refl _))
    · rw [List.length_append]
      exact Nat.le_trans (show _ ≤ 1000000 by omega) (small (Nat.le_refl _))
    · rw [List.length_append, List.length_append]
      omega
  · rintro σ H' ⟨rfl, c, x, y, z, hw', hc, rfl⟩
    rw [hxl', List.drop_length] at hw'
    cases hw'
    exact ⟨_, rfl, q⟩
end
end My

set_option Elab.async false
set_option linter.all false
set_option maxRecDepth 100000
set_option maxHeartbeats 4000000
namespace My
open PySem L2




def splsJ (l : List Nat) (o : Nat × Nat × List Nat) : List Spl := (List.range (botJ l o - rno l o.1)).map (splJ l (botJ l o))
def vbJ (k : Nat) (l : List Nat) (o : Nat × Nat × List Nat) (ty : List Nat) : Res := if botJ l o = l.count 10 + 1 then none else some (splsJ l o, endAt l (rno l o.1), none)
theorem splV_snoc (X : List Spl) (y : Spl) : splV (X ++ [y]) = splV X ++ [[nV y.1, .str (S y.2.1), .str (S y.2.2)]] := by unfold splV; rw [List.map_append]; rfl
theorem bot_le {l : List Nat} {o : Nat × Nat × List Nat} (hab : o.1 ≤ o.2.1) (hb : o.2.1 ≤ l.length) : rno l o.1 < botJ l o ∧ botJ l o ≤ l.count 10 + 1 := by
  have h1 := rno_le l (p := o.1) (by omega)
  have h2 : lastR l o ≤ l.count 10 := by
    unfold lastR
    refine rno_le l ?_
    split <;> omega
  unfold botJ
  omega
theorem tail_len {l : List Nat} {bt : Nat} (hb : bt ≤ l.count 10) : ∀ {i : Nat}, i ≤ bt → (tailJ l bt i).length + begAt l (bt - i) ≤ endAt l bt
  | 0, _ => by
    have h1 := beg_le (l := l) (i := bt) (by omega)
    have h2 := cutT_len (l := l) (a := begAt l bt) (b := endAt l bt) (end_le (l := l) (i := bt) (by omega))
    show (rowT l bt).length + begAt l bt ≤ _
    unfold rowT
    omega
  | i + 1, h => by
    have ih := tail_len hb (i := i) (by omega)
    obtain ⟨r, hr⟩ : ∃ r, bt - i = r + 1 := ⟨bt - i - 1, by omega⟩
    have hr' : bt - (i + 1) = r := by omega
    rw [hr] at ih
    have h1 := beg_le (l := l) (i := r) (by omega)
    have h2 := cutT_len (l := l) (a := begAt l r) (b := endAt l r) (end_le (l := l) (i := r) (by omega))
    have h3 : begAt l (r + 1) = endAt l r + 1 := rfl
    have h4 : (noB (tailJ l bt i)).length ≤ (tailJ l bt i).length := by
      have := congrArg List.length (blk_rep (tailJ l bt i))
      rw [List.length_append] at this
      omega
    show (rowT l (bt - (i + 1)) ++ 32 :: noB (tailJ l bt i)).length + begAt l (bt - (i + 1)) ≤ _
    rw [hr', List.length_append, List.length_cons]
    unfold rowT
    omega
theorem blk_len2 (t : List Nat) : (t.length : Int) - ((t.dropWhile (· == 32)).length : Int) = ((blkN t : Nat) : Int) := by
  have := congrArg List.length (blk_rep t)
  rw [List.length_append, List.length_replicate] at this
  have e : (noB t).length = (t.dropWhile (· == 32)).length := rfl
  omega
theorem drop_blk (t : List Nat) : t.drop (blkN t) = noB t := by
  have h := blk_rep t
  have hl : (List.replicate (blkN t) 32).length = blkN t := List.length_replicate
  generalize noB t = n at h ⊢
  generalize hk : blkN t = k at h hl ⊢
  have := List.drop_left (l₁ := List.replicate k 32) (l₂ := n)
  rw [hl] at this
  rw [h]
  exact this
theorem rep_rep (k : Nat) : rep [32] k = List.replicate k 32 := by
  unfold rep
  induction k with
  | zero => rfl
  | succ k ih => rw [List.replicate_succ, List.flatten_cons, ih, List.replicate_succ]; rfl
theorem flat_le {ls : List (List Nat)} {M : Nat} (h : ∀ r ∈ ls, r.length ≤ M) : ls.flatten.length ≤ ls.length * M := by
  induction ls with
  | nil => simp
  | cons r rs ih =>
    have h1 := h r (List.mem_cons_self ..)
    have h2 := ih (fun x hx => h x (List.mem_cons_of_mem _ hx))
    rw [List.flatten_cons, List.length_append, List.length_cons, Nat.add_mul]
    omega
theorem split_short {l r : List Nat} (h : r ∈ splitL l) : r.length ≤ l.length := by
  unfold splitL at h
  obtain ⟨p, _, rfl⟩ := List.mem_map.mp h
  rw [List.length_take, List.length_drop]
  omega
def sp_good : Sp := fun vs H Q _ => ∃ (R t : Addr) (l : List Nat) (o : Nat × Nat × List Nat), vs = [.str (S l), .ref R, .ref t] ∧ H R = some (.lst (rowsV l)) ∧ H t = some (.tup [nV o.1, nV o.2.1, .str (S o.2.2)]) ∧ l.length ≤ 600 ∧ (∀ c ∈ l, c < 128) ∧ StGood l o ∧ ∀ H', Same H H' → Q (.bl true) H'
/-! the numbers that the laws k33 to k39 draw -/
theorem comp_nums {K : PySem.W.Frag} {a D : Addr} {ns : List Int} {ix : List (Option Nat)} {σ : St} {H : Hp} {Q : VK} {te : TE} (g : Int → Int) (hσ : around ix σ = [none]) (ha : SqL K H a (ns.map V.int)) (hD : H D = none) (hn : ns.length ≤ 100)
    (he : ∀ (x : Int) (H' : Hp) (k : VK), k (.int (g x)) H' → te [some (.int x)] H' k)
    (hd : ∀ H', Same H H' → H' D = some (.lst ((ns.map g).map V.int)) → Q (.ref D) H') : CompW (Itl K a) D (around ix σ) (upd H D (.lst [])) (gName 0) tYes te Q := by
  refine comp_list (xs := ns.map V.int) (fun i σ H' => (∃ x : Option V, σ = [x]) ∧ Same H H' ∧ H' D = some (.lst (((ns.take i).map g).map V.int))) ⟨⟨none, hσ⟩, same_new hD _, upd_same⟩ (fun i σ H' _ h => h.2.1.seq ha) ?_ ?_
  · rintro i v σ H' hv ⟨⟨x, rfl⟩, SS, hD'⟩
    have hi : i < ns.length := by
      have := (List.getElem?_eq_some_iff.mp hv).1
      rwa [List.length_map] at this
    rw [List.getElem?_map, List.getElem?_eq_getElem hi] at hv
    cases hv
    refine yes (he _ H' _ ⟨_, hD', ?_, ⟨_, rfl⟩, same_upd SS hD, ?_⟩)
    · rw [List.length_map, List.length_map, List.length_take]
      exact Nat.lt_of_lt_of_le (show _ < 1000000 by omega) (small (Nat.le_refl _))
    · rw [upd_same, List.take_succ, List.getElem?_eq_getElem hi, List.map_append, List.map_append]
      rfl
  · rintro σ H' ⟨_, SS, hD'⟩
    rw [List.length_map, List.take_length] at hD'
    exact hd H' SS hD'

section
variable {P : Program} {w : World} {K : PySem.W.Frag} {mg : Str → Option Value} {base : Heap} {f : Addr} {fd : FuncData}
theorem sc__law_good : FnScope ["_law_text_here", "_law_rows_here", "_law_one", "_law_top", "_law_bottom", "_law_found", "_law_starts_here", "_law_tail", "_law_due", "_law_row", "_law_blanks"] ["_law_text_here", "_law_rows_here", "_law_one"] (defScope s__law_good) := ⟨rfl, rfl, rfl, by decide +kernel, rfl, by decide +kernel, by decide +kernel⟩
theorem ok_good (F : Fun K "_law_good" "_law_good" s__law_good f fd) (O__law_rows : Own P w K mg base CX0 2 "_law_rows" ["_law_rows_here", "_law_one"] sp_lrows) (O__law_starts : Own P w K mg base CX0 1 "_law_starts" ["_law_rows_here"] sp_starts) (O__law_told : Own P w K mg base CX0 3 "_law_told" ["_law_found", "_law_splices_here", "_law_place", "_law_shelf_here"] sp_told4) (O__law_walked : Own P w K mg base CX0 1 "_law_walked" ["_law_text_here", "_law_splices_here"] sp_walked) (O_done1 : OwnD P w K mg base CX0 20 "done" ["key", "text", "one", "typed"] (sp_doneK (fun k => k = 74) vbJ) [.str (S [])]) (m_len : mg "len" = none) (m_range : mg "range" = none) : FnOk P w K mg base CX0 21 f fd ["_law_text_here", "_law_rows_here", "_law_one"] sp_good := by
  refine F.ok sc__law_good (fun vs H Q E h => ?_) (fun cdv A outer s H vs Q E hr h => ?_)
  · obtain ⟨R, t, l, o, rfl, _⟩ := h
    rfl
  obtain ⟨R, t, l, o, rfl, hR, ht, hl, hasc, hg, q⟩ := h
  obtain ⟨hab, hb, _⟩ := id hg
  obtain ⟨hlt, hlc⟩ := bot_le hab hb
  have hcnt := count_le l
  refine ⟨_, (pss_cons (ps_asg (pe_own O__law_rows hr (by rfl) pass0 (pa_cons (pv 1) (pa_cons (pv 2) pa_nil))) (pg_tup rfl (pgs_cons (pg_name (i := 3) sc__law_good.nd rfl (Or.inl rfl)) (pgs_cons (pg_name (i := 4) sc__law_good.nd rfl (Or.inl rfl)) pgs_nil))))
      (pss_cons (ps_set (i := 5) sc__law_good.nd rfl (Or.inl rfl) (pe_ownD O_done1 hr (by rfl) pass0 (pa_cons pe_str (pa_cons (pv 0) (pa_cons (pv 2) pa_nil)))))
      (pss_cons (ps_if (pt_cmpR op_eq (pv 4) (pe_callB call_len_seq (by rfl) m_len PySem.boot_len (pa_cons (pv 1) pa_nil)) (nomark _)) (pss_one (ps_ret (pe_cmpR op_isN (pv 5) pe_non (nomark _)))) pss_nil)
      (pss_cons (ps_set (i := 6) sc__law_good.nd rfl (Or.inl rfl) (pe_own O__law_starts hr (by rfl) pass0 (pa_cons (pv 1) pa_nil)))
      (pss_cons (ps_set (i := 7) sc__law_good.nd rfl (Or.inl rfl) (pe_ix ix_list (pv 1) (pv 4) (fun _ _ => rfl)))
      (pss_cons (ps_set (i := 8) sc__law_good.nd rfl (Or.inl rfl) (pe_lst pa_nil))
      (pss_cons (ps_for PassesOwn.never rfl (pi_range3 (by rfl) m_range (pa_cons (pv 4) (pa_cons (pv 3) (pa_cons (pe_un un_neg pe_int) pa_nil)))) (pg_name (i := 9) sc__law_good.nd rfl (Or.inl rfl)) (pss_cons (ps_set (i := 10) sc__law_good.nd rfl (Or.inl rfl) (pe_op op_sub (pe_callB call_lenS (by rfl) m_len PySem.boot_len (pa_cons (pv 7) pa_nil)) (pe_callB call_lenS (by rfl) m_len PySem.boot_len (pa_cons (pe_bm PySem.F.plainAttrs_str PySem.F.slot_str_lstrip PySem.F.type_str_lstrip mt_lstrip (pv 7) (pa_cons pe_str pa_nil)) pa_nil))))
      (pss_cons (ps_expr (pe_bm PySem.F.plainAttrs_list PySem.F.slot_list_append PySem.F.type_list_append mt_append (pv 8) (pa_cons (pe_tup (pa_cons (pe_op op_sub (pe_ix ix_list (pv 6) (pv 9) (fun _ _ => rfl)) pe_int) (pa_cons (pe_op op_adS pe_str (pe_op op_mulS pe_str (pv 10))) (pa_cons pe_str pa_nil)))) pa_nil)))
      (pss_one (ps_set (i := 7) sc__law_good.nd rfl (Or.inl rfl) (pe_op op_adS (pe_op op_adS (pe_ix ix_list (pv 1) (pe_op op_sub (pv 9) pe_int) (fun _ _ => rfl)) pe_str) (pe_slice sl_str (pv 7) (po_some (pv 10)) po_none)))))))
      (pss_cons (ps_if (pt_not (pt_val (pe_own O__law_told hr (by rfl) pass0 (pa_cons (pv 5) (pa_cons (pv 8) (pa_cons (pe_op op_add (pe_ix ix_list (pv 6) (pv 3) (fun _ _ => rfl)) (pe_callB call_lenS (by rfl) m_len PySem.boot_len (pa_cons (pe_ix ix_list (pv 1) (pv 3) (fun _ _ => rfl)) pa_nil))) (pa_cons pe_non pa_nil))))))) (pss_one (ps_ret pe_bl)) pss_nil)
      (pss_one (ps_ret (pe_cmpR op_eq (pe_own O__law_walked hr (by rfl) pass0 (pa_cons (pv 0) (pa_cons (pe_ix ix_tup (pv 5) pe_int (fun _ _ => rfl)) pa_nil))) (pe_bm PySem.F.plainAttrs_str PySem.F.slot_str_join PySem.F.type_str_join mt_joinN pe_str (pa_cons (pe_op op_cat (pe_op op_cat (pe_slice sl_list (pv 1) po_none (po_some (pv 3))) (pe_lst (pa_cons (pv 7) pa_nil))) (pe_slice sl_list (pv 1) (po_some (pe_op op_add (pv 4) pe_int)) po_none)) pa_nil)) (nomark _)))))))))))), ?_⟩
  refine ⟨_, rfl, _, rfl, R, t, l, o, rfl, hR, ht, by omega, hab, hb, fun t1 H1 S1 ht1 => ?_⟩
  refine ⟨t1, _, rfl, SqT.of ht1, rfl, _, _, rfl, _, _, rfl, rfl, ?_⟩
  refine ⟨_, rfl, _, rfl, 74, t, l, o, [], rfl, rfl, S1 _ _ ht, hl, hasc, hg, (by decide), fun v H2 S2 hv => ?_⟩
  have S12 := S1.trans S2
  have hRl : (rowsV l).length = l.count 10 + 1 := by unfold rowsV; rw [List.length_map, splitL_len]
  refine ⟨_, rfl, _, rfl, R, _, rfl, .inl (SqL.of (S12 _ _ hR)), rfl, _, rfl, ?_⟩
  unfold vbJ at hv
  by_cases z : botJ l o = l.count 10 + 1
  · rw [if_pos z] at hv
    cases hv
    refine iteDT (by rw [hRl, z]; rfl) ⟨_, rfl, rfl, ?_⟩
    have := q H2 S12
    rwa [show (true : Bool) = decide (V.non = V.non) from rfl] at this
  rw [if_neg z] at hv
  refine iteDF (fun w => z (by have := V.int.inj w; rw [hRl] at this; omega)) ?_
  obtain ⟨u, Dd, y, rfl, hu, hTd, hsh, _⟩ := hv
  cases hsh
  have hbc : botJ l o ≤ l.count 10 := by omega
  refine ⟨_, rfl, R, l, rfl, S12 _ _ hR, by omega, fun SD H3 S3 hSD => ?_⟩
  have S13 := S12.trans S3
  have hrow : ∀ r, r ≤ l.count 10 → atI (rowsV l) (r : Int) = some (.str (S (rowT l r))) := fun r h => rows_is h
  have hrl : ∀ r, (rowT l r).length ≤ 600 := fun r => Nat.le_trans (cutT_le _ _ _) hl
  refine ⟨_, rfl, _, rfl, R, _, _, _, rfl, rfl, SqL.of (S13 _ _ hR), hrow (botJ l o) hbc, ?_⟩
  refine ⟨Nat.zero_le _, fun B hB => ?_⟩
  have S4 := same_new hB (.lst [])
  have hT0 : TupsV (upd H3 B (.lst [])) B [] := TupsV.nil upd_same
  generalize upd H3 B (.lst []) = H4 at S4 hT0
  have htl : ∀ i, i ≤ botJ l o → (tailJ l (botJ l o) i).length ≤ 600 := fun i h => by
    have h1 := tail_len hbc h
    have h2 := end_le (l := l) (i := botJ l o) (by omega)
    omega
  have hbl : ∀ t : List Nat, blkN t ≤ t.length := fun t => by
    have := congrArg List.length (blk_rep t)
    rw [List.length_append, List.length_replicate] at this
    omega
  have big : ∀ n : Nat, n ≤ 1000000 → n ≤ sizeLine := fun n h => small h
  refine ⟨_, rfl, _, rfl, _, rfl, ((botJ l o : Nat) : Int), ((rno l o.1 : Nat) : Int), _, _, rfl, Stp.down (by omega) (by omega) (by omega) (by omega), ?_⟩
  have en : (((botJ l o : Nat) : Int) - ((rno l o.1 : Nat) : Int)).toNat = botJ l o - rno l o.1 := by omega
  refine for_step (fun i σ H' => Same H3 H' ∧ (∃ x y : Option V, σ = [some (.str (S l)), some (.ref R), some (.ref t), some (nV (rno l o.1)), some (nV (botJ l o)), some (.ref u), some (.ref SD), some (.str (S (tailJ l (botJ l o) i))), some (.ref B), x, y]) ∧ TupsV H' B (splV ((List.range i).map (splJ l (botJ l o))))) ⟨S4, ⟨none, none, rfl⟩, hT0⟩ ?_ ?_
  · rintro i σ H' hi ⟨SS, ⟨x, y, rfl⟩, hT⟩
    rw [en] at hi
    have hib : i < botJ l o := by omega
    show gName _ (V.int (((botJ l o : Nat) : Int) + (i : Int) * -1)) _ _ _
    rw [show ((botJ l o : Nat) : Int) + (i : Int) * -1 = ((botJ l o - i : Nat) : Int) by omega]
    have hT6 := htl i (by omega)
    have hR' := (S13.trans SS) _ _ hR
    have hSD' := SS _ _ hSD
    have eS : splJ l (botJ l o) i = (begAt l (botJ l o - i) - 1, 10 :: List.replicate (blkN (tailJ l (botJ l o) i)) 32, [32]) := rfl
    have eT : tailJ l (botJ l o) (i + 1) = rowT l (botJ l o - (i + 1)) ++ 32 :: noB (tailJ l (botJ l o) i) := rfl
    generalize tailJ l (botJ l o) i = T at eS eT hT6 ⊢
    have hb6 := hbl T
    have hd6 : (T.dropWhile (· == 32)).length ≤ T.length := by
      have := congrArg List.length (blk_rep T)
      rw [List.length_append] at this
      have e : (noB T).length = (T.dropWhile (· == 32)).length := rfl
      omega
    refine ⟨_, rfl, T, rfl, big _ (by omega), _, rfl, rfl, T, rfl, rfl, big _ (by omega), _, rfl, big _ (by omega), _, _, rfl, rfl, ?_⟩
    show gName _ (V.int ((T.length : Int) - ((T.dropWhile (· == 32)).length : Int))) _ _ _
    rw [blk_len2]
    obtain ⟨zs, hz, hzl, _⟩ := hT.mem
    refine ⟨_, rfl, .inl ⟨rfl, _, SqL.of hz⟩, _, rfl, _, rfl, SD, _, _, _, rfl, rfl, SqL.of hSD', begL_at (show botJ l o - i < l.count 10 + 2 by omega), ((begAt l (botJ l o - i) : Nat) : Int), _, rfl, rfl, _, rfl, [32], ((blkN T : Nat) : Int), rfl, rfl, by omega, by omega, by decide, [10], rep [32] ((blkN T : Nat) : Int).toNat, rfl, rfl, ?_, (by show 3 ≤ sizeLine; decide), fun w hw => ?_⟩
    · rw [rep_len]
      exact big _ (by show 1 + _ * 1 ≤ _; omega)
    obtain ⟨r, hr⟩ : ∃ r, botJ l o - i = r + 1 := ⟨botJ l o - i - 1, by omega⟩
    have hpos : 1 ≤ begAt l (botJ l o - i) := by rw [hr]; exact Nat.succ_le_succ (Nat.zero_le _)
    have ev : ([V.int (((begAt l (botJ l o - i) : Nat) : Int) - 1), V.str (S ([10] ++ rep [32] ((blkN T : Nat) : Int).toNat)), V.str (S [32])] : List V) = [nV (splJ l (botJ l o) i).1, .str (S (splJ l (botJ l o) i).2.1), .str (S (splJ l (botJ l o) i).2.2)] := by
      rw [eS, rep_rep, Int.toNat_natCast, show ((begAt l (botJ l o - i) : Nat) : Int) - 1 = ((begAt l (botJ l o - i) - 1 : Nat) : Int) by omega]
      rfl
    have S6 := same_new hw (.tup [V.int (((begAt l (botJ l o - i) : Nat) : Int) - 1), V.str (S ([10] ++ rep [32] ((blkN T : Nat) : Int).toNat)), V.str (S [32])])
    have hw6 : upd H' w (.tup [V.int (((begAt l (botJ l o - i) : Nat) : Int) - 1), V.str (S ([10] ++ rep [32] ((blkN T : Nat) : Int).toNat)), V.str (S [32])]) w = some (.tup [nV (splJ l (botJ l o) i).1, .str (S (splJ l (botJ l o) i).2.1), .str (S (splJ l (botJ l o) i).2.2)]) := by rw [upd_same, ev]
    refine ⟨B, zs, _, rfl, rfl, S6 _ _ hz, ?_, ?_⟩
    · rw [hzl]
      unfold splV
      rw [List.length_map, List.length_map, List.length_range]
      exact Nat.lt_of_lt_of_le (show _ < 1000000 by omega) (small (Nat.le_refl _))
    have hT7 := TupsV.snoc (hT.same S6) (S6 _ _ hz) hw6
    have S37 : Same H3 (upd (upd H' w (.tup [V.int (((begAt l (botJ l o - i) : Nat) : Int) - 1), V.str (S ([10] ++ rep [32] ((blkN T : Nat) : Int).toNat)), V.str (S [32])])) B (.lst (zs ++ [.ref w]))) := same_upd (SS.trans S6) hB
    have hrow' : atI (rowsV l) (((botJ l o - i : Nat) : Int) - 1) = some (.str (S (rowT l (botJ l o - (i + 1))))) := by
      rw [show ((botJ l o - i : Nat) : Int) - 1 = ((botJ l o - (i + 1) : Nat) : Int) by omega]
      exact hrow _ (by omega)
    have ec : cutL T (some ((blkN T : Nat) : Int)) none = noB T := by rw [← drop_blk]; exact cutL_n T _
    have hnl : (noB T).length ≤ 600 := Nat.le_trans hd6 hT6
    have hrr := hrl (botJ l o - (i + 1))
    refine ⟨_, rfl, _, rfl, ((botJ l o - i : Nat) : Int), _, rfl, rfl, R, _, _, _, rfl, rfl, SqL.of ((S13.trans S37) _ _ hR), hrow', rowT l (botJ l o - (i + 1)), [32], rfl, rfl, big _ (by show _ + 1 ≤ _; omega), _, rfl, _, rfl, ((blkN T : Nat) : Int), rfl, T, rfl, big _ (by omega), rowT l (botJ l o - (i + 1)) ++ [32], noB T, rfl, (by rw [ec]), ?_, S37, ⟨some (V.int ((botJ l o - i : Nat) : Int)), some (V.int ((blkN T : Nat) : Int)), ?_⟩, ?_⟩
    · rw [List.length_append]
      exact big _ (by show _ + 1 + _ ≤ _; omega)
    · rw [eT, show rowT l (botJ l o - (i + 1)) ++ 32 :: noB T = rowT l (botJ l o - (i + 1)) ++ [32] ++ noB T by simp]
      rfl
    · rw [List.range_succ, List.map_append]
      show TupsV _ B (splV (_ ++ [_]))
      rw [splV_snoc]
      exact hT7
  rintro σ H' ⟨SS, ⟨x, y, rfl⟩, hT⟩
  rw [en] at hT ⊢
  have hTs : TupsV H' B (splV (splsJ l o)) := hT
  have S1' := S13.trans SS
  have hu3 := (S3.trans SS) _ _ hu
  have htp : rno l o.1 ≤ l.count 10 := by omega
  have hpl : endAt l (rno l o.1) = begAt l (rno l o.1) + (rowT l (rno l o.1)).length := by
    have h1 := beg_le (l := l) (i := rno l o.1) (by omega)
    have h2 := cutT_len (l := l) (a := begAt l (rno l o.1)) (b := endAt l (rno l o.1)) (end_le (l := l) (i := rno l o.1) (by omega))
    unfold rowT
    omega
  rw [hpl] at hu3
  have hrt := hrl (rno l o.1)
  refine ⟨_, rfl, _, rfl, _, rfl, _, rfl, SD, _, _, _, rfl, rfl, SqL.of (SS _ _ hSD), begL_at (show rno l o.1 < l.count 10 + 2 by omega), _, rfl, _, rfl, R, _, _, _, rfl, rfl, SqL.of (S1' _ _ hR), hrow (rno l o.1) htp, rowT l (rno l o.1), rfl, big _ (by omega), ((begAt l (rno l o.1) : Nat) : Int), _, rfl, rfl, ?_⟩
  refine ⟨u, Dd, B, splsJ l o, begAt l (rno l o.1) + (rowT l (rno l o.1)).length, none, _, .non, rfl, hu3, hTd.same (S3.trans SS), hTs, rfl, rfl, fun H6 S6 => ⟨_, rfl, iteF ?_⟩⟩
  have S16 := S1'.trans S6
  have hw : walkS l (splsJ l o) = some (TJ l (botJ l o) (botJ l o - rno l o.1)) := by
    have h1 := walk_J hbc (botJ l o - rno l o.1) 0 (by omega)
    rw [TJ_zero hbc, Nat.zero_add, ← List.range_eq_range'] at h1
    exact h1
  have hput : ∀ sps : List Spl, (∀ s ∈ sps, s.2.2.length = 1) → putL sps = sps.length := fun sps => by
    induction sps with
    | nil => intro _; rfl
    | cons a as ih =>
      intro h
      unfold putL at ih ⊢
      rw [List.map_cons, List.sum_cons, ih fun s hs => h s (List.mem_cons_of_mem _ hs), h a (List.mem_cons_self ..), List.length_cons]
      omega
  have hp := hput (splsJ l o) fun s hs => by
    obtain ⟨i, _, rfl⟩ := List.mem_map.mp hs
    rfl
  have hsl : (splsJ l o).length = botJ l o - rno l o.1 := by unfold splsJ; simp
  have hout : ∀ s ∈ splsJ l o, s.2.1.length ≤ 100000 := fun s hs => by
    obtain ⟨i, hi, rfl⟩ := List.mem_map.mp hs
    have h1 := List.mem_range.mp hi
    have h2 := hbl (tailJ l (botJ l o) i)
    have h3 := htl i (by omega)
    show (10 :: List.replicate (blkN (tailJ l (botJ l o) i)) 32).length ≤ 100000
    rw [List.length_cons, List.length_replicate]
    omega
  refine ⟨_, rfl, _, rfl, u, _, _, _, rfl, rfl, SqT.of (S6 _ _ hu3), rfl, Dd, l, _, splsJ l o, rfl, (hTd.same (S3.trans SS)).same S6, hw, by rw [hp, hsl]; omega, hout, ?_⟩
  have c1 : cutV (rowsV l) none (some ((rno l o.1 : Nat) : Int)) = txtsV ((splitL l).take (rno l o.1)) := by
    show cutL ((splitL l).map fun r => V.str (S r)) none (some ((rno l o.1 : Nat) : Int)) = _
    rw [cutL_map, cutL_m]
    rfl
  have c2 : cutV (rowsV l) (some (((botJ l o : Nat) : Int) + 1)) none = txtsV ((splitL l).drop (botJ l o + 1)) := by
    show cutL ((splitL l).map fun r => V.str (S r)) (some (((botJ l o : Nat) : Int) + 1)) none = _
    rw [cutL_map, show ((botJ l o : Nat) : Int) + 1 = ((botJ l o + 1 : Nat) : Int) by omega, cutL_n]
    rfl
  have hsp := splitL_len l
  refine ⟨rfl, _, rfl, _, rfl, ((rno l o.1 : Nat) : Int), rfl, R, _, rfl, SqL.of (S16 _ _ hR), fun p1 hp1 => ?_⟩
  have T1 := same_new hp1 (.lst (cutV (rowsV l) none (some ((rno l o.1 : Nat) : Int))))
  have g1 : upd H6 p1 (.lst (cutV (rowsV l) none (some ((rno l o.1 : Nat) : Int)))) p1 = some (.lst (txtsV ((splitL l).take (rno l o.1)))) := by rw [upd_same, c1]
  generalize upd H6 p1 (.lst (cutV (rowsV l) none (some ((rno l o.1 : Nat) : Int)))) = J1 at T1 g1
  refine ⟨_, rfl, (by show 1 ≤ sizeLine; decide), fun p2 hp2 => ?_⟩
  have T2 := same_new hp2 (.lst [V.str (S (tailJ l (botJ l o) (botJ l o - rno l o.1)))])
  have g2 : upd J1 p2 (.lst [V.str (S (tailJ l (botJ l o) (botJ l o - rno l o.1)))]) p2 = some (.lst (txtsV [tailJ l (botJ l o) (botJ l o - rno l o.1)])) := upd_same
  generalize hJ2 : upd J1 p2 (.lst [V.str (S (tailJ l (botJ l o) (botJ l o - rno l o.1)))]) = J2 at T2 g2 ⊢
  have lt1 : (txtsV ((splitL l).take (rno l o.1))).length ≤ 601 := by unfold txtsV; rw [List.length_map, List.length_take]; omega
  have lt2 : (txtsV ((splitL l).drop (botJ l o + 1))).length ≤ 601 := by unfold txtsV; rw [List.length_map, List.length_drop]; omega
  refine ⟨p1, p2, _, _, rfl, rfl, T2 _ _ g1, g2, big _ (by show _ + 1 ≤ _; omega), fun p3 hp3 => ?_⟩
  have T3 := same_new hp3 (.lst (txtsV ((splitL l).take (rno l o.1)) ++ txtsV [tailJ l (botJ l o) (botJ l o - rno l o.1)]))
  have g3 : upd J2 p3 (.lst (txtsV ((splitL l).take (rno l o.1)) ++ txtsV [tailJ l (botJ l o) (botJ l o - rno l o.1)])) p3 = some (.lst (txtsV ((splitL l).take (rno l o.1)) ++ txtsV [tailJ l (botJ l o) (botJ l o - rno l o.1)])) := upd_same
  generalize upd J2 p3 (.lst (txtsV ((splitL l).take (rno l o.1)) ++ txtsV [tailJ l (botJ l o) (botJ l o - rno l o.1)])) = J3 at T3 g3 ⊢
  have T13 := (T1.trans T2).trans T3
  refine ⟨_, rfl, _, rfl, ((botJ l o : Nat) : Int), _, rfl, rfl, ((botJ l o : Nat) : Int) + 1, rfl, R, _, rfl, SqL.of ((S16.trans T13) _ _ hR), fun p4 hp4 => ?_⟩
  have T4 := same_new hp4 (.lst (cutV (rowsV l) (some (((botJ l o : Nat) : Int) + 1)) none))
  have g4 : upd J3 p4 (.lst (cutV (rowsV l) (some (((botJ l o : Nat) : Int) + 1)) none)) p4 = some (.lst (txtsV ((splitL l).drop (botJ l o + 1)))) := by rw [upd_same, c2]
  generalize upd J3 p4 (.lst (cutV (rowsV l) (some (((botJ l o : Nat) : Int) + 1)) none)) = J4 at T4 g4 ⊢
  refine ⟨p3, p4, _, _, rfl, rfl, T4 _ _ g3, g4, big _ (by rw [List.length_append]; show _ + 1 + _ ≤ _; omega), fun p5 hp5 => ?_⟩
  have T5 := same_new hp5 (.lst (txtsV ((splitL l).take (rno l o.1)) ++ txtsV [tailJ l (botJ l o) (botJ l o - rno l o.1)] ++ txtsV ((splitL l).drop (botJ l o + 1))))
  have g5 : upd J4 p5 (.lst (txtsV ((splitL l).take (rno l o.1)) ++ txtsV [tailJ l (botJ l o) (botJ l o - rno l o.1)] ++ txtsV ((splitL l).drop (botJ l o + 1)))) p5 = some (.lst (((splitL l).take (rno l o.1) ++ tailJ l (botJ l o) (botJ l o - rno l o.1) :: (splitL l).drop (botJ l o + 1)).map fun r => V.str (S r))) := by
    rw [upd_same]
    unfold txtsV
    simp
  generalize upd J4 p5 (.lst (txtsV ((splitL l).take (rno l o.1)) ++ txtsV [tailJ l (botJ l o) (botJ l o - rno l o.1)] ++ txtsV ((splitL l).drop (botJ l o + 1)))) = J5 at T5 g5 ⊢
  have eJ := glue_J (l := l) (t := tailJ l (botJ l o) (botJ l o - rno l o.1)) htp hbc
  have eB : botJ l o - (botJ l o - rno l o.1) = rno l o.1 := by omega
  refine ⟨p5, _, rfl, rfl, SqL.of g5, ?_, rfl, ?_⟩
  · have hL : ((splitL l).take (rno l o.1) ++ tailJ l (botJ l o) (botJ l o - rno l o.1) :: (splitL l).drop (botJ l o + 1)).length ≤ 602 := by
      rw [List.length_append, List.length_cons, List.length_take, List.length_drop]
      omega
    have hF := flat_le (ls := (splitL l).take (rno l o.1) ++ tailJ l (botJ l o) (botJ l o - rno l o.1) :: (splitL l).drop (botJ l o + 1)) (M := 600) (fun r hr => by
      rcases List.mem_append.mp hr with h | h
      · exact Nat.le_trans (split_short (List.mem_of_mem_take h)) hl
      · rcases List.mem_cons.mp h with h | h
        · rw [h]
          exact htl _ (by omega)
        · exact Nat.le_trans (split_short (List.mem_of_mem_drop h)) hl)
    have := Nat.mul_le_mul_right 600 hL
    omega
  · rw [eJ]
    unfold TJ
    rw [eB]
    have := q J5 ((S16.trans T13).trans (T4.trans T5))
    rwa [show (true : Bool) = decide (V.str (S (l.take (begAt l (rno l o.1)) ++ (tailJ l (botJ l o) (botJ l o - rno l o.1) ++ l.drop (endAt l (botJ l o))))) = V.str (S (l.take (begAt l (rno l o.1)) ++ (tailJ l (botJ l o) (botJ l o - rno l o.1) ++ l.drop (endAt l (botJ l o)))))) from (decide_eq_true rfl).symm] at this
theorem sc_law : FnScope ["_law_script", "_law_text_here", "_law_rows_here", "_law_numbers", "_law_number"] ["_law_script"] (defScope s_law) := ⟨rfl, rfl, rfl, by decide +kernel, rfl, by decide +kernel, by decide +kernel⟩
theorem ok_law (F : Fun K "law" "law" s_law f fd) (O__law_blank_text : Own P w K mg base CX0 3 "_law_blank_text" ["_law_script"] (sp_text2 K)) (O__law_cell_at : Own P w K mg base CX0 1 "_law_cell_at" ["_law_script", "_law_k"] (sp_cell K)) (O__law_stretch : Own P w K mg base CX0 2 "_law_stretch" ["_law_text_here", "_law_rows_here", "_law_number"] sp_lstretch) (O__law_good : Own P w K mg base CX0 21 "_law_good" ["_law_text_here", "_law_rows_here", "_law_one"] sp_good) : FnOk P w K mg base CX0 22 f fd ["_law_script"] (sp_law K) := by
  refine F.ok sc_law (fun vs H Q E h => ?_) (fun cdv A outer s H vs Q E hr h => ?_)
  · obtain ⟨a, ns, rfl, _⟩ := h
    rfl
  obtain ⟨a, ns, rfl, hS, h63, q⟩ := h
  refine ⟨_, (pss_cons (ps_set (i := 1) sc_law.nd rfl (Or.inl rfl) (pe_own O__law_blank_text hr (by rfl) pass0 (pa_cons (pv 0) pa_nil)))
      (pss_cons (ps_set (i := 2) sc_law.nd rfl (Or.inl rfl) (pe_bm PySem.F.plainAttrs_str PySem.F.slot_str_split PySem.F.type_str_split mt_split (pv 1) (pa_cons pe_str pa_nil)))
      (pss_cons (ps_setC (i := 3) ["_law_cell"] _ [] sc_law.nd rfl (Or.inl rfl) rfl (cl_none ["_law_cell"] (by decide +kernel) rfl (by decide +kernel)) (pi_list (pe_slice sl_list (pv 0) (po_some pe_int) (po_some pe_int))) (fun _ _ _ _ => pg_name (i := 0) (nd1 _) rfl (Or.inl rfl)) (fun _ _ _ _ => pif_nil) (fun _ _ _ _ => (pe_op op_mod (pe_op op_mul (pv 0) pe_int) pe_int)))
      (pss_cons (ps_expr (pe_bm PySem.F.plainAttrs_list PySem.F.slot_list_append PySem.F.type_list_append mt_append (pv 3) (pa_cons (pe_op op_mod (pe_op op_mul (pe_own O__law_cell_at hr (by rfl) pass0 (pa_cons (pv 0) (pa_cons pe_int pa_nil))) pe_int) pe_int) pa_nil)))
      (pss_cons (ps_for PassesOwn.never rfl (pi_list (pv 3)) (pg_name (i := 4) sc_law.nd rfl (Or.inl rfl)) (pss_one (ps_if (pt_not (pt_val (pe_own O__law_good hr (by rfl) pass0 (pa_cons (pv 1) (pa_cons (pv 2) (pa_cons (pe_own O__law_stretch hr (by rfl) pass0 (pa_cons (pv 1) (pa_cons (pv 2) (pa_cons (pv 4) pa_nil)))) pa_nil)))))) (pss_one (ps_ret pe_bl)) pss_nil)))
      (pss_one (ps_ret pe_bl))))))), ?_⟩
  refine ⟨_, rfl, a, ns, rfl, hS, h63, fun l H1 S1 hl hasc => ?_⟩
  refine ⟨_, rfl, rfl, l, rfl, rfl, by omega, fun R hR => ?_⟩
  have S2 := same_new hR (.lst (rowsV l))
  have hR2 : upd H1 R (.lst (rowsV l)) R = some (.lst (rowsV l)) := upd_same
  have S12 := S1.trans S2
  show gName _ (.ref R) _ (upd H1 R (.lst (rowsV l))) _
  generalize upd H1 R (.lst (rowsV l)) = H2 at S2 hR2 S12
  have cut63 : ∀ (i j : Option Int), (cutL ns i j).length ≤ 63 := fun i j => Nat.le_trans (cutL_le _ _ _) h63
  refine ⟨_, rfl, _, rfl, _, rfl, a, _, rfl, S12.seq hS, fun d hd => ?_⟩
  have S3 := same_new hd (.lst (cutV (ns.map V.int) (some 2) (some 26)))
  have sqd : SqL K (upd H2 d (.lst (cutV (ns.map V.int) (some 2) (some 26)))) d ((cutL ns (some 2) (some 26)).map V.int) := sq_cut
  have hcut := cut63 (some 2) (some 26)
  have S13 := S12.trans S3
  have hR3 := S3 _ _ hR2
  generalize upd H2 d (.lst (cutV (ns.map V.int) (some 2) (some 26))) = H3 at S3 sqd S13 hR3
  generalize cutL ns (some 2) (some 26) = cs at hcut sqd
  refine ⟨d, rfl, ⟨_, sqd⟩, fun D hD => ?_⟩
  refine comp_nums (fun x => x * 48271 % 2147483647) rfl sqd hD (by omega) (fun x H' k h => ⟨_, rfl, _, _, rfl, rfl, .inr ⟨by decide, by decide⟩, _, _, rfl, rfl, (by show (0 : Int) < 2147483647; decide), h⟩) (fun H4 S4 hD4 => ?_)
  have S14 := S13.trans S4
  refine ⟨_, rfl, .inl ⟨rfl, _, SqL.of hD4⟩, _, rfl, a, ns, 1, rfl, S14.seq hS, _, _, rfl, rfl, .inr ⟨by decide, by decide⟩, _, _, rfl, rfl, (by show (0 : Int) < 2147483629; decide), D, _, _, rfl, rfl, hD4, ?_, ?_⟩
  · rw [List.length_map, List.length_map]
    exact Nat.lt_of_lt_of_le (show _ < 1000000 by omega) (small (Nat.le_refl _))
  have S5 : Same H3 (upd H4 D (.lst ((cs.map fun x => x * 48271 % 2147483647).map V.int ++ [V.int (cell ns 1 * 69621 % 2147483629)]))) := same_upd S4 hD
  have hD5 : upd H4 D (.lst ((cs.map fun x => x * 48271 % 2147483647).map V.int ++ [V.int (cell ns 1 * 69621 % 2147483629)])) D = some (.lst (((cs.map fun x => x * 48271 % 2147483647) ++ [cell ns 1 * 69621 % 2147483629]).map V.int)) := by
    rw [upd_same, List.map_append]
    rfl
  generalize upd H4 D (.lst ((cs.map fun x => x * 48271 % 2147483647).map V.int ++ [V.int (cell ns 1 * 69621 % 2147483629)])) = H5 at S5 hD5
  generalize (cs.map fun x => x * 48271 % 2147483647) ++ [cell ns 1 * 69621 % 2147483629] = zs at hD5
  refine ⟨_, rfl, D, rfl, ⟨_, SqL.of hD5⟩, ?_⟩
  refine for_list (xs := zs.map V.int) (fun i σ H' => Same H5 H' ∧ ∃ x : Option V, σ = [some (.ref a), some (.str (S l)), some (.ref R), some (.ref D), x]) ⟨Same.refl _, none, rfl⟩ (fun i σ H' _ h => h.1.seq (SqL.of hD5)) ?_ ?_
  · rintro i v σ H' hv ⟨S6, x, rfl⟩
    obtain ⟨n, hn, rfl⟩ := List.mem_map.mp (List.mem_of_getElem? hv)
    have S36 := S5.trans S6
    refine ⟨_, rfl, _, rfl, _, rfl, _, rfl, _, rfl, R, l, n, rfl, S36 _ _ hR3, by omega, fun o t H7 S7 hg ht => ?_⟩
    exact ⟨R, t, l, o, rfl, (S36.trans S7) _ _ hR3, ht, hl, hasc, hg, fun H8 S8 => ⟨_, rfl, iteF ⟨S6.trans (S7.trans S8), _, rfl⟩⟩⟩
  · rintro σ H' ⟨_, x, rfl⟩
    exact q H'
end
end My

set_option Elab.async false
set_option linter.all false
set_option maxRecDepth 100000
set_option maxHeartbeats 4000000
namespace My
open PySem L2




/-! the program's changing, too_long, done -/

abbrev num_MOST_SIGNS : Int := 600
def chg (s : Spl) : Bool := decide (¬ s.2.1 = s.2.2)
def dif (sps : List Spl) : List Int := sps.map fun s => (s.2.2.length : Int) - (s.2.1.length : Int)
def sp_changing : Sp := fun vs H Q _ => ∃ (D : Addr) (sps : List Spl), vs = [.ref D] ∧ TupsV H D (splV sps) ∧ sps.length ≤ 10000 ∧ ∀ E H', Same H H' → H E = none → TupsV H' E (splV (sps.filter chg)) → Q (.ref E) H'
def sp_toolong : Sp := fun vs H Q _ => ∃ (D : Addr) (l : List Nat) (sps : List Spl), vs = [.str (S l), .ref D] ∧ TupsV H D (splV sps) ∧ l.length ≤ 10000 ∧ sps.length ≤ 10000 ∧ (∀ s ∈ sps, s.2.1.length ≤ 1000000 ∧ s.2.2.length ≤ 1000000) ∧ ∀ H', Same H H' → Q (.bl (decide ((l.length : Int) + (dif sps).sum > 600))) H'
theorem splV_snoc' (X : List Spl) (y : Spl) : splV (X ++ [y]) = splV X ++ [[nV y.1, .str (S y.2.1), .str (S y.2.2)]] := by unfold splV; rw [List.map_append]; rfl
section
variable {P : Program} {w : World} {K : PySem.W.Frag} {mg : Str → Option Value} {base : Heap} {f : Addr} {fd : FuncData}
theorem sc_changing : FnScope ["splices"] ["splices"] (defScope s_changing) := ⟨rfl, rfl, rfl, by decide +kernel, rfl, by decide +kernel, by decide +kernel⟩
theorem ok_changing (F : Fun K "changing" "changing" s_changing f fd) : FnOk P w K mg base CX0 1 f fd ["splices"] sp_changing := by
  refine F.ok sc_changing (fun vs H Q E h => ?_) (fun cdv A outer s H vs Q E hr h => ?_)
  · obtain ⟨D, sps, rfl, _⟩ := h
    rfl
  obtain ⟨D, sps, rfl, hD, hl, q⟩ := h
  refine ⟨_, (pss_one (ps_ret (pe_comp ["splice"] _ [] rfl (cl_none ["splice"] (by decide +kernel) rfl (by decide +kernel)) (pi_list (pv 0)) (fun _ _ _ _ => pg_name (i := 0) (nd1 _) rfl (Or.inl rfl)) (fun _ _ _ _ => (pif_one (pt_cmpR op_ne (pe_ix (show IxR _ (rIxT K) from ix_tup) (pv 0) pe_int (fun _ _ => rfl)) (pe_ix (show IxR _ (rIxT K) from ix_tup) (pv 0) pe_int (fun _ _ => rfl)) (nomark _)))) (fun _ _ _ _ => (pv 0))))), ?_⟩
  obtain ⟨xs, hx, hxl, hxa⟩ := hD.mem
  have hxl' : xs.length = sps.length := by rw [hxl]; unfold splV; rw [List.length_map]
  refine ⟨_, rfl, D, rfl, ⟨_, SqL.of hx⟩, fun B hB => ?_⟩
  refine comp_list (xs := xs) (fun i σ H' => (∃ x : Option V, σ = [x]) ∧ Same H H' ∧ TupsV H' B (splV ((sps.take i).filter chg))) ⟨⟨none, rfl⟩, same_new hB _, TupsV.nil upd_same⟩ (fun i σ H' _ h => h.2.1.seq (SqL.of hx)) ?_ ?_
  · rintro i v σ H' hv ⟨⟨x, rfl⟩, SS, hB'⟩
    obtain ⟨t, tt, rfl, h1, ht⟩ := hxa i v hv
    obtain ⟨s, es, rfl⟩ := splV_at h1
    have ht' := SS _ _ ht
    obtain ⟨ys, hy, hyl, _⟩ := hB'.mem
    refine ⟨_, rfl, t, _, _, _, rfl, rfl, SqT.of ht', rfl, _, rfl, t, _, _, _, rfl, rfl, SqT.of ht', rfl, rfl, _, rfl, ?_⟩
    by_cases e : s.2.1 = s.2.2
    · have et : ((sps.take (i + 1)).filter chg) = (sps.take i).filter chg := by
        rw [List.take_succ, es, List.filter_append]
        show _ ++ List.filter chg [s] = _
        rw [List.filter_cons, if_neg (by unfold chg; rw [decide_eq_false (fun z => z e)]; decide)]
        exact List.append_nil _
      rw [et]
      exact iteNS (by rw [e]) ⟨⟨_, rfl⟩, SS, hB'⟩
    · have et : ((sps.take (i + 1)).filter chg) = (sps.take i).filter chg ++ [s] := by
        rw [List.take_succ, es, List.filter_append]
        show _ ++ List.filter chg [s] = _
        rw [List.filter_cons, if_pos (by unfold chg; exact decide_eq_true e)]
        rfl
      rw [et]
      refine iteNF (fun z => e (S_inj (V.str.inj z))) ⟨_, rfl, _, hy, ?_, ⟨_, rfl⟩, same_upd SS hB, ?_⟩
      · rw [hyl]
        unfold splV
        rw [List.length_map]
        have h1 := List.length_filter_le chg (sps.take i)
        have h2 : (sps.take i).length ≤ sps.length := by rw [List.length_take]; omega
        exact Nat.lt_of_lt_of_le (show _ < 1000000 by omega) (small (Nat.le_refl _))
      · rw [splV_snoc']
        exact TupsV.snoc hB' hy ht'
  · rintro σ H' ⟨_, SS, hB'⟩
    rw [hxl', List.take_length] at hB'
    exact q B H' SS hB hB'
theorem sc_too_long : FnScope ["text", "splices"] ["text", "splices"] (defScope s_too_long) := ⟨rfl, rfl, rfl, by decide +kernel, rfl, by decide +kernel, by decide +kernel⟩
theorem ok_toolong {tk : Tok} (F : Fun K "too_long" "too_long" s_too_long f fd) (m_MOST_SIGNS : mg "MOST_SIGNS" = some (.int num_MOST_SIGNS tk)) (m_len : mg "len" = none) (m_sum : mg "sum" = none) : FnOk P w K mg base CX0 1 f fd ["text", "splices"] sp_toolong := by
  refine F.ok sc_too_long (fun vs H Q E h => ?_) (fun cdv A outer s H vs Q E hr h => ?_)
  · obtain ⟨D, l, sps, rfl, _⟩ := h
    rfl
  obtain ⟨D, l, sps, rfl, hD, hl, hn, hz, q⟩ := h
  refine ⟨_, (pss_one (ps_ret (pe_cmpR op_gt (pe_op op_add (pe_callB call_lenS (by rfl) m_len PySem.boot_len (pa_cons (pv 0) pa_nil)) (pe_callB (call_sumZ (by rfl)) (by rfl) m_sum PyProof.Rows.boot_sum (pa_cons (pe_comp ["splice"] _ [] rfl (cl_none ["splice"] (by decide +kernel) rfl (by decide +kernel)) (pi_list (pv 1)) (fun _ _ _ _ => pg_name (i := 0) (nd1 _) rfl (Or.inl rfl)) (fun _ _ _ _ => pif_nil) (fun _ _ _ _ => (pe_op op_sub (pe_callB call_lenS (by rfl) m_len PySem.boot_len (pa_cons (pe_ix (show IxR _ (rIxT K) from ix_tup) (pv 0) pe_int (fun _ _ => rfl)) pa_nil)) (pe_callB call_lenS (by rfl) m_len PySem.boot_len (pa_cons (pe_ix (show IxR _ (rIxT K) from ix_tup) (pv 0) pe_int (fun _ _ => rfl)) pa_nil))))) pa_nil))) (pe_glob (v := .int num_MOST_SIGNS) (by rfl) m_MOST_SIGNS ⟨_, rfl⟩) (nomark _)))), ?_⟩
  obtain ⟨xs, hx, hxl, hxa⟩ := hD.mem
  have hxl' : xs.length = sps.length := by rw [hxl]; unfold splV; rw [List.length_map]
  refine ⟨_, rfl, l, rfl, small (by omega), _, rfl, D, rfl, ⟨_, SqL.of hx⟩, fun B hB => ?_⟩
  refine comp_list (xs := xs) (fun i σ H' => (∃ x : Option V, σ = [x]) ∧ Same H H' ∧ H' B = some (.lst ((dif (sps.take i)).map V.int))) ⟨⟨none, rfl⟩, same_new hB _, upd_same⟩ (fun i σ H' _ h => h.2.1.seq (SqL.of hx)) ?_ ?_
  · rintro i v σ H' hv ⟨⟨x, rfl⟩, SS, hB'⟩
    obtain ⟨t, tt, rfl, h1, ht⟩ := hxa i v hv
    obtain ⟨s, es, rfl⟩ := splV_at h1
    have ht' := SS _ _ ht
    obtain ⟨z1, z2⟩ := hz s (List.mem_of_getElem? es)
    refine yes ⟨_, rfl, t, _, _, _, rfl, rfl, SqT.of ht', rfl, _, rfl, small (by omega), _, rfl, t, _, _, _, rfl, rfl, SqT.of ht', rfl, _, rfl, small (by omega), _, _, rfl, rfl, _, hB', ?_, ⟨_, rfl⟩, same_upd SS hB, ?_⟩
    · unfold dif
      rw [List.length_map, List.length_map, List.length_take]
      exact Nat.lt_of_lt_of_le (show _ < 1000000 by omega) (small (Nat.le_refl _))
    · rw [upd_same]
      have et : dif (sps.take (i + 1)) = dif (sps.take i) ++ [(s.2.2.length : Int) - (s.2.1.length : Int)] := by
        unfold dif
        rw [List.take_succ, es, List.map_append]
        rfl
      rw [et, List.map_append]
      rfl
  · rintro σ H' ⟨_, SS, hB'⟩
    rw [hxl', List.take_length] at hB'
    refine ⟨B, dif sps, rfl, SqL.of hB', fun n hn' => ?_, by unfold dif; rw [List.length_map]; omega, _, _, rfl, rfl, _, _, rfl, rfl, q H' SS⟩
    unfold dif at hn'
    obtain ⟨s, hs, rfl⟩ := List.mem_map.mp hn'
    have := hz s hs
    omega
def bnd (l : List Nat) : Res → Res
  | none => none
  | some (sps, p, sh) => if (l.length : Int) + (dif sps).sum > 600 then none else some (sps, p, sh)
theorem ShN.up {H0 H H' H2 : Hp} {sh : Shf} {x : V} (h : ShN H H' sh x) (s0 : Same H0 H) (s : Same H' H2) : ShN H0 H2 sh x := by
  cases sh with
  | none => exact h
  | some p =>
    obtain ⟨w, B, h1, h2, h3, h4, h5⟩ := h
    exact ⟨w, B, h1, s _ _ h2, s _ _ h3, h4, s0.free h5⟩
theorem sc_done : FnScope ["key", "text", "one", "typed", "told"] ["key", "text", "one", "typed"] (defScope s_done) := ⟨rfl, rfl, rfl, by decide +kernel, rfl, by decide +kernel, by decide +kernel⟩
theorem ok_done {dV : Value} {ks : Nat → Prop} {ub : Nat → List Nat → (Nat × Nat × List Nat) → List Nat → Res} (F : FunD K "done" "done" s_done dV f fd) (O_done_unbounded : Own P w K mg base CX0 18 "done_unbounded" ["key", "text", "one", "typed"] (sp_doneK ks ub)) (O_too_long : Own P w K mg base CX0 1 "too_long" ["text", "splices"] sp_toolong)
    (hz : ∀ k l o ty sps p sh, ks k → l.length ≤ 600 → StGood l o → ty.length ≤ 1000 → ub k l o ty = some (sps, p, sh) → sps.length ≤ 10000 ∧ ∀ s ∈ sps, s.2.1.length ≤ 1000000 ∧ s.2.2.length ≤ 1000000) :
    FnOk P w K mg base CX0 20 f fd ["key", "text", "one", "typed"] (sp_doneK ks fun k l o ty => bnd l (ub k l o ty)) := by
  refine F.ok sc_done (fun vs H Q E h => ?_) (fun cdv A outer s H vs Q E hr h => ?_)
  · obtain ⟨k, t, l, o, ty, rfl, _⟩ := h
    rfl
  obtain ⟨k, t, l, o, ty, rfl, hk, ht, hl, hasc, hg, hty, q⟩ := h
  refine ⟨_, (pss_cons (ps_set (i := 4) sc_done.nd rfl (Or.inl rfl) (pe_own O_done_unbounded hr (by rfl) pass0 (pa_cons (pv 0) (pa_cons (pv 1) (pa_cons (pv 2) (pa_cons (pv 3) pa_nil))))))
      (pss_cons (ps_if (PW.pt (pw_or (pt_cmpR op_isN (pv 4) pe_non (nomark _)) (pw_or1 (pt_val (pe_own O_too_long hr (by rfl) pass0 (pa_cons (pv 1) (pa_cons (pe_ix ix_tup (pv 4) pe_int (fun _ _ => rfl)) pa_nil))))))) (pss_one (ps_ret pe_non)) pss_nil)
      (pss_one (ps_ret (pv 4))))), ?_⟩
  refine ⟨_, rfl, _, rfl, _, rfl, _, rfl, k, t, l, o, ty, rfl, hk, ht, hl, hasc, hg, hty, fun v H1 S1 hv => ?_⟩
  have hz' := hz k l o ty
  dsimp only at q
  cases e : ub k l o ty with
  | none =>
    rw [e] at hv q
    cases hv
    exact ⟨_, rfl, rfl, _, rfl, iteT (q .non H1 S1 rfl)⟩
  | some r =>
    obtain ⟨sps, p, sh⟩ := r
    rw [e] at hv q hz'
    obtain ⟨u, D, x, rfl, hu, hD, hx, hDn⟩ := hv
    obtain ⟨z1, z2⟩ := hz' sps p sh hk hl hg hty rfl
    refine ⟨_, rfl, rfl, _, rfl, iteF ⟨_, rfl, _, rfl, u, _, _, _, rfl, rfl, SqT.of hu, rfl, D, l, sps, rfl, hD, by omega, z1, z2, fun H2 S2 => ⟨_, rfl, ?_⟩⟩⟩
    have q' : ∀ v H', Same H H' → DoneV H H' v (if (l.length : Int) + (dif sps).sum > 600 then none else some (sps, p, sh)) → Q v H' := q
    by_cases c : (l.length : Int) + (dif sps).sum > 600
    · rw [if_pos c] at q'
      exact iteDT c (q' .non _ (S1.trans S2) rfl)
    · rw [if_neg c] at q'
      exact iteDF c ⟨_, rfl, q' _ _ (S1.trans S2) ⟨u, D, x, rfl, S2 _ _ hu, hD.same S2, hx.up (fun _ _ h => h) S2, hDn⟩⟩
end

/-! the program's rows_in -/

section
variable {P : Program} {w : World} {K : PySem.W.Frag} {mg : Str → Option Value} {base : Heap} {f : Addr} {fd : FuncData}
theorem sc_rows_in : FnScope ["text", "one", "low", "high"] ["text", "one"] (defScope s_rows_in) := ⟨rfl, rfl, rfl, by decide +kernel, rfl, by decide +kernel, by decide +kernel⟩
theorem ok_rows_in (F : Fun K "rows_in" "rows_in" s_rows_in f fd) (O_row_of : Own P w K mg base CX0 4 "row_of" ["text", "place"] sp_row_in) : FnOk P w K mg base CX0 5 f fd ["text", "one"] sp_rows_in := by
  refine F.ok sc_rows_in (fun vs H Q E h => ?_) (fun cdv A outer s H vs Q E hr h => ?_)
  · obtain ⟨t, l, o, rfl, _⟩ := h
    rfl
  obtain ⟨t, l, ⟨a, b, k⟩, rfl, ht, hl, ⟨hab, hb, _⟩, q⟩ := h
  dsimp only at ht hab hb q
  refine ⟨_, (pss_cons (ps_set (i := 2) sc_rows_in.nd rfl (Or.inl rfl) (pe_ix ix_tup (pv 1) pe_int (fun _ _ => rfl)))
      (pss_cons (ps_set (i := 3) sc_rows_in.nd rfl (Or.inl rfl) (pe_ix ix_tup (pv 1) pe_int (fun _ _ => rfl)))
      (pss_cons (ps_if (PW.pt (pw_and (pt_cmpR op_eq (pe_ix ix_tup (pv 1) pe_int (fun _ _ => rfl)) pe_str (nomark _)) (pw_and1 (pt_cmpR op_gt (pv 3) (pv 2) (nomark _))))) (pss_one (ps_ret (pe_tup (pa_cons (pe_own O_row_of hr (by rfl) pass0 (pa_cons (pv 0) (pa_cons (pv 2) pa_nil))) (pa_cons (pe_own O_row_of hr (by rfl) pass0 (pa_cons (pv 0) (pa_cons (pe_op op_sub (pv 3) pe_int) pa_nil))) pa_nil))))) pss_nil)
      (pss_one (ps_ret (pe_tup (pa_cons (pe_own O_row_of hr (by rfl) pass0 (pa_cons (pv 0) (pa_cons (pv 2) pa_nil))) (pa_cons (pe_own O_row_of hr (by rfl) pass0 (pa_cons (pv 0) (pa_cons (pv 3) pa_nil))) pa_nil)))))))), ?_⟩
  refine ⟨_, rfl, t, _, _, _, rfl, rfl, SqT.of ht, rfl, _, rfl, t, _, _, _, rfl, rfl, SqT.of ht, rfl, _, rfl, t, _, _, _, rfl, rfl, SqT.of ht, rfl, rfl, _, rfl, ?_⟩
  have other : ¬ (k = cRows ∧ a < b) → ∀ u H', Same H H' → H' u = some (.tup [nV (rno l a), nV (rno l b)]) → Q (.ref u) H' := fun hn u H' S' hu => q u H' S' (by unfold lastR; rw [if_neg hn]; exact hu)
  have goF : (∀ u H', Same H H' → H' u = some (.tup [nV (rno l a), nV (rno l b)]) → Q (.ref u) H') → ∀ u, H u = none → Q (.ref u) (upd H u (.tup [V.int ((rno l a : Nat) : Int), V.int ((rno l b : Nat) : Int)])) := fun g u hu => g u _ (same_new hu _) upd_same
  by_cases ek : k = cRows
  · subst ek
    refine iteDT rfl ⟨_, rfl, _, rfl, (b : Int), (a : Int), rfl, rfl, _, rfl, ?_⟩
    by_cases z : a < b
    · refine iteDT (by omega) ⟨_, rfl, _, rfl, l, a, rfl, by omega, by omega, _, rfl, _, rfl, (b : Int), _, rfl, rfl, l, b - 1, ?_, by omega, by omega, (by show 2 ≤ sizeLine; decide), fun u hu => ?_⟩
      · show [V.str (S l), V.int ((b : Int) - 1)] = _
        rw [show (b : Int) - 1 = ((b - 1 : Nat) : Int) by omega]
      · refine q u _ (same_new hu _) ?_
        unfold lastR
        rw [if_pos ⟨rfl, z⟩]
        exact upd_same
    · exact iteDF (by omega) ⟨_, rfl, _, rfl, l, a, rfl, by omega, by omega, _, rfl, _, rfl, l, b, rfl, by omega, by omega, (by show 2 ≤ sizeLine; decide), goF (other fun h => z h.2)⟩
  · exact iteDF (fun z => ek (S_inj (V.str.inj z))) (iteF ⟨_, rfl, _, rfl, l, a, rfl, by omega, by omega, _, rfl, _, rfl, l, b, rfl, by omega, by omega, (by show 2 ≤ sizeLine; decide), goF (other fun h => ek h.1)⟩)
end

/-! the program's fits and spliced where a splice fits, joining, joined -/

theorem keyNe {a b : Nat} (h : ¬ a = b) : ¬ V.str (S [a]) = V.str (S [b]) := fun z => h (List.cons.inj (S_inj (V.str.inj z))).1
def fitC (l : List Nat) (s : Spl) : Prop := s.1 ≤ l.length ∧ cutT l s.1 (s.1 + s.2.1.length) = s.2.1
def sp_fitsC : Sp := fun vs H Q _ => ∃ (t : Addr) (l : List Nat) (s : Spl), vs = [.str (S l), .ref t] ∧ H t = some (.tup [nV s.1, .str (S s.2.1), .str (S s.2.2)]) ∧ l.length ≤ 10000 ∧ s.2.1.length ≤ 10000 ∧ fitC l s ∧ Q (.bl true) H
def sp_splicedC : Sp := fun vs H Q _ => ∃ (t : Addr) (l : List Nat) (s : Spl), vs = [.str (S l), .ref t] ∧ H t = some (.tup [nV s.1, .str (S s.2.1), .str (S s.2.2)]) ∧ l.length ≤ 10000 ∧ s.2.1.length ≤ 10000 ∧ s.2.2.length ≤ 10000 ∧ fitC l s ∧ Q (.str (S (l.take s.1 ++ s.2.2 ++ l.drop (s.1 + s.2.1.length)))) H
def sp_joining : Sp := fun vs H Q _ => ∃ (l : List Nat) (r k : Nat), vs = [.str (S l), .int (r : Int)] ∧ l.length ≤ 1000 ∧ r < l.count 10 ∧ endAt l r + 1 + k ≤ l.length ∧ (∀ j, endAt l r + 1 ≤ j → j < endAt l r + 1 + k → l[j]? = some 32) ∧ ¬ l[endAt l r + 1 + k]? = some 32 ∧ ∀ u H', Same H H' → H' u = some (.tup [nV (endAt l r), .str (S (cutT l (endAt l r) (endAt l r + 1 + k))), .str (S [32])]) → Q (.ref u) H'
def sp_joined : Sp := fun vs H Q _ => ∃ (t : Addr) (l : List Nat) (o : Nat × Nat × List Nat), vs = [.str (S l), .ref t] ∧ H t = some (.tup [nV o.1, nV o.2.1, .str (S o.2.2)]) ∧ l.length ≤ 600 ∧ StGood l o ∧ ∀ v H', Same H H' → DoneV H H' v (vbJ 74 l o []) → Q v H'
def joP (l : List Nat) (r m : Nat) (H : Hp) (σ : St) (H' : Hp) : Prop := H = H' ∧ ∃ k : Nat, σ = [some (.str (S l)), some (.int (r : Int)), some (nV (endAt l r)), some (.int (k : Int))] ∧ m ≤ k ∧ k ≤ l.length ∧ ∀ j, m ≤ j → j < k → l[j]? = some 32
def joM (l : List Nat) (σ : St) (_ : Hp) : Nat := match σ with | [_, _, _, some (.int k)] => ((l.length : Int) - k).toNat | _ => 0
theorem end_of_T {l T : List Nat} {r : Nat} (hr : r < l.count 10) (h : T.take (endAt l r + 1) = l.take (endAt l r + 1)) : endAt T r = endAt l r ∧ r < T.count 10 := by
  have h10 : l[endAt l r]? = some 10 := occs_iff.mp (List.mem_of_getElem? (occs_at hr))
  have hT : T[endAt l r]? = some 10 := by
    rw [← h10, ← List.getElem?_take_of_lt (l := T) (show endAt l r < endAt l r + 1 by omega), h, List.getElem?_take_of_lt (by omega)]
  have ht : T.take (endAt l r) = l.take (endAt l r) := by
    have := congrArg (List.take (endAt l r)) h
    rwa [List.take_take, List.take_take, Nat.min_eq_left (by omega)] at this
  have e1 : rno T (endAt l r) = r := by
    have := rno_at (l := l) (r := r) (p := endAt l r) (by omega) (beg_le (by omega)) (Nat.le_refl _)
    unfold rno at this ⊢
    rw [ht]
    exact this
  obtain ⟨i, hi, ei⟩ := occs_nth hT
  have e2 := rno_at (l := T) (r := i) (p := endAt T i) (by omega) (beg_le (by omega)) (Nat.le_refl _)
  rw [ei, e1] at e2
  subst e2
  exact ⟨ei, hi⟩
theorem noB_head (t : List Nat) : ¬ (noB t).head? = some 32 := by
  unfold noB
  induction t with
  | nil => exact fun z => by cases z
  | cons c t ih =>
    rw [List.dropWhile_cons]
    by_cases e : (c == 32) = true
    · rw [if_pos e]
      exact ih
    · rw [if_neg e]
      intro z
      rw [List.head?_cons] at z
      cases z
      exact e rfl
theorem TJ_len {l : List Nat} {bt i : Nat} (hb : bt ≤ l.count 10) (hi : i ≤ bt) : (TJ l bt i).length ≤ l.length := by
  have h1 := tail_len hb hi
  have h2 := end_le (l := l) (i := bt) (by omega)
  unfold TJ
  rw [List.length_append, List.length_append, List.length_take, List.length_drop]
  omega
theorem TJ_facts {l : List Nat} {bt i : Nat} (hb : bt ≤ l.count 10) (hi : i < bt) :
    endAt (TJ l bt i) (bt - 1 - i) = (splJ l bt i).1 ∧ bt - 1 - i < (TJ l bt i).count 10 ∧ (splJ l bt i).1 + 1 + blkN (tailJ l bt i) ≤ (TJ l bt i).length ∧
    (∀ j, (splJ l bt i).1 + 1 ≤ j → j < (splJ l bt i).1 + 1 + blkN (tailJ l bt i) → (TJ l bt i)[j]? = some 32) ∧ ¬ (TJ l bt i)[(splJ l bt i).1 + 1 + blkN (tailJ l bt i)]? = some 32 ∧
    fitC (TJ l bt i) (splJ l bt i) ∧ (TJ l bt i).take (splJ l bt i).1 ++ (splJ l bt i).2.2 ++ (TJ l bt i).drop ((splJ l bt i).1 + (splJ l bt i).2.1.length) = TJ l bt (i + 1) := by
  obtain ⟨r, hr⟩ : ∃ r, bt - i = r + 1 := ⟨bt - i - 1, by omega⟩
  have hr' : bt - 1 - i = r := by omega
  have hrc : r < l.count 10 := by omega
  have es : (splJ l bt i).1 = endAt l r := by
    unfold splJ
    rw [hr]
    rfl
  have hel := end_le (l := l) (i := r) (by omega)
  have h10 : l[endAt l r]? = some 10 := occs_iff.mp (List.mem_of_getElem? (occs_at hrc))
  have e1 : l.take (endAt l r + 1) = l.take (endAt l r) ++ [10] := by
    rw [List.take_succ, h10]
    rfl
  have hlt : endAt l r < l.length := (List.getElem?_eq_some_iff.mp h10).1
  have hP : (l.take (endAt l r + 1)).length = endAt l r + 1 := by rw [List.length_take]; omega
  have eT : TJ l bt i = l.take (endAt l r + 1) ++ (List.replicate (blkN (tailJ l bt i)) 32 ++ (noB (tailJ l bt i) ++ l.drop (endAt l bt))) := by
    have hb' := blk_rep (tailJ l bt i)
    have e0 : TJ l bt i = l.take (endAt l r + 1) ++ (tailJ l bt i ++ l.drop (endAt l bt)) := by
      unfold TJ
      rw [hr]
      rfl
    rw [e0]
    generalize blkN (tailJ l bt i) = k at hb' ⊢
    generalize noB (tailJ l bt i) = n at hb' ⊢
    rw [hb', List.append_assoc]
  have w1 := TJ_step hb hi []
  have w2 : walkS (TJ l bt (i + 1)) [] = some (TJ l bt (i + 1)) := rfl
  rw [w2] at w1
  unfold walkS at w1
  have hfit : (splJ l bt i).1 ≤ (TJ l bt i).length ∧ cutT (TJ l bt i) (splJ l bt i).1 ((splJ l bt i).1 + (splJ l bt i).2.1.length) = (splJ l bt i).2.1 := by
    by_cases c : (splJ l bt i).1 ≤ (TJ l bt i).length ∧ cutT (TJ l bt i) (splJ l bt i).1 ((splJ l bt i).1 + (splJ l bt i).2.1.length) = (splJ l bt i).2.1
    · exact c
    · rw [if_neg c] at w1
      cases w1
  rw [if_pos hfit] at w1
  have w3 := Option.some.inj w1
  have hfit0 : fitC (TJ l bt i) (splJ l bt i) := hfit
  rw [es] at w3
  rw [hr', es]
  have hE := end_of_T (l := l) (T := TJ l bt i) hrc (by rw [eT]; exact List.take_left' hP)
  refine ⟨hE.1, hE.2, ?_, fun j h1 h2 => ?_, ?_, hfit0, w3⟩
  · rw [eT, List.length_append, List.length_append, hP, List.length_replicate]
    omega
  · rw [eT, List.getElem?_append_right (by omega), hP, List.getElem?_append_left (by rw [List.length_replicate]; omega), List.getElem?_replicate, if_pos (by omega)]
  · rw [eT, List.getElem?_append_right (by omega), hP, List.getElem?_append_right (by rw [List.length_replicate]; omega), List.length_replicate, show endAt l r + 1 + blkN (tailJ l bt i) - (endAt l r + 1) - blkN (tailJ l bt i) = 0 by omega]
    have nh := noB_head (tailJ l bt i)
    generalize noB (tailJ l bt i) = n at nh ⊢
    cases n with
    | cons c n => exact fun z => nh z
    | nil =>
      rw [List.nil_append, List.getElem?_drop, Nat.add_zero]
      rcases Nat.lt_or_ge bt (l.count 10) with z | z
      · rw [occs_iff.mp (List.mem_of_getElem? (occs_at z))]
        decide
      · have : bt = l.count 10 := by omega
        rw [this, endAt_last, List.getElem?_eq_none (Nat.le_refl _)]
        exact fun z => by cases z
section
variable {P : Program} {w : World} {K : PySem.W.Frag} {mg : Str → Option Value} {base : Heap} {f A_PUTTING A_INDENTING : Addr} {fd : FuncData}
theorem sc_fits : FnScope ["text", "splice", "at", "out"] ["text", "splice"] (defScope s_fits) := ⟨rfl, rfl, rfl, by decide +kernel, rfl, by decide +kernel, by decide +kernel⟩
theorem ok_fitsC (F : Fun K "fits" "fits" s_fits f fd) (O_is_place : Own P w K mg base CX0 2 "is_place" ["text", "place"] sp_is_place) (m_len : mg "len" = none) : FnOk P w K mg base CX0 3 f fd ["text", "splice"] sp_fitsC := by
  refine F.ok sc_fits (fun vs H Q E h => ?_) (fun cdv A outer s H vs Q E hr h => ?_)
  · obtain ⟨t, l, s, rfl, _⟩ := h
    rfl
  obtain ⟨t, l, sp, rfl, ht, hl, ho, hf, q⟩ := h
  refine ⟨_, (pss_cons (ps_set (i := 2) sc_fits.nd rfl (Or.inl rfl) (pe_ix ix_tup (pv 1) pe_int (fun _ _ => rfl)))
      (pss_cons (ps_set (i := 3) sc_fits.nd rfl (Or.inl rfl) (pe_ix ix_tup (pv 1) pe_int (fun _ _ => rfl)))
      (pss_one (ps_ret (pe_and (pe_own O_is_place hr (by rfl) pass0 (pa_cons (pv 0) (pa_cons (pv 2) pa_nil))) (pe_one (pe_cmpR op_eq (pe_slice sl_str (pv 0) (po_some (pv 2)) (po_some (pe_op op_add (pv 2) (pe_callB call_lenS (by rfl) m_len PySem.boot_len (pa_cons (pv 3) pa_nil))))) (pv 3) (nomark _)))))))), ?_⟩
  refine ⟨_, rfl, t, _, _, _, rfl, rfl, SqT.of ht, rfl, _, rfl, t, _, _, _, rfl, rfl, SqT.of ht, rfl, ?_⟩
  refine ⟨_, rfl, _, rfl, .inl ⟨l, _, rfl, by omega, _, rfl, ?_⟩⟩
  rw [inP_iff.mpr ⟨by omega, by have := hf.1; omega⟩]
  refine iteT ⟨_, rfl, _, rfl, (sp.1 : Int), rfl, _, rfl, _, rfl, sp.2.1, rfl, small (by omega), _, _, rfl, rfl, (sp.1 : Int) + (sp.2.1.length : Int), rfl, l, rfl, small (by omega), _, rfl, rfl, ?_⟩
  have e : cutL l (some (sp.1 : Int)) (some ((sp.1 : Int) + (sp.2.1.length : Int))) = sp.2.1 := by
    have := cutL_nn l sp.1 (sp.1 + sp.2.1.length)
    rw [show ((sp.1 + sp.2.1.length : Nat) : Int) = (sp.1 : Int) + (sp.2.1.length : Int) by omega] at this
    rw [this]
    exact hf.2
  show Q (V.bl (decide (V.str (S (cutL l (some (sp.1 : Int)) (some ((sp.1 : Int) + (sp.2.1.length : Int))))) = V.str (S sp.2.1)))) H
  rw [e, decide_eq_true rfl]
  exact q
theorem sc_spliced : FnScope ["text", "splice", "at", "out", "put"] ["text", "splice"] (defScope s_spliced) := ⟨rfl, rfl, rfl, by decide +kernel, rfl, by decide +kernel, by decide +kernel⟩
theorem ok_splicedC (F : Fun K "spliced" "spliced" s_spliced f fd) (O_fits : Own P w K mg base CX0 3 "fits" ["text", "splice"] sp_fitsC) (m_len : mg "len" = none) : FnOk P w K mg base CX0 4 f fd ["text", "splice"] sp_splicedC := by
  refine F.ok sc_spliced (fun vs H Q E h => ?_) (fun cdv A outer s H vs Q E hr h => ?_)
  · obtain ⟨t, l, s, rfl, _⟩ := h
    rfl
  obtain ⟨t, l, sp, rfl, ht, hl, ho, hu, hf, q⟩ := h
  refine ⟨_, (pss_cons (ps_if (pt_not (pt_val (pe_own O_fits hr (by rfl) pass0 (pa_cons (pv 0) (pa_cons (pv 1) pa_nil))))) pss_never pss_nil)
      (pss_cons (ps_set (i := 2) sc_spliced.nd rfl (Or.inl rfl) (pe_ix ix_tup (pv 1) pe_int (fun _ _ => rfl)))
      (pss_cons (ps_set (i := 3) sc_spliced.nd rfl (Or.inl rfl) (pe_ix ix_tup (pv 1) pe_int (fun _ _ => rfl)))
      (pss_cons (ps_set (i := 4) sc_spliced.nd rfl (Or.inl rfl) (pe_ix ix_tup (pv 1) pe_int (fun _ _ => rfl)))
      (pss_one (ps_ret (pe_op op_adS (pe_op op_adS (pe_slice sl_str (pv 0) po_none (po_some (pv 2))) (pv 4)) (pe_slice sl_str (pv 0) (po_some (pe_op op_add (pv 2) (pe_callB call_lenS (by rfl) m_len PySem.boot_len (pa_cons (pv 3) pa_nil)))) po_none)))))))), ?_⟩
  refine ⟨_, rfl, _, rfl, t, l, sp, rfl, ht, hl, ho, hf, _, rfl, iteF ?_⟩
  refine ⟨_, rfl, t, _, _, _, rfl, rfl, SqT.of ht, rfl, _, rfl, t, _, _, _, rfl, rfl, SqT.of ht, rfl, _, rfl, t, _, _, _, rfl, rfl, SqT.of ht, rfl, ?_⟩
  have e1 : cutL l none (some (sp.1 : Int)) = l.take sp.1 := cutL_m l _
  have e2 : cutL l (some ((sp.1 : Int) + (sp.2.1.length : Int))) none = l.drop (sp.1 + sp.2.1.length) := by
    rw [show (sp.1 : Int) + (sp.2.1.length : Int) = ((sp.1 + sp.2.1.length : Nat) : Int) by omega]
    exact cutL_n l _
  refine ⟨_, rfl, _, rfl, (sp.1 : Int), rfl, l, rfl, small (by omega), _, rfl, _, _, rfl, rfl, ?_, _, rfl, _, rfl, _, rfl, sp.2.1, rfl, small (by omega), _, _, rfl, rfl, (sp.1 : Int) + (sp.2.1.length : Int), rfl, l, rfl, small (by omega), _, _, rfl, rfl, ?_, ?_⟩
  · rw [e1]
    exact small (by rw [List.length_take]; omega)
  · rw [e1, e2]
    exact small (by rw [List.length_append, List.length_take, List.length_drop]; omega)
  · rw [e1, e2]
    exact q
theorem sc_joining : FnScope ["text", "row", "at", "high"] ["text", "row"] (defScope s_joining) := ⟨rfl, rfl, rfl, by decide +kernel, rfl, by decide +kernel, by decide +kernel⟩
theorem ok_joining (F : Fun K "joining" "joining" s_joining f fd) (O_end_of : Own P w K mg base CX0 5 "end_of" ["text", "row"] sp_end_in) (m_len : mg "len" = none) : FnOk P w K mg base CX0 6 f fd ["text", "row"] sp_joining := by
  refine F.ok sc_joining (fun vs H Q E h => ?_) (fun cdv A outer s H vs Q E hr h => ?_)
  · obtain ⟨l, r, k, rfl, _⟩ := h
    rfl
  obtain ⟨l, r, k, rfl, hl, hrc, hkl, hbl, hne, q⟩ := h
  refine ⟨_, (pss_cons (ps_set (i := 2) sc_joining.nd rfl (Or.inl rfl) (pe_own O_end_of hr (by rfl) pass0 (pa_cons (pv 0) (pa_cons (pv 1) pa_nil))))
      (pss_cons (ps_set (i := 3) sc_joining.nd rfl (Or.inl rfl) (pe_op op_add (pv 2) pe_int))
      (pss_cons (ps_while PassesOwn.never (PW.pt (pw_and (pt_cmpR op_lt (pv 3) (pe_callB call_lenS (by rfl) m_len PySem.boot_len (pa_cons (pv 0) pa_nil)) (nomark _)) (pw_and1 (pt_cmpR op_eq (pe_ix ix_S (pv 0) (pv 3) (fun _ _ => rfl)) pe_str (nomark _))))) (pss_one (ps_set (i := 3) sc_joining.nd rfl (Or.inl rfl) (pe_op op_add (pv 3) pe_int))))
      (pss_one (ps_ret (pe_tup (pa_cons (pv 2) (pa_cons (pe_slice sl_str (pv 0) (po_some (pv 2)) (po_some (pv 3))) (pa_cons pe_str pa_nil))))))))), ?_⟩
  refine ⟨_, rfl, _, rfl, l, r, rfl, by omega, by omega, fun H1 S1 => ?_⟩
  refine ⟨_, rfl, _, _, rfl, rfl, ?_⟩
  refine gname_go (seq_at (seq_to (fun σ H' => H1 = H' ∧ σ = [some (.str (S l)), some (.int (r : Int)), some (nV (endAt l r)), some (.int ((endAt l r + 1 + k : Nat) : Int))]) (fun nx fin => ?_) ?_))
  · refine while_in (joP l r (endAt l r + 1) H1) (joM l) ⟨rfl, endAt l r + 1, rfl, Nat.le_refl _, by omega, fun j h1 h2 => by omega⟩ ?_
    rintro σ H' ⟨rfl, i, rfl, hi, hil, hn⟩
    have hik : i ≤ endAt l r + 1 + k := Nat.le_of_not_lt fun z => hne (hn _ (by omega) z)
    have stop : ¬ l[i]? = some 32 → i = endAt l r + 1 + k := fun z => Nat.le_antisymm hik (Nat.le_of_not_lt fun c => z (hbl i hi c))
    refine ⟨_, rfl, _, rfl, l, rfl, small (by omega), _, _, rfl, rfl, _, rfl, ?_⟩
    by_cases z : (i : Int) < (l.length : Int)
    · have hz : i < l.length := by omega
      have hg : l[i]? = some (l[i]) := List.getElem?_eq_getElem hz
      have hat : atI l (i : Int) = some (l[i]) := atI_nat hg
      generalize l[i] = y at hg hat
      refine iteDT z ⟨_, rfl, _, rfl, l, _, _, rfl, rfl, small (by omega), hat, rfl, _, rfl, ?_⟩
      by_cases e : y = 32
      · subst e
        refine iteDT rfl ⟨_, turn_N (Pv := joP l r (endAt l r + 1) H1) (μ := joM l), ?_⟩
        refine ⟨_, rfl, _, _, rfl, rfl, ⟨rfl, i + 1, rfl, by omega, by omega, fun j h1 h2 => ?_⟩, ?_⟩
        · by_cases ej : j = i
          · rw [ej]; exact hg
          · exact hn j h1 (by omega)
        · show ((l.length : Int) - ((i : Int) + 1)).toNat < ((l.length : Int) - (i : Int)).toNat
          omega
      · refine iteDF (keyNe e) (fin _ _ ⟨rfl, ?_⟩)
        rw [← stop (by rw [hg]; exact fun zz => e (Option.some.inj zz))]
    · refine iteDF z (iteF (fin _ _ ⟨rfl, ?_⟩))
      rw [← stop (by rw [List.getElem?_eq_none (by omega)]; exact fun zz => by cases zz)]
  rintro σ H' ⟨rfl, rfl⟩
  have e : cutL l (some ((endAt l r : Nat) : Int)) (some ((endAt l r + 1 + k : Nat) : Int)) = cutT l (endAt l r) (endAt l r + 1 + k) := cutL_nn l _ _
  refine ⟨_, rfl, _, rfl, _, rfl, ((endAt l r : Nat) : Int), rfl, _, rfl, ((endAt l r + 1 + k : Nat) : Int), rfl, l, rfl, small (by omega), (by show 3 ≤ sizeLine; decide), fun u hu => q u _ (S1.trans (same_new hu _)) ?_⟩
  rw [upd_same, e]
  rfl
theorem sc_joined : FnScope ["text", "one", "rows", "first", "last", "place", "splices", "row", "splice"] ["text", "one"] (defScope s_joined) := ⟨rfl, rfl, rfl, by decide +kernel, rfl, by decide +kernel, by decide +kernel⟩
theorem ok_joined (F : Fun K "joined" "joined" s_joined f fd) (O_rows_in : Own P w K mg base CX0 5 "rows_in" ["text", "one"] sp_rows_in) (O_row_count : Own P w K mg base CX0 1 "row_count" ["text"] sp_row_count) (O_end_of : Own P w K mg base CX0 5 "end_of" ["text", "row"] sp_end_in) (O_joining : Own P w K mg base CX0 6 "joining" ["text", "row"] sp_joining) (O_spliced : Own P w K mg base CX0 4 "spliced" ["text", "splice"] sp_splicedC) (m_max : mg "max" = none) (m_range : mg "range" = none) :
    FnOk P w K mg base CX0 17 f fd ["text", "one"] sp_joined := by
  refine F.ok sc_joined (fun vs H Q E h => ?_) (fun cdv A outer s H vs Q E hr h => ?_)
  · obtain ⟨t, l, o, rfl, _⟩ := h
    rfl
  obtain ⟨t, l, o, rfl, ht, hl, hg, q⟩ := h
  refine ⟨_, (pss_cons (ps_set (i := 2) sc_joined.nd rfl (Or.inl rfl) (pe_own O_rows_in hr (by rfl) pass0 (pa_cons (pv 0) (pa_cons (pv 1) pa_nil))))
      (pss_cons (ps_set (i := 3) sc_joined.nd rfl (Or.inl rfl) (pe_ix ix_tup (pv 2) pe_int (fun _ _ => rfl)))
      (pss_cons (ps_set (i := 4) sc_joined.nd rfl (Or.inl rfl) (pe_callB (call_max2 (by rfl)) (by rfl) m_max boot_max (pa_cons (pe_ix ix_tup (pv 2) pe_int (fun _ _ => rfl)) (pa_cons (pe_op op_add (pv 3) pe_int) pa_nil))))
      (pss_cons (ps_if (pt_cmpR op_ge (pv 4) (pe_own O_row_count hr (by rfl) pass0 (pa_cons (pv 0) pa_nil)) (nomark _)) (pss_one (ps_ret pe_non)) pss_nil)
      (pss_cons (ps_set (i := 5) sc_joined.nd rfl (Or.inl rfl) (pe_own O_end_of hr (by rfl) pass0 (pa_cons (pv 0) (pa_cons (pv 3) pa_nil))))
      (pss_cons (ps_set (i := 6) sc_joined.nd rfl (Or.inl rfl) (pe_lst pa_nil))
      (pss_cons (ps_for PassesOwn.never rfl (pi_range3 (by rfl) m_range (pa_cons (pe_op op_sub (pv 4) pe_int) (pa_cons (pe_op op_sub (pv 3) pe_int) (pa_cons (pe_un un_neg pe_int) pa_nil)))) (pg_name (i := 7) sc_joined.nd rfl (Or.inl rfl)) (pss_cons (ps_set (i := 8) sc_joined.nd rfl (Or.inl rfl) (pe_own O_joining hr (by rfl) pass0 (pa_cons (pv 0) (pa_cons (pv 7) pa_nil))))
      (pss_cons (ps_expr (pe_bm PySem.F.plainAttrs_list PySem.F.slot_list_append PySem.F.type_list_append mt_append (pv 6) (pa_cons (pv 8) pa_nil)))
      (pss_one (ps_set (i := 0) sc_joined.nd rfl (Or.inl rfl) (pe_own O_spliced hr (by rfl) pass0 (pa_cons (pv 0) (pa_cons (pv 8) pa_nil))))))))
      (pss_one (ps_ret (pe_tup (pa_cons (pv 6) (pa_cons (pv 5) (pa_cons pe_non pa_nil))))))))))))), ?_⟩
  obtain ⟨hb1, hb2⟩ := bot_le (l := l) (o := o) hg.1 hg.2.1
  have hcnt := count_le l
  refine ⟨_, rfl, _, rfl, t, l, o, rfl, ht, by omega, hg, fun u H1 S1 hu => ?_⟩
  refine ⟨_, rfl, u, _, _, _, rfl, rfl, SqT.of hu, rfl, ?_⟩
  refine ⟨_, rfl, u, _, _, _, rfl, rfl, SqT.of hu, rfl, _, rfl, _, _, rfl, rfl, _, _, rfl, ?_⟩
  have ebt : (if ((rno l o.1 : Nat) : Int) + 1 > ((lastR l o : Nat) : Int) then ((rno l o.1 : Nat) : Int) + 1 else ((lastR l o : Nat) : Int)) = ((botJ l o : Nat) : Int) := by
    unfold botJ
    split <;> omega
  show gName _ (V.int (if ((rno l o.1 : Nat) : Int) + 1 > ((lastR l o : Nat) : Int) then ((rno l o.1 : Nat) : Int) + 1 else ((lastR l o : Nat) : Int))) _ _ _
  rw [ebt]
  refine ⟨_, rfl, _, rfl, l, rfl, _, _, rfl, rfl, _, rfl, ?_⟩
  unfold vbJ at q
  by_cases ec : botJ l o = l.count 10 + 1
  · rw [if_pos ec] at q
    exact iteDT (by omega) (q .non _ S1 rfl)
  rw [if_neg ec] at q
  have hbc : botJ l o ≤ l.count 10 := by omega
  refine iteDF (by omega) ⟨_, rfl, _, rfl, l, rno l o.1, rfl, by omega, by omega, fun H2 S2 => ?_⟩
  refine ⟨Nat.zero_le _, fun B hB => ?_⟩
  refine gname_go (seq_at (seq_to (fun σ H' => Same H2 H' ∧ (∃ T y1 y2 : Option V, σ = [T, some (.ref t), some (.ref u), some (nV (rno l o.1)), some (nV (botJ l o)), some (nV (endAt l (rno l o.1))), some (.ref B), y1, y2]) ∧ TupsV H' B (splV (splsJ l o))) (fun nx fin => ?_) ?_))
  · refine ⟨_, rfl, _, _, rfl, rfl, _, rfl, _, _, rfl, rfl, _, rfl, ((botJ l o : Nat) : Int) - 1, ((rno l o.1 : Nat) : Int) - 1, -1, botJ l o - rno l o.1, rfl, ?_, ?_⟩
    · have := Stp.down (i := ((botJ l o : Nat) : Int) - 1) (j := ((rno l o.1 : Nat) : Int) - 1) (by omega) (by omega) (by omega) (by omega)
      rw [show (((botJ l o : Nat) : Int) - 1 - (((rno l o.1 : Nat) : Int) - 1)).toNat = botJ l o - rno l o.1 by omega] at this
      exact this
    refine for_step (fun i σ H' => Same H2 H' ∧ (∃ y1 y2 : Option V, σ = [some (.str (S (TJ l (botJ l o) i))), some (.ref t), some (.ref u), some (nV (rno l o.1)), some (nV (botJ l o)), some (nV (endAt l (rno l o.1))), some (.ref B), y1, y2]) ∧ TupsV H' B (splV ((List.range i).map (splJ l (botJ l o))))) ⟨same_new hB _, ⟨_, _, by rw [TJ_zero hbc]; rfl⟩, TupsV.nil upd_same⟩ ?_ ?_
    · rintro i σ H' hi ⟨SS, ⟨y1, y2, rfl⟩, hT⟩
      rw [show ((botJ l o : Nat) : Int) - 1 + (i : Int) * -1 = ((botJ l o - 1 - i : Nat) : Int) by omega]
      obtain ⟨f1, f2, f3, f4, f5, f6, f7⟩ := TJ_facts hbc (show i < botJ l o by omega)
      have hTl := TJ_len hbc (show i ≤ botJ l o by omega)
      obtain ⟨ys, hy, hyl, _⟩ := hT.mem
      have hsl : (splJ l (botJ l o) i).2.1.length = 1 + blkN (tailJ l (botJ l o) i) := by
        unfold splJ
        rw [List.length_cons, List.length_replicate]
        omega
      refine ⟨_, rfl, _, rfl, TJ l (botJ l o) i, botJ l o - 1 - i, blkN (tailJ l (botJ l o) i), rfl, by omega, f2, by rw [f1]; exact f3, by rw [f1]; exact f4, by rw [f1]; exact f5, fun c H3 S3 hc => ?_⟩
      have hc' : H3 c = some (.tup [nV (splJ l (botJ l o) i).1, .str (S (splJ l (botJ l o) i).2.1), .str (S (splJ l (botJ l o) i).2.2)]) := by
        rw [hc, f1]
        have := f6.2
        rw [hsl, ← Nat.add_assoc] at this
        rw [this]
        rfl
      refine ⟨_, rfl, .inl ⟨rfl, _, SqL.of (S3 _ _ hy)⟩, _, rfl, ?_⟩
      refine ⟨B, ys, _, rfl, rfl, S3 _ _ hy, ?_, ?_⟩
      · rw [hyl]
        unfold splV
        rw [List.length_map, List.length_map, List.length_range]
        exact Nat.lt_of_lt_of_le (show _ < 1000000 by omega) (small (Nat.le_refl _))
      have hn : c ≠ B := fun e => by
        rw [e, S3 _ _ hy] at hc'
        cases hc'
      refine ⟨_, rfl, _, rfl, c, TJ l (botJ l o) i, splJ l (botJ l o) i, rfl, by rw [L2.upd_ne hn]; exact hc', by omega, by omega, (by show 1 ≤ 10000; decide), f6, ?_⟩
      rw [f7]
      refine ⟨same_upd (SS.trans S3) hB, ⟨_, _, rfl⟩, ?_⟩
      rw [List.range_succ, List.map_append]
      show TupsV _ B (splV (_ ++ [splJ l (botJ l o) i]))
      rw [splV_snoc']
      exact TupsV.snoc (hT.same S3) (S3 _ _ hy) hc'
    · rintro σ H' ⟨SS, ⟨y1, y2, e⟩, hT⟩
      exact fin _ _ ⟨SS, ⟨_, y1, y2, e⟩, hT⟩
  rintro σ H3 ⟨S3, ⟨T, y1, y2, rfl⟩, hT⟩
  have S13 := (S1.trans S2).trans S3
  exact ⟨_, rfl, _, rfl, (by show 3 ≤ sizeLine; decide), fun v hv => q _ _ (S13.trans (same_new hv _)) ⟨v, B, .non, rfl, upd_same, hT.same (same_new hv _), rfl, (S1.trans S2).free hB⟩⟩
end
section
variable {P : Program} {w : World} {K : PySem.W.Frag} {mg : Str → Option Value} {base : Heap} {f A_PUTTING A_INDENTING : Addr} {fd : FuncData}
theorem sc_done_unbounded : FnScope ["key", "text", "one", "typed"] ["key", "text", "one", "typed"] (defScope s_done_unbounded) := ⟨rfl, rfl, rfl, by decide +kernel, rfl, by decide +kernel, by decide +kernel⟩
theorem ok_unbJ {pts its : List (List Nat × Tok × Addr)} (F : Fun K "done_unbounded" "done_unbounded" s_done_unbounded f fd) (O_done_to_pieces : Own P w K mg base CX0 1 "done_to_pieces" ["key", "text", "one", "typed"] (fun _ _ _ _ => False)) (O_indented : Own P w K mg base CX0 1 "indented" ["key", "text", "one"] (fun _ _ _ _ => False)) (O_joined : Own P w K mg base CX0 17 "joined" ["text", "one"] sp_joined)
    (m_PUTTING : mg "PUTTING" = some (.ref A_PUTTING)) (DP : KDict K w A_PUTTING pts) (hno : (kAt pts [74]).isSome = false) (m_INDENTING : mg "INDENTING" = some (.ref A_INDENTING)) (DI : KDict K w A_INDENTING its) (hno2 : (kAt its [74]).isSome = false) : FnOk P w K mg base CX0 18 f fd ["key", "text", "one", "typed"] (sp_doneK (fun k => k = 74) vbJ) := by
  refine F.ok sc_done_unbounded (fun vs H Q E h => ?_) (fun cdv A outer s H vs Q E hr h => ?_)
  · obtain ⟨k, t, l, o, ty, rfl, _⟩ := h
    rfl
  obtain ⟨k, t, l, o, ty, rfl, rfl, ht, hl, hasc, hg, hty, q⟩ := h
  refine ⟨_, (pss_cons (ps_if (pt_cmp (pc_kin (pv 0) (pe_glob (v := .ref A_PUTTING) (by rfl) m_PUTTING rfl))) (pss_one (ps_ret (pe_own O_done_to_pieces hr (by rfl) pass0 (pa_cons (pv 0) (pa_cons (pv 1) (pa_cons (pv 2) (pa_cons (pv 3) pa_nil))))))) pss_nil)
      (pss_cons (ps_if (pt_cmp (pc_kin (pv 0) (pe_glob (v := .ref A_INDENTING) (by rfl) m_INDENTING rfl))) (pss_one (ps_ret (pe_own O_indented hr (by rfl) pass0 (pa_cons (pv 0) (pa_cons (pv 1) (pa_cons (pv 2) pa_nil)))))) pss_nil)
      (pss_cons (ps_if (pt_cmpR op_eq (pv 0) pe_str (nomark _)) (pss_one (ps_ret (pe_own O_joined hr (by rfl) pass0 (pa_cons (pv 1) (pa_cons (pv 2) pa_nil))))) pss_nil)
      (pss_one (ps_ret pe_non))))), ?_⟩
  refine ⟨_, rfl, A_PUTTING, pts, [74], rfl, DP, rfl, _, rfl, ?_⟩
  rw [hno]
  refine iteF ⟨_, rfl, A_INDENTING, its, [74], rfl, DI, rfl, _, rfl, ?_⟩
  rw [hno2]
  exact iteF ⟨_, rfl, rfl, _, rfl, iteDT rfl ⟨_, rfl, _, rfl, t, l, o, rfl, ht, hl, hg, q⟩⟩
end

end My

set_option Elab.async false
set_option linter.all false
set_option maxRecDepth 100000
set_option maxHeartbeats 4000000
namespace My
open PySem L2



theorem fn_false {P : Program} {w : World} {K : PySem.W.Frag} {mg : Str → Option Value} {base : Heap} {f : Addr} {fd : FuncData} {k : Nat} {ps : List Str} : FnOk P w K mg base CX0 k f fd ps (fun _ _ _ _ => False) := ⟨fun _ _ _ _ h => h.elim, fun _ _ _ _ _ _ _ _ _ _ _ _ _ h => h.elim⟩
/-! what is told, held to the bound: where nothing grows, all is told -/
theorem sum_neg : ∀ {ns : List Int}, (∀ n ∈ ns, n ≤ 0) → ns.sum ≤ 0
  | [], _ => Int.le_refl 0
  | n :: ns, h => by
    have h1 := h n (.head _)
    have h2 := sum_neg (ns := ns) (fun m hm => h m (.tail _ hm))
    rw [List.sum_cons]
    omega
theorem bnd_id {l : List Nat} {sps : List Spl} {p : Nat} {sh : Shf} (hl : l.length ≤ 600) (h : ∀ s ∈ sps, s.2.2.length ≤ s.2.1.length) : bnd l (some (sps, p, sh)) = some (sps, p, sh) := by
  have z : (dif sps).sum ≤ 0 := sum_neg fun n hn => by
    unfold dif at hn
    obtain ⟨s, hs, rfl⟩ := List.mem_map.mp hn
    have := h s hs
    omega
  exact if_neg (by omega)

theorem vbJ_is {k : Nat} {l : List Nat} {o : Nat × Nat × List Nat} {ty : List Nat} (hl : l.length ≤ 600) : bnd l (vbJ k l o ty) = vbJ k l o ty := by
  unfold vbJ
  split
  · rfl
  · refine bnd_id hl fun s hs => ?_
    unfold splsJ at hs
    obtain ⟨i, _, rfl⟩ := List.mem_map.mp hs
    show 1 ≤ (10 :: List.replicate _ 32).length
    rw [List.length_cons]
    omega
theorem blk_le (t : List Nat) : blkN t ≤ t.length := by
  have := congrArg List.length (blk_rep t)
  rw [List.length_append, List.length_replicate] at this
  omega
theorem vbJ_z {k : Nat} {l : List Nat} {o : Nat × Nat × List Nat} {ty : List Nat} {sps : List Spl} {p : Nat} {sh : Shf} (hl : l.length ≤ 600) (hg : StGood l o) (e : vbJ k l o ty = some (sps, p, sh)) : sps.length ≤ 10000 ∧ ∀ s ∈ sps, s.2.1.length ≤ 1000000 ∧ s.2.2.length ≤ 1000000 := by
  unfold vbJ at e
  obtain ⟨hb1, hb2⟩ := bot_le (l := l) (o := o) hg.1 hg.2.1
  have hc := count_le l
  split at e
  · cases e
  · rename_i hn
    cases e
    have hbc : botJ l o ≤ l.count 10 := by omega
    unfold splsJ
    constructor
    · rw [List.length_map, List.length_range]
      omega
    · intro s hs
      obtain ⟨i, hi, rfl⟩ := List.mem_map.mp hs
      rw [List.mem_range] at hi
      have h1 := tail_len hbc (show i ≤ botJ l o by omega)
      have h2 := end_le (l := l) (i := botJ l o) (by omega)
      have h3 := blk_le (tailJ l (botJ l o) i)
      unfold splJ
      refine ⟨?_, by show 1 ≤ 1000000; decide⟩
      rw [List.length_cons, List.length_replicate]
      omega
theorem doneJ {v : List V} {H : Hp} {Q : VK} {E : XK} (h : sp_doneK (fun k => k = 74) vbJ v H Q E) : sp_doneK (fun k => k = 74) (fun k l o ty => bnd l (vbJ k l o ty)) v H Q E := by
  obtain ⟨k, t, l, o, ty, rfl, hk, ht, hl, hasc, hg, hty, q⟩ := h
  exact ⟨k, t, l, o, ty, rfl, hk, ht, hl, hasc, hg, hty, fun v H' S' hv => q v H' S' (by rw [← vbJ_is hl]; exact hv)⟩
end My

set_option Elab.async false
set_option linter.all false
set_option maxRecDepth 100000
set_option maxHeartbeats 4000000
namespace My
open PySem L2

theorem len0 {α : Type} {us : List α} (h : us.length = 0) : us = [] := List.length_eq_zero_iff.mp h
theorem len1 {α : Type} {us : List α} (h : us.length = 1) : ∃ a, us = [a] := List.length_eq_one_iff.mp h
theorem len2 {α : Type} {us : List α} (h : us.length = 2) : ∃ a b, us = [a, b] := by
  cases us with
  | nil => cases h
  | cons a r => obtain ⟨b, rfl⟩ := len1 (Nat.succ.inj h); exact ⟨a, b, rfl⟩
theorem len3 {α : Type} {us : List α} (h : us.length = 3) : ∃ a b c, us = [a, b, c] := by
  cases us with
  | nil => cases h
  | cons a r => obtain ⟨b, c, rfl⟩ := len2 (Nat.succ.inj h); exact ⟨a, b, c, rfl⟩
theorem len4 {α : Type} {us : List α} (h : us.length = 4) : ∃ a b c d, us = [a, b, c, d] := by
  cases us with
  | nil => cases h
  | cons a r => obtain ⟨b, c, d, rfl⟩ := len3 (Nat.succ.inj h); exact ⟨a, b, c, d, rfl⟩
theorem len5 {α : Type} {us : List α} (h : us.length = 5) : ∃ a b c d e, us = [a, b, c, d, e] := by
  cases us with
  | nil => cases h
  | cons a r => obtain ⟨b, c, d, e, rfl⟩ := len4 (Nat.succ.inj h); exact ⟨a, b, c, d, e, rfl⟩

theorem all_mk {l : PySem.W.OpenLaw} {w : World} {K : PySem.W.Frag} {h : Heap} {mg : Str → Option Value} {fa : Addr} (X : K.In h) (G : h.Ns mainGlobals mg) (hfa : mg "law" = some (.ref fa))
    {f_is_whole : Addr} {od_is_whole an_is_whole : Option Addr} {sl_is_whole : Array (Option Value)} {oc_is_whole kV_is_whole dc_is_whole pm_is_whole cd_is_whole ct_is_whole : Value}
    (a_is_whole : PySem.W.nsIn K mainGlobals "is_whole" = some (some (.ref f_is_whole))) (l_is_whole : K.lookup f_is_whole = some ⟨oc_is_whole, od_is_whole, .func (PySem.W.fnOf "is_whole" "is_whole" (defArgs s_is_whole) (defBody s_is_whole) (defScope s_is_whole) .none kV_is_whole dc_is_whole pm_is_whole an_is_whole cd_is_whole ct_is_whole), sl_is_whole⟩) (c_is_whole : PySem.W.codeIn K cd_is_whole "is_whole" = true) (k_is_whole : PySem.W.keepIn K (.ref f_is_whole) = true)
    {f_is_place : Addr} {od_is_place an_is_place : Option Addr} {sl_is_place : Array (Option Value)} {oc_is_place kV_is_place dc_is_place pm_is_place cd_is_place ct_is_place : Value}
    (a_is_place : PySem.W.nsIn K mainGlobals "is_place" = some (some (.ref f_is_place))) (l_is_place : K.lookup f_is_place = some ⟨oc_is_place, od_is_place, .func (PySem.W.fnOf "is_place" "is_place" (defArgs s_is_place) (defBody s_is_place) (defScope s_is_place) .none kV_is_place dc_is_place pm_is_place an_is_place cd_is_place ct_is_place), sl_is_place⟩) (c_is_place : PySem.W.codeIn K cd_is_place "is_place" = true) (k_is_place : PySem.W.keepIn K (.ref f_is_place) = true)
    {f_is_row : Addr} {od_is_row an_is_row : Option Addr} {sl_is_row : Array (Option Value)} {oc_is_row kV_is_row dc_is_row pm_is_row cd_is_row ct_is_row : Value}
    (a_is_row : PySem.W.nsIn K mainGlobals "is_row" = some (some (.ref f_is_row))) (l_is_row : K.lookup f_is_row = some ⟨oc_is_row, od_is_row, .func (PySem.W.fnOf "is_row" "is_row" (defArgs s_is_row) (defBody s_is_row) (defScope s_is_row) .none kV_is_row dc_is_row pm_is_row an_is_row cd_is_row ct_is_row), sl_is_row⟩) (c_is_row : PySem.W.codeIn K cd_is_row "is_row" = true) (k_is_row : PySem.W.keepIn K (.ref f_is_row) = true)
    {f_check_place : Addr} {od_check_place an_check_place : Option Addr} {sl_check_place : Array (Option Value)} {oc_check_place kV_check_place dc_check_place pm_check_place cd_check_place ct_check_place : Value}
    (a_check_place : PySem.W.nsIn K mainGlobals "check_place" = some (some (.ref f_check_place))) (l_check_place : K.lookup f_check_place = some ⟨oc_check_place, od_check_place, .func (PySem.W.fnOf "check_place" "check_place" (defArgs s_check_place) (defBody s_check_place) (defScope s_check_place) .none kV_check_place dc_check_place pm_check_place an_check_place cd_check_place ct_check_place), sl_check_place⟩) (c_check_place : PySem.W.codeIn K cd_check_place "check_place" = true) (k_check_place : PySem.W.keepIn K (.ref f_check_place) = true)
    {f_check_row : Addr} {od_check_row an_check_row : Option Addr} {sl_check_row : Array (Option Value)} {oc_check_row kV_check_row dc_check_row pm_check_row cd_check_row ct_check_row : Value}
    (a_check_row : PySem.W.nsIn K mainGlobals "check_row" = some (some (.ref f_check_row))) (l_check_row : K.lookup f_check_row = some ⟨oc_check_row, od_check_row, .func (PySem.W.fnOf "check_row" "check_row" (defArgs s_check_row) (defBody s_check_row) (defScope s_check_row) .none kV_check_row dc_check_row pm_check_row an_check_row cd_check_row ct_check_row), sl_check_row⟩) (c_check_row : PySem.W.codeIn K cd_check_row "check_row" = true) (k_check_row : PySem.W.keepIn K (.ref f_check_row) = true)
    {f_row_count : Addr} {od_row_count an_row_count : Option Addr} {sl_row_count : Array (Option Value)} {oc_row_count kV_row_count dc_row_count pm_row_count cd_row_count ct_row_count : Value}
    (a_row_count : PySem.W.nsIn K mainGlobals "row_count" = some (some (.ref f_row_count))) (l_row_count : K.lookup f_row_count = some ⟨oc_row_count, od_row_count, .func (PySem.W.fnOf "row_count" "row_count" (defArgs s_row_count) (defBody s_row_count) (defScope s_row_count) .none kV_row_count dc_row_count pm_row_count an_row_count cd_row_count ct_row_count), sl_row_count⟩) (c_row_count : PySem.W.codeIn K cd_row_count "row_count" = true) (k_row_count : PySem.W.keepIn K (.ref f_row_count) = true)
    {f_row_of : Addr} {od_row_of an_row_of : Option Addr} {sl_row_of : Array (Option Value)} {oc_row_of kV_row_of dc_row_of pm_row_of cd_row_of ct_row_of : Value}
    (a_row_of : PySem.W.nsIn K mainGlobals "row_of" = some (some (.ref f_row_of))) (l_row_of : K.lookup f_row_of = some ⟨oc_row_of, od_row_of, .func (PySem.W.fnOf "row_of" "row_of" (defArgs s_row_of) (defBody s_row_of) (defScope s_row_of) .none kV_row_of dc_row_of pm_row_of an_row_of cd_row_of ct_row_of), sl_row_of⟩) (c_row_of : PySem.W.codeIn K cd_row_of "row_of" = true) (k_row_of : PySem.W.keepIn K (.ref f_row_of) = true)
    {f_column_of : Addr} {od_column_of an_column_of : Option Addr} {sl_column_of : Array (Option Value)} {oc_column_of kV_column_of dc_column_of pm_column_of cd_column_of ct_column_of : Value}
    (a_column_of : PySem.W.nsIn K mainGlobals "column_of" = some (some (.ref f_column_of))) (l_column_of : K.lookup f_column_of = some ⟨oc_column_of, od_column_of, .func (PySem.W.fnOf "column_of" "column_of" (defArgs s_column_of) (defBody s_column_of) (defScope s_column_of) .none kV_column_of dc_column_of pm_column_of an_column_of cd_column_of ct_column_of), sl_column_of⟩) (c_column_of : PySem.W.codeIn K cd_column_of "column_of" = true) (k_column_of : PySem.W.keepIn K (.ref f_column_of) = true)
    {f_begin_of : Addr} {od_begin_of an_begin_of : Option Addr} {sl_begin_of : Array (Option Value)} {oc_begin_of kV_begin_of dc_begin_of pm_begin_of cd_begin_of ct_begin_of : Value}
    (a_begin_of : PySem.W.nsIn K mainGlobals "begin_of" = some (some (.ref f_begin_of))) (l_begin_of : K.lookup f_begin_of = some ⟨oc_begin_of, od_begin_of, .func (PySem.W.fnOf "begin_of" "begin_of" (defArgs s_begin_of) (defBody s_begin_of) (defScope s_begin_of) .none kV_begin_of dc_begin_of pm_begin_of an_begin_of cd_begin_of ct_begin_of), sl_begin_of⟩) (c_begin_of : PySem.W.codeIn K cd_begin_of "begin_of" = true) (k_begin_of : PySem.W.keepIn K (.ref f_begin_of) = true)
    {f_end_of : Addr} {od_end_of an_end_of : Option Addr} {sl_end_of : Array (Option Value)} {oc_end_of kV_end_of dc_end_of pm_end_of cd_end_of ct_end_of : Value}
    (a_end_of : PySem.W.nsIn K mainGlobals "end_of" = some (some (.ref f_end_of))) (l_end_of : K.lookup f_end_of = some ⟨oc_end_of, od_end_of, .func (PySem.W.fnOf "end_of" "end_of" (defArgs s_end_of) (defBody s_end_of) (defScope s_end_of) .none kV_end_of dc_end_of pm_end_of an_end_of cd_end_of ct_end_of), sl_end_of⟩) (c_end_of : PySem.W.codeIn K cd_end_of "end_of" = true) (k_end_of : PySem.W.keepIn K (.ref f_end_of) = true)
    {f_place_of : Addr} {od_place_of an_place_of : Option Addr} {sl_place_of : Array (Option Value)} {oc_place_of kV_place_of dc_place_of pm_place_of cd_place_of ct_place_of : Value}
    (a_place_of : PySem.W.nsIn K mainGlobals "place_of" = some (some (.ref f_place_of))) (l_place_of : K.lookup f_place_of = some ⟨oc_place_of, od_place_of, .func (PySem.W.fnOf "place_of" "place_of" (defArgs s_place_of) (defBody s_place_of) (defScope s_place_of) .none kV_place_of dc_place_of pm_place_of an_place_of cd_place_of ct_place_of), sl_place_of⟩) (c_place_of : PySem.W.codeIn K cd_place_of "place_of" = true) (k_place_of : PySem.W.keepIn K (.ref f_place_of) = true)
    {f_pieces : Addr} {od_pieces an_pieces : Option Addr} {sl_pieces : Array (Option Value)} {oc_pieces kV_pieces dc_pieces pm_pieces cd_pieces ct_pieces : Value}
    (a_pieces : PySem.W.nsIn K mainGlobals "pieces" = some (some (.ref f_pieces))) (l_pieces : K.lookup f_pieces = some ⟨oc_pieces, od_pieces, .func (PySem.W.fnOf "pieces" "pieces" (defArgs s_pieces) (defBody s_pieces) (defScope s_pieces) .none kV_pieces dc_pieces pm_pieces an_pieces cd_pieces ct_pieces), sl_pieces⟩) (c_pieces : PySem.W.codeIn K cd_pieces "pieces" = true) (k_pieces : PySem.W.keepIn K (.ref f_pieces) = true)
    {f_block_pieces : Addr} {od_block_pieces an_block_pieces : Option Addr} {sl_block_pieces : Array (Option Value)} {oc_block_pieces kV_block_pieces dc_block_pieces pm_block_pieces cd_block_pieces ct_block_pieces : Value}
    (a_block_pieces : PySem.W.nsIn K mainGlobals "block_pieces" = some (some (.ref f_block_pieces))) (l_block_pieces : K.lookup f_block_pieces = some ⟨oc_block_pieces, od_block_pieces, .func (PySem.W.fnOf "block_pieces" "block_pieces" (defArgs s_block_pieces) (defBody s_block_pieces) (defScope s_block_pieces) .none kV_block_pieces dc_block_pieces pm_block_pieces an_block_pieces cd_block_pieces ct_block_pieces), sl_block_pieces⟩) (c_block_pieces : PySem.W.codeIn K cd_block_pieces "block_pieces" = true) (k_block_pieces : PySem.W.keepIn K (.ref f_block_pieces) = true)
    {f_fits : Addr} {od_fits an_fits : Option Addr} {sl_fits : Array (Option Value)} {oc_fits kV_fits dc_fits pm_fits cd_fits ct_fits : Value}
    (a_fits : PySem.W.nsIn K mainGlobals "fits" = some (some (.ref f_fits))) (l_fits : K.lookup f_fits = some ⟨oc_fits, od_fits, .func (PySem.W.fnOf "fits" "fits" (defArgs s_fits) (defBody s_fits) (defScope s_fits) .none kV_fits dc_fits pm_fits an_fits cd_fits ct_fits), sl_fits⟩) (c_fits : PySem.W.codeIn K cd_fits "fits" = true) (k_fits : PySem.W.keepIn K (.ref f_fits) = true)
    {f_spliced : Addr} {od_spliced an_spliced : Option Addr} {sl_spliced : Array (Option Value)} {oc_spliced kV_spliced dc_spliced pm_spliced cd_spliced ct_spliced : Value}
    (a_spliced : PySem.W.nsIn K mainGlobals "spliced" = some (some (.ref f_spliced))) (l_spliced : K.lookup f_spliced = some ⟨oc_spliced, od_spliced, .func (PySem.W.fnOf "spliced" "spliced" (defArgs s_spliced) (defBody s_spliced) (defScope s_spliced) .none kV_spliced dc_spliced pm_spliced an_spliced cd_spliced ct_spliced), sl_spliced⟩) (c_spliced : PySem.W.codeIn K cd_spliced "spliced" = true) (k_spliced : PySem.W.keepIn K (.ref f_spliced) = true)
    {f_changing : Addr} {od_changing an_changing : Option Addr} {sl_changing : Array (Option Value)} {oc_changing kV_changing dc_changing pm_changing cd_changing ct_changing : Value}
    (a_changing : PySem.W.nsIn K mainGlobals "changing" = some (some (.ref f_changing))) (l_changing : K.lookup f_changing = some ⟨oc_changing, od_changing, .func (PySem.W.fnOf "changing" "changing" (defArgs s_changing) (defBody s_changing) (defScope s_changing) .none kV_changing dc_changing pm_changing an_changing cd_changing ct_changing), sl_changing⟩) (c_changing : PySem.W.codeIn K cd_changing "changing" = true) (k_changing : PySem.W.keepIn K (.ref f_changing) = true)
    {f_too_long : Addr} {od_too_long an_too_long : Option Addr} {sl_too_long : Array (Option Value)} {oc_too_long kV_too_long dc_too_long pm_too_long cd_too_long ct_too_long : Value}
    (a_too_long : PySem.W.nsIn K mainGlobals "too_long" = some (some (.ref f_too_long))) (l_too_long : K.lookup f_too_long = some ⟨oc_too_long, od_too_long, .func (PySem.W.fnOf "too_long" "too_long" (defArgs s_too_long) (defBody s_too_long) (defScope s_too_long) .none kV_too_long dc_too_long pm_too_long an_too_long cd_too_long ct_too_long), sl_too_long⟩) (c_too_long : PySem.W.codeIn K cd_too_long "too_long" = true) (k_too_long : PySem.W.keepIn K (.ref f_too_long) = true)
    {f_shelved : Addr} {od_shelved an_shelved : Option Addr} {sl_shelved : Array (Option Value)} {oc_shelved kV_shelved dc_shelved pm_shelved cd_shelved ct_shelved : Value}
    (a_shelved : PySem.W.nsIn K mainGlobals "shelved" = some (some (.ref f_shelved))) (l_shelved : K.lookup f_shelved = some ⟨oc_shelved, od_shelved, .func (PySem.W.fnOf "shelved" "shelved" (defArgs s_shelved) (defBody s_shelved) (defScope s_shelved) .none kV_shelved dc_shelved pm_shelved an_shelved cd_shelved ct_shelved), sl_shelved⟩) (c_shelved : PySem.W.codeIn K cd_shelved "shelved" = true) (k_shelved : PySem.W.keepIn K (.ref f_shelved) = true)
    {f_rows_in : Addr} {od_rows_in an_rows_in : Option Addr} {sl_rows_in : Array (Option Value)} {oc_rows_in kV_rows_in dc_rows_in pm_rows_in cd_rows_in ct_rows_in : Value}
    (a_rows_in : PySem.W.nsIn K mainGlobals "rows_in" = some (some (.ref f_rows_in))) (l_rows_in : K.lookup f_rows_in = some ⟨oc_rows_in, od_rows_in, .func (PySem.W.fnOf "rows_in" "rows_in" (defArgs s_rows_in) (defBody s_rows_in) (defScope s_rows_in) .none kV_rows_in dc_rows_in pm_rows_in an_rows_in cd_rows_in ct_rows_in), sl_rows_in⟩) (c_rows_in : PySem.W.codeIn K cd_rows_in "rows_in" = true) (k_rows_in : PySem.W.keepIn K (.ref f_rows_in) = true)
    {f_taken_out : Addr} {od_taken_out an_taken_out : Option Addr} {sl_taken_out : Array (Option Value)} {oc_taken_out kV_taken_out dc_taken_out pm_taken_out cd_taken_out ct_taken_out : Value}
    (a_taken_out : PySem.W.nsIn K mainGlobals "taken_out" = some (some (.ref f_taken_out))) (l_taken_out : K.lookup f_taken_out = some ⟨oc_taken_out, od_taken_out, .func (PySem.W.fnOf "taken_out" "taken_out" (defArgs s_taken_out) (defBody s_taken_out) (defScope s_taken_out) .none kV_taken_out dc_taken_out pm_taken_out an_taken_out cd_taken_out ct_taken_out), sl_taken_out⟩) (c_taken_out : PySem.W.codeIn K cd_taken_out "taken_out" = true) (k_taken_out : PySem.W.keepIn K (.ref f_taken_out) = true)
    {f_left_as_is : Addr} {od_left_as_is an_left_as_is : Option Addr} {sl_left_as_is : Array (Option Value)} {oc_left_as_is kV_left_as_is dc_left_as_is pm_left_as_is cd_left_as_is ct_left_as_is : Value}
    (a_left_as_is : PySem.W.nsIn K mainGlobals "left_as_is" = some (some (.ref f_left_as_is))) (l_left_as_is : K.lookup f_left_as_is = some ⟨oc_left_as_is, od_left_as_is, .func (PySem.W.fnOf "left_as_is" "left_as_is" (defArgs s_left_as_is) (defBody s_left_as_is) (defScope s_left_as_is) .none kV_left_as_is dc_left_as_is pm_left_as_is an_left_as_is cd_left_as_is ct_left_as_is), sl_left_as_is⟩) (c_left_as_is : PySem.W.codeIn K cd_left_as_is "left_as_is" = true) (k_left_as_is : PySem.W.keepIn K (.ref f_left_as_is) = true)
    {f_exchanged : Addr} {od_exchanged an_exchanged : Option Addr} {sl_exchanged : Array (Option Value)} {oc_exchanged kV_exchanged dc_exchanged pm_exchanged cd_exchanged ct_exchanged : Value}
    (a_exchanged : PySem.W.nsIn K mainGlobals "exchanged" = some (some (.ref f_exchanged))) (l_exchanged : K.lookup f_exchanged = some ⟨oc_exchanged, od_exchanged, .func (PySem.W.fnOf "exchanged" "exchanged" (defArgs s_exchanged) (defBody s_exchanged) (defScope s_exchanged) .none kV_exchanged dc_exchanged pm_exchanged an_exchanged cd_exchanged ct_exchanged), sl_exchanged⟩) (c_exchanged : PySem.W.codeIn K cd_exchanged "exchanged" = true) (k_exchanged : PySem.W.keepIn K (.ref f_exchanged) = true)
    {f_great : Addr} {od_great an_great : Option Addr} {sl_great : Array (Option Value)} {oc_great kV_great dc_great pm_great cd_great ct_great : Value}
    (a_great : PySem.W.nsIn K mainGlobals "great" = some (some (.ref f_great))) (l_great : K.lookup f_great = some ⟨oc_great, od_great, .func (PySem.W.fnOf "great" "great" (defArgs s_great) (defBody s_great) (defScope s_great) .none kV_great dc_great pm_great an_great cd_great ct_great), sl_great⟩) (c_great : PySem.W.codeIn K cd_great "great" = true) (k_great : PySem.W.keepIn K (.ref f_great) = true)
    {f_small : Addr} {od_small an_small : Option Addr} {sl_small : Array (Option Value)} {oc_small kV_small dc_small pm_small cd_small ct_small : Value}
    (a_small : PySem.W.nsIn K mainGlobals "small" = some (some (.ref f_small))) (l_small : K.lookup f_small = some ⟨oc_small, od_small, .func (PySem.W.fnOf "small" "small" (defArgs s_small) (defBody s_small) (defScope s_small) .none kV_small dc_small pm_small an_small cd_small ct_small), sl_small⟩) (c_small : PySem.W.codeIn K cd_small "small" = true) (k_small : PySem.W.keepIn K (.ref f_small) = true)
    {f_signs_of_piece : Addr} {od_signs_of_piece an_signs_of_piece : Option Addr} {sl_signs_of_piece : Array (Option Value)} {oc_signs_of_piece kV_signs_of_piece dc_signs_of_piece pm_signs_of_piece cd_signs_of_piece ct_signs_of_piece : Value}
    (a_signs_of_piece : PySem.W.nsIn K mainGlobals "signs_of_piece" = some (some (.ref f_signs_of_piece))) (l_signs_of_piece : K.lookup f_signs_of_piece = some ⟨oc_signs_of_piece, od_signs_of_piece, .func (PySem.W.fnOf "signs_of_piece" "signs_of_piece" (defArgs s_signs_of_piece) (defBody s_signs_of_piece) (defScope s_signs_of_piece) .none kV_signs_of_piece dc_signs_of_piece pm_signs_of_piece an_signs_of_piece cd_signs_of_piece ct_signs_of_piece), sl_signs_of_piece⟩) (c_signs_of_piece : PySem.W.codeIn K cd_signs_of_piece "signs_of_piece" = true) (k_signs_of_piece : PySem.W.keepIn K (.ref f_signs_of_piece) = true)
    {f_done_to_pieces : Addr} {od_done_to_pieces an_done_to_pieces : Option Addr} {sl_done_to_pieces : Array (Option Value)} {oc_done_to_pieces kV_done_to_pieces dc_done_to_pieces pm_done_to_pieces cd_done_to_pieces ct_done_to_pieces : Value}
    (a_done_to_pieces : PySem.W.nsIn K mainGlobals "done_to_pieces" = some (some (.ref f_done_to_pieces))) (l_done_to_pieces : K.lookup f_done_to_pieces = some ⟨oc_done_to_pieces, od_done_to_pieces, .func (PySem.W.fnOf "done_to_pieces" "done_to_pieces" (defArgs s_done_to_pieces) (defBody s_done_to_pieces) (defScope s_done_to_pieces) .none kV_done_to_pieces dc_done_to_pieces pm_done_to_pieces an_done_to_pieces cd_done_to_pieces ct_done_to_pieces), sl_done_to_pieces⟩) (c_done_to_pieces : PySem.W.codeIn K cd_done_to_pieces "done_to_pieces" = true) (k_done_to_pieces : PySem.W.keepIn K (.ref f_done_to_pieces) = true)
    {f_deeper : Addr} {od_deeper an_deeper : Option Addr} {sl_deeper : Array (Option Value)} {oc_deeper kV_deeper dc_deeper pm_deeper cd_deeper ct_deeper : Value}
    (a_deeper : PySem.W.nsIn K mainGlobals "deeper" = some (some (.ref f_deeper))) (l_deeper : K.lookup f_deeper = some ⟨oc_deeper, od_deeper, .func (PySem.W.fnOf "deeper" "deeper" (defArgs s_deeper) (defBody s_deeper) (defScope s_deeper) .none kV_deeper dc_deeper pm_deeper an_deeper cd_deeper ct_deeper), sl_deeper⟩) (c_deeper : PySem.W.codeIn K cd_deeper "deeper" = true) (k_deeper : PySem.W.keepIn K (.ref f_deeper) = true)
    {f_flatter : Addr} {od_flatter an_flatter : Option Addr} {sl_flatter : Array (Option Value)} {oc_flatter kV_flatter dc_flatter pm_flatter cd_flatter ct_flatter : Value}
    (a_flatter : PySem.W.nsIn K mainGlobals "flatter" = some (some (.ref f_flatter))) (l_flatter : K.lookup f_flatter = some ⟨oc_flatter, od_flatter, .func (PySem.W.fnOf "flatter" "flatter" (defArgs s_flatter) (defBody s_flatter) (defScope s_flatter) .none kV_flatter dc_flatter pm_flatter an_flatter cd_flatter ct_flatter), sl_flatter⟩) (c_flatter : PySem.W.codeIn K cd_flatter "flatter" = true) (k_flatter : PySem.W.keepIn K (.ref f_flatter) = true)
    {f_indented : Addr} {od_indented an_indented : Option Addr} {sl_indented : Array (Option Value)} {oc_indented kV_indented dc_indented pm_indented cd_indented ct_indented : Value}
    (a_indented : PySem.W.nsIn K mainGlobals "indented" = some (some (.ref f_indented))) (l_indented : K.lookup f_indented = some ⟨oc_indented, od_indented, .func (PySem.W.fnOf "indented" "indented" (defArgs s_indented) (defBody s_indented) (defScope s_indented) .none kV_indented dc_indented pm_indented an_indented cd_indented ct_indented), sl_indented⟩) (c_indented : PySem.W.codeIn K cd_indented "indented" = true) (k_indented : PySem.W.keepIn K (.ref f_indented) = true)
    {f_joining : Addr} {od_joining an_joining : Option Addr} {sl_joining : Array (Option Value)} {oc_joining kV_joining dc_joining pm_joining cd_joining ct_joining : Value}
    (a_joining : PySem.W.nsIn K mainGlobals "joining" = some (some (.ref f_joining))) (l_joining : K.lookup f_joining = some ⟨oc_joining, od_joining, .func (PySem.W.fnOf "joining" "joining" (defArgs s_joining) (defBody s_joining) (defScope s_joining) .none kV_joining dc_joining pm_joining an_joining cd_joining ct_joining), sl_joining⟩) (c_joining : PySem.W.codeIn K cd_joining "joining" = true) (k_joining : PySem.W.keepIn K (.ref f_joining) = true)
    {f_joined : Addr} {od_joined an_joined : Option Addr} {sl_joined : Array (Option Value)} {oc_joined kV_joined dc_joined pm_joined cd_joined ct_joined : Value}
    (a_joined : PySem.W.nsIn K mainGlobals "joined" = some (some (.ref f_joined))) (l_joined : K.lookup f_joined = some ⟨oc_joined, od_joined, .func (PySem.W.fnOf "joined" "joined" (defArgs s_joined) (defBody s_joined) (defScope s_joined) .none kV_joined dc_joined pm_joined an_joined cd_joined ct_joined), sl_joined⟩) (c_joined : PySem.W.codeIn K cd_joined "joined" = true) (k_joined : PySem.W.keepIn K (.ref f_joined) = true)
    {f_done_unbounded : Addr} {od_done_unbounded an_done_unbounded : Option Addr} {sl_done_unbounded : Array (Option Value)} {oc_done_unbounded kV_done_unbounded dc_done_unbounded pm_done_unbounded cd_done_unbounded ct_done_unbounded : Value}
    (a_done_unbounded : PySem.W.nsIn K mainGlobals "done_unbounded" = some (some (.ref f_done_unbounded))) (l_done_unbounded : K.lookup f_done_unbounded = some ⟨oc_done_unbounded, od_done_unbounded, .func (PySem.W.fnOf "done_unbounded" "done_unbounded" (defArgs s_done_unbounded) (defBody s_done_unbounded) (defScope s_done_unbounded) .none kV_done_unbounded dc_done_unbounded pm_done_unbounded an_done_unbounded cd_done_unbounded ct_done_unbounded), sl_done_unbounded⟩) (c_done_unbounded : PySem.W.codeIn K cd_done_unbounded "done_unbounded" = true) (k_done_unbounded : PySem.W.keepIn K (.ref f_done_unbounded) = true)
    {f_done : Addr} {od_done an_done : Option Addr} {sl_done : Array (Option Value)} {oc_done kV_done dc_done pm_done cd_done ct_done : Value}
    {dt_done_0 : Tok}
    {dT_done : Addr} {dO_done : Value} {dD_done : Option Addr} {dN_done : Nat} {dS_done : Array (Option Value)} (dl_done : K.lookup dT_done = some ⟨dO_done, dD_done, .seq #[.str (S []) dt_done_0] dN_done, dS_done⟩)
    (a_done : PySem.W.nsIn K mainGlobals "done" = some (some (.ref f_done))) (l_done : K.lookup f_done = some ⟨oc_done, od_done, .func (PySem.W.fnOf "done" "done" (defArgs s_done) (defBody s_done) (defScope s_done) (.ref dT_done) kV_done dc_done pm_done an_done cd_done ct_done), sl_done⟩) (c_done : PySem.W.codeIn K cd_done "done" = true) (k_done : PySem.W.keepIn K (.ref f_done) = true)
    {f__law_cell_at : Addr} {od__law_cell_at an__law_cell_at : Option Addr} {sl__law_cell_at : Array (Option Value)} {oc__law_cell_at kV__law_cell_at dc__law_cell_at pm__law_cell_at cd__law_cell_at ct__law_cell_at : Value}
    (a__law_cell_at : PySem.W.nsIn K mainGlobals "_law_cell_at" = some (some (.ref f__law_cell_at))) (l__law_cell_at : K.lookup f__law_cell_at = some ⟨oc__law_cell_at, od__law_cell_at, .func (PySem.W.fnOf "_law_cell_at" "_law_cell_at" (defArgs s__law_cell_at) (defBody s__law_cell_at) (defScope s__law_cell_at) .none kV__law_cell_at dc__law_cell_at pm__law_cell_at an__law_cell_at cd__law_cell_at ct__law_cell_at), sl__law_cell_at⟩) (c__law_cell_at : PySem.W.codeIn K cd__law_cell_at "_law_cell_at" = true) (k__law_cell_at : PySem.W.keepIn K (.ref f__law_cell_at) = true)
    {f__law_whole : Addr} {od__law_whole an__law_whole : Option Addr} {sl__law_whole : Array (Option Value)} {oc__law_whole kV__law_whole dc__law_whole pm__law_whole cd__law_whole ct__law_whole : Value}
    (a__law_whole : PySem.W.nsIn K mainGlobals "_law_whole" = some (some (.ref f__law_whole))) (l__law_whole : K.lookup f__law_whole = some ⟨oc__law_whole, od__law_whole, .func (PySem.W.fnOf "_law_whole" "_law_whole" (defArgs s__law_whole) (defBody s__law_whole) (defScope s__law_whole) .none kV__law_whole dc__law_whole pm__law_whole an__law_whole cd__law_whole ct__law_whole), sl__law_whole⟩) (c__law_whole : PySem.W.codeIn K cd__law_whole "_law_whole" = true) (k__law_whole : PySem.W.keepIn K (.ref f__law_whole) = true)
    {f__law_sign : Addr} {od__law_sign an__law_sign : Option Addr} {sl__law_sign : Array (Option Value)} {oc__law_sign kV__law_sign dc__law_sign pm__law_sign cd__law_sign ct__law_sign : Value}
    (a__law_sign : PySem.W.nsIn K mainGlobals "_law_sign" = some (some (.ref f__law_sign))) (l__law_sign : K.lookup f__law_sign = some ⟨oc__law_sign, od__law_sign, .func (PySem.W.fnOf "_law_sign" "_law_sign" (defArgs s__law_sign) (defBody s__law_sign) (defScope s__law_sign) .none kV__law_sign dc__law_sign pm__law_sign an__law_sign cd__law_sign ct__law_sign), sl__law_sign⟩) (c__law_sign : PySem.W.codeIn K cd__law_sign "_law_sign" = true) (k__law_sign : PySem.W.keepIn K (.ref f__law_sign) = true)
    {f__law_text : Addr} {od__law_text an__law_text : Option Addr} {sl__law_text : Array (Option Value)} {oc__law_text kV__law_text dc__law_text pm__law_text cd__law_text ct__law_text : Value}
    (a__law_text : PySem.W.nsIn K mainGlobals "_law_text" = some (some (.ref f__law_text))) (l__law_text : K.lookup f__law_text = some ⟨oc__law_text, od__law_text, .func (PySem.W.fnOf "_law_text" "_law_text" (defArgs s__law_text) (defBody s__law_text) (defScope s__law_text) .none kV__law_text dc__law_text pm__law_text an__law_text cd__law_text ct__law_text), sl__law_text⟩) (c__law_text : PySem.W.codeIn K cd__law_text "_law_text" = true) (k__law_text : PySem.W.keepIn K (.ref f__law_text) = true)
    {f__law_blank_text : Addr} {od__law_blank_text an__law_blank_text : Option Addr} {sl__law_blank_text : Array (Option Value)} {oc__law_blank_text kV__law_blank_text dc__law_blank_text pm__law_blank_text cd__law_blank_text ct__law_blank_text : Value}
    (a__law_blank_text : PySem.W.nsIn K mainGlobals "_law_blank_text" = some (some (.ref f__law_blank_text))) (l__law_blank_text : K.lookup f__law_blank_text = some ⟨oc__law_blank_text, od__law_blank_text, .func (PySem.W.fnOf "_law_blank_text" "_law_blank_text" (defArgs s__law_blank_text) (defBody s__law_blank_text) (defScope s__law_blank_text) .none kV__law_blank_text dc__law_blank_text pm__law_blank_text an__law_blank_text cd__law_blank_text ct__law_blank_text), sl__law_blank_text⟩) (c__law_blank_text : PySem.W.codeIn K cd__law_blank_text "_law_blank_text" = true) (k__law_blank_text : PySem.W.keepIn K (.ref f__law_blank_text) = true)
    {f__law_at : Addr} {od__law_at an__law_at : Option Addr} {sl__law_at : Array (Option Value)} {oc__law_at kV__law_at dc__law_at pm__law_at cd__law_at ct__law_at : Value}
    (a__law_at : PySem.W.nsIn K mainGlobals "_law_at" = some (some (.ref f__law_at))) (l__law_at : K.lookup f__law_at = some ⟨oc__law_at, od__law_at, .func (PySem.W.fnOf "_law_at" "_law_at" (defArgs s__law_at) (defBody s__law_at) (defScope s__law_at) .none kV__law_at dc__law_at pm__law_at an__law_at cd__law_at ct__law_at), sl__law_at⟩) (c__law_at : PySem.W.codeIn K cd__law_at "_law_at" = true) (k__law_at : PySem.W.keepIn K (.ref f__law_at) = true)
    {f__law_starts : Addr} {od__law_starts an__law_starts : Option Addr} {sl__law_starts : Array (Option Value)} {oc__law_starts kV__law_starts dc__law_starts pm__law_starts cd__law_starts ct__law_starts : Value}
    (a__law_starts : PySem.W.nsIn K mainGlobals "_law_starts" = some (some (.ref f__law_starts))) (l__law_starts : K.lookup f__law_starts = some ⟨oc__law_starts, od__law_starts, .func (PySem.W.fnOf "_law_starts" "_law_starts" (defArgs s__law_starts) (defBody s__law_starts) (defScope s__law_starts) .none kV__law_starts dc__law_starts pm__law_starts an__law_starts cd__law_starts ct__law_starts), sl__law_starts⟩) (c__law_starts : PySem.W.codeIn K cd__law_starts "_law_starts" = true) (k__law_starts : PySem.W.keepIn K (.ref f__law_starts) = true)
    {f__law_stretch : Addr} {od__law_stretch an__law_stretch : Option Addr} {sl__law_stretch : Array (Option Value)} {oc__law_stretch kV__law_stretch dc__law_stretch pm__law_stretch cd__law_stretch ct__law_stretch : Value}
    (a__law_stretch : PySem.W.nsIn K mainGlobals "_law_stretch" = some (some (.ref f__law_stretch))) (l__law_stretch : K.lookup f__law_stretch = some ⟨oc__law_stretch, od__law_stretch, .func (PySem.W.fnOf "_law_stretch" "_law_stretch" (defArgs s__law_stretch) (defBody s__law_stretch) (defScope s__law_stretch) .none kV__law_stretch dc__law_stretch pm__law_stretch an__law_stretch cd__law_stretch ct__law_stretch), sl__law_stretch⟩) (c__law_stretch : PySem.W.codeIn K cd__law_stretch "_law_stretch" = true) (k__law_stretch : PySem.W.keepIn K (.ref f__law_stretch) = true)
    {f__law_shelf : Addr} {od__law_shelf an__law_shelf : Option Addr} {sl__law_shelf : Array (Option Value)} {oc__law_shelf kV__law_shelf dc__law_shelf pm__law_shelf cd__law_shelf ct__law_shelf : Value}
    (a__law_shelf : PySem.W.nsIn K mainGlobals "_law_shelf" = some (some (.ref f__law_shelf))) (l__law_shelf : K.lookup f__law_shelf = some ⟨oc__law_shelf, od__law_shelf, .func (PySem.W.fnOf "_law_shelf" "_law_shelf" (defArgs s__law_shelf) (defBody s__law_shelf) (defScope s__law_shelf) .none kV__law_shelf dc__law_shelf pm__law_shelf an__law_shelf cd__law_shelf ct__law_shelf), sl__law_shelf⟩) (c__law_shelf : PySem.W.codeIn K cd__law_shelf "_law_shelf" = true) (k__law_shelf : PySem.W.keepIn K (.ref f__law_shelf) = true)
    {f__law_splices : Addr} {od__law_splices an__law_splices : Option Addr} {sl__law_splices : Array (Option Value)} {oc__law_splices kV__law_splices dc__law_splices pm__law_splices cd__law_splices ct__law_splices : Value}
    (a__law_splices : PySem.W.nsIn K mainGlobals "_law_splices" = some (some (.ref f__law_splices))) (l__law_splices : K.lookup f__law_splices = some ⟨oc__law_splices, od__law_splices, .func (PySem.W.fnOf "_law_splices" "_law_splices" (defArgs s__law_splices) (defBody s__law_splices) (defScope s__law_splices) .none kV__law_splices dc__law_splices pm__law_splices an__law_splices cd__law_splices ct__law_splices), sl__law_splices⟩) (c__law_splices : PySem.W.codeIn K cd__law_splices "_law_splices" = true) (k__law_splices : PySem.W.keepIn K (.ref f__law_splices) = true)
    {f__law_told : Addr} {od__law_told an__law_told : Option Addr} {sl__law_told : Array (Option Value)} {oc__law_told kV__law_told dc__law_told pm__law_told cd__law_told ct__law_told : Value}
    (a__law_told : PySem.W.nsIn K mainGlobals "_law_told" = some (some (.ref f__law_told))) (l__law_told : K.lookup f__law_told = some ⟨oc__law_told, od__law_told, .func (PySem.W.fnOf "_law_told" "_law_told" (defArgs s__law_told) (defBody s__law_told) (defScope s__law_told) .none kV__law_told dc__law_told pm__law_told an__law_told cd__law_told ct__law_told), sl__law_told⟩) (c__law_told : PySem.W.codeIn K cd__law_told "_law_told" = true) (k__law_told : PySem.W.keepIn K (.ref f__law_told) = true)
    {f__law_rows : Addr} {od__law_rows an__law_rows : Option Addr} {sl__law_rows : Array (Option Value)} {oc__law_rows kV__law_rows dc__law_rows pm__law_rows cd__law_rows ct__law_rows : Value}
    (a__law_rows : PySem.W.nsIn K mainGlobals "_law_rows" = some (some (.ref f__law_rows))) (l__law_rows : K.lookup f__law_rows = some ⟨oc__law_rows, od__law_rows, .func (PySem.W.fnOf "_law_rows" "_law_rows" (defArgs s__law_rows) (defBody s__law_rows) (defScope s__law_rows) .none kV__law_rows dc__law_rows pm__law_rows an__law_rows cd__law_rows ct__law_rows), sl__law_rows⟩) (c__law_rows : PySem.W.codeIn K cd__law_rows "_law_rows" = true) (k__law_rows : PySem.W.keepIn K (.ref f__law_rows) = true)
    {f__law_walked : Addr} {od__law_walked an__law_walked : Option Addr} {sl__law_walked : Array (Option Value)} {oc__law_walked kV__law_walked dc__law_walked pm__law_walked cd__law_walked ct__law_walked : Value}
    (a__law_walked : PySem.W.nsIn K mainGlobals "_law_walked" = some (some (.ref f__law_walked))) (l__law_walked : K.lookup f__law_walked = some ⟨oc__law_walked, od__law_walked, .func (PySem.W.fnOf "_law_walked" "_law_walked" (defArgs s__law_walked) (defBody s__law_walked) (defScope s__law_walked) .none kV__law_walked dc__law_walked pm__law_walked an__law_walked cd__law_walked ct__law_walked), sl__law_walked⟩) (c__law_walked : PySem.W.codeIn K cd__law_walked "_law_walked" = true) (k__law_walked : PySem.W.keepIn K (.ref f__law_walked) = true)
    {f__law_good : Addr} {od__law_good an__law_good : Option Addr} {sl__law_good : Array (Option Value)} {oc__law_good kV__law_good dc__law_good pm__law_good cd__law_good ct__law_good : Value}
    (a__law_good : PySem.W.nsIn K mainGlobals "_law_good" = some (some (.ref f__law_good))) (l__law_good : K.lookup f__law_good = some ⟨oc__law_good, od__law_good, .func (PySem.W.fnOf "_law_good" "_law_good" (defArgs s__law_good) (defBody s__law_good) (defScope s__law_good) .none kV__law_good dc__law_good pm__law_good an__law_good cd__law_good ct__law_good), sl__law_good⟩) (c__law_good : PySem.W.codeIn K cd__law_good "_law_good" = true) (k__law_good : PySem.W.keepIn K (.ref f__law_good) = true)
    {f_law : Addr} {od_law an_law : Option Addr} {sl_law : Array (Option Value)} {oc_law kV_law dc_law pm_law cd_law ct_law : Value}
    (a_law : PySem.W.nsIn K mainGlobals "law" = some (some (.ref f_law))) (l_law : K.lookup f_law = some ⟨oc_law, od_law, .func (PySem.W.fnOf "law" "law" (defArgs s_law) (defBody s_law) (defScope s_law) .none kV_law dc_law pm_law an_law cd_law ct_law), sl_law⟩) (c_law : PySem.W.codeIn K cd_law "law" = true) (k_law : PySem.W.keepIn K (.ref f_law) = true)
    (nb : PySem.W.nsIn K cStatics PySem.sharingNotToldKey = some none)
    {tk_MOST_SIGNS : Tok} (g_MOST_SIGNS : PySem.W.nsIn K mainGlobals "MOST_SIGNS" = some (some (.int num_MOST_SIGNS tk_MOST_SIGNS)))
    {A_PUTTING : Addr} {ep_PUTTING : Nat} {t_PUTTING_0 : Tok} {t_PUTTING_1 : Tok} {t_PUTTING_2 : Tok} {t_PUTTING_3 : Tok} {t_PUTTING_4 : Tok} (g_PUTTING : PySem.W.nsIn K mainGlobals "PUTTING" = some (some (.ref A_PUTTING)))
    (d_PUTTING : K.lookup A_PUTTING = some { cls := .type "dict", dict := none, data := .dict #[{ hash := PyData.keyHash w.params (S [67]), key := .str (S [67]) t_PUTTING_0, val := .ref f_taken_out }, { hash := PyData.keyHash w.params (S [89]), key := .str (S [89]) t_PUTTING_1, val := .ref f_left_as_is }, { hash := PyData.keyHash w.params (S [88]), key := .str (S [88]) t_PUTTING_2, val := .ref f_exchanged }, { hash := PyData.keyHash w.params (S [71]), key := .str (S [71]) t_PUTTING_3, val := .ref f_great }, { hash := PyData.keyHash w.params (S [83]), key := .str (S [83]) t_PUTTING_4, val := .ref f_small }] ep_PUTTING, slots := #[] }) (y_PUTTING : (A_PUTTING == sysModules) = false)
    {A_INDENTING : Addr} {ep_INDENTING : Nat} {t_INDENTING_0 : Tok} {t_INDENTING_1 : Tok} (g_INDENTING : PySem.W.nsIn K mainGlobals "INDENTING" = some (some (.ref A_INDENTING)))
    (d_INDENTING : K.lookup A_INDENTING = some { cls := .type "dict", dict := none, data := .dict #[{ hash := PyData.keyHash w.params (S [68]), key := .str (S [68]) t_INDENTING_0, val := .ref f_deeper }, { hash := PyData.keyHash w.params (S [70]), key := .str (S [70]) t_INDENTING_1, val := .ref f_flatter }] ep_INDENTING, slots := #[] }) (y_INDENTING : (A_INDENTING == sysModules) = false)
    (z_len : PySem.W.nsIn K mainGlobals "len" = some none) (z_range : PySem.W.nsIn K mainGlobals "range" = some none) (z_min : PySem.W.nsIn K mainGlobals "min" = some none) (z_max : PySem.W.nsIn K mainGlobals "max" = some none) (z_isinstance : PySem.W.nsIn K mainGlobals "isinstance" = some none) (z_int : PySem.W.nsIn K mainGlobals "int" = some none) (z_bool : PySem.W.nsIn K mainGlobals "bool" = some none) (z_str : PySem.W.nsIn K mainGlobals "str" = some none) (z_tuple : PySem.W.nsIn K mainGlobals "tuple" = some none) (z_list : PySem.W.nsIn K mainGlobals "list" = some none) (z_reversed : PySem.W.nsIn K mainGlobals "reversed" = some none) (z_sum : PySem.W.nsIn K mainGlobals "sum" = some none) :
    ∃ fd : FuncData, (∀ (s : Shared) (v : Value), BindsTo s fd ⟨[v], []⟩ [("_law_script", v)]) ∧ ∀ base : Heap, K.In base → base.Ns mainGlobals mg → FnOk l.prog w K mg base CX0 22 fa fd ["_law_script"] (sp_law K) := by
  have e := hfa.symm.trans (PySem.W.mg_of X G a_law)
  cases e
  have F_is_whole := fun_mk (st := s_is_whole) l_is_whole c_is_whole k_is_whole
  have b_is_whole := F_is_whole.binds (ps := ["value"]) fun _ _ _ _ _ _ us hl => (by obtain ⟨_, rfl⟩ := len1 hl; rfl)
  have F_is_place := fun_mk (st := s_is_place) l_is_place c_is_place k_is_place
  have b_is_place := F_is_place.binds (ps := ["text", "place"]) fun _ _ _ _ _ _ us hl => (by obtain ⟨_, _, rfl⟩ := len2 hl; rfl)
  have F_is_row := fun_mk (st := s_is_row) l_is_row c_is_row k_is_row
  have b_is_row := F_is_row.binds (ps := ["text", "row"]) fun _ _ _ _ _ _ us hl => (by obtain ⟨_, _, rfl⟩ := len2 hl; rfl)
  have F_check_place := fun_mk (st := s_check_place) l_check_place c_check_place k_check_place
  have b_check_place := F_check_place.binds (ps := ["text", "place"]) fun _ _ _ _ _ _ us hl => (by obtain ⟨_, _, rfl⟩ := len2 hl; rfl)
  have F_check_row := fun_mk (st := s_check_row) l_check_row c_check_row k_check_row
  have b_check_row := F_check_row.binds (ps := ["text", "row"]) fun _ _ _ _ _ _ us hl => (by obtain ⟨_, _, rfl⟩ := len2 hl; rfl)
  have F_row_count := fun_mk (st := s_row_count) l_row_count c_row_count k_row_count
  have b_row_count := F_row_count.binds (ps := ["text"]) fun _ _ _ _ _ _ us hl => (by obtain ⟨_, rfl⟩ := len1 hl; rfl)
  have F_row_of := fun_mk (st := s_row_of) l_row_of c_row_of k_row_of
  have b_row_of := F_row_of.binds (ps := ["text", "place"]) fun _ _ _ _ _ _ us hl => (by obtain ⟨_, _, rfl⟩ := len2 hl; rfl)
  have F_column_of := fun_mk (st := s_column_of) l_column_of c_column_of k_column_of
  have b_column_of := F_column_of.binds (ps := ["text", "place"]) fun _ _ _ _ _ _ us hl => (by obtain ⟨_, _, rfl⟩ := len2 hl; rfl)
  have F_begin_of := fun_mk (st := s_begin_of) l_begin_of c_begin_of k_begin_of
  have b_begin_of := F_begin_of.binds (ps := ["text", "row"]) fun _ _ _ _ _ _ us hl => (by obtain ⟨_, _, rfl⟩ := len2 hl; rfl)
  have F_end_of := fun_mk (st := s_end_of) l_end_of c_end_of k_end_of
  have b_end_of := F_end_of.binds (ps := ["text", "row"]) fun _ _ _ _ _ _ us hl => (by obtain ⟨_, _, rfl⟩ := len2 hl; rfl)
  have F_place_of := fun_mk (st := s_place_of) l_place_of c_place_of k_place_of
  have b_place_of := F_place_of.binds (ps := ["text", "row", "column"]) fun _ _ _ _ _ _ us hl => (by obtain ⟨_, _, _, rfl⟩ := len3 hl; rfl)
  have F_pieces := fun_mk (st := s_pieces) l_pieces c_pieces k_pieces
  have b_pieces := F_pieces.binds (ps := ["text", "one"]) fun _ _ _ _ _ _ us hl => (by obtain ⟨_, _, rfl⟩ := len2 hl; rfl)
  have F_block_pieces := fun_mk (st := s_block_pieces) l_block_pieces c_block_pieces k_block_pieces
  have b_block_pieces := F_block_pieces.binds (ps := ["text", "low", "high"]) fun _ _ _ _ _ _ us hl => (by obtain ⟨_, _, _, rfl⟩ := len3 hl; rfl)
  have F_fits := fun_mk (st := s_fits) l_fits c_fits k_fits
  have b_fits := F_fits.binds (ps := ["text", "splice"]) fun _ _ _ _ _ _ us hl => (by obtain ⟨_, _, rfl⟩ := len2 hl; rfl)
  have F_spliced := fun_mk (st := s_spliced) l_spliced c_spliced k_spliced
  have b_spliced := F_spliced.binds (ps := ["text", "splice"]) fun _ _ _ _ _ _ us hl => (by obtain ⟨_, _, rfl⟩ := len2 hl; rfl)
  have F_changing := fun_mk (st := s_changing) l_changing c_changing k_changing
  have b_changing := F_changing.binds (ps := ["splices"]) fun _ _ _ _ _ _ us hl => (by obtain ⟨_, rfl⟩ := len1 hl; rfl)
  have F_too_long := fun_mk (st := s_too_long) l_too_long c_too_long k_too_long
  have b_too_long := F_too_long.binds (ps := ["text", "splices"]) fun _ _ _ _ _ _ us hl => (by obtain ⟨_, _, rfl⟩ := len2 hl; rfl)
  have F_shelved := fun_mk (st := s_shelved) l_shelved c_shelved k_shelved
  have b_shelved := F_shelved.binds (ps := ["text", "one"]) fun _ _ _ _ _ _ us hl => (by obtain ⟨_, _, rfl⟩ := len2 hl; rfl)
  have F_rows_in := fun_mk (st := s_rows_in) l_rows_in c_rows_in k_rows_in
  have b_rows_in := F_rows_in.binds (ps := ["text", "one"]) fun _ _ _ _ _ _ us hl => (by obtain ⟨_, _, rfl⟩ := len2 hl; rfl)
  have F_taken_out := fun_mk (st := s_taken_out) l_taken_out c_taken_out k_taken_out
  have b_taken_out := F_taken_out.binds (ps := ["signs", "typed"]) fun _ _ _ _ _ _ us hl => (by obtain ⟨_, _, rfl⟩ := len2 hl; rfl)
  have F_left_as_is := fun_mk (st := s_left_as_is) l_left_as_is c_left_as_is k_left_as_is
  have b_left_as_is := F_left_as_is.binds (ps := ["signs", "typed"]) fun _ _ _ _ _ _ us hl => (by obtain ⟨_, _, rfl⟩ := len2 hl; rfl)
  have F_exchanged := fun_mk (st := s_exchanged) l_exchanged c_exchanged k_exchanged
  have b_exchanged := F_exchanged.binds (ps := ["signs", "typed"]) fun _ _ _ _ _ _ us hl => (by obtain ⟨_, _, rfl⟩ := len2 hl; rfl)
  have F_great := fun_mk (st := s_great) l_great c_great k_great
  have b_great := F_great.binds (ps := ["signs", "typed"]) fun _ _ _ _ _ _ us hl => (by obtain ⟨_, _, rfl⟩ := len2 hl; rfl)
  have F_small := fun_mk (st := s_small) l_small c_small k_small
  have b_small := F_small.binds (ps := ["signs", "typed"]) fun _ _ _ _ _ _ us hl => (by obtain ⟨_, _, rfl⟩ := len2 hl; rfl)
  have F_signs_of_piece := fun_mk (st := s_signs_of_piece) l_signs_of_piece c_signs_of_piece k_signs_of_piece
  have b_signs_of_piece := F_signs_of_piece.binds (ps := ["key", "text", "one", "pair"]) fun _ _ _ _ _ _ us hl => (by obtain ⟨_, _, _, _, rfl⟩ := len4 hl; rfl)
  have F_done_to_pieces := fun_mk (st := s_done_to_pieces) l_done_to_pieces c_done_to_pieces k_done_to_pieces
  have b_done_to_pieces := F_done_to_pieces.binds (ps := ["key", "text", "one", "typed"]) fun _ _ _ _ _ _ us hl => (by obtain ⟨_, _, _, _, rfl⟩ := len4 hl; rfl)
  have F_deeper := fun_mk (st := s_deeper) l_deeper c_deeper k_deeper
  have b_deeper := F_deeper.binds (ps := ["text", "row"]) fun _ _ _ _ _ _ us hl => (by obtain ⟨_, _, rfl⟩ := len2 hl; rfl)
  have F_flatter := fun_mk (st := s_flatter) l_flatter c_flatter k_flatter
  have b_flatter := F_flatter.binds (ps := ["text", "row"]) fun _ _ _ _ _ _ us hl => (by obtain ⟨_, _, rfl⟩ := len2 hl; rfl)
  have F_indented := fun_mk (st := s_indented) l_indented c_indented k_indented
  have b_indented := F_indented.binds (ps := ["key", "text", "one"]) fun _ _ _ _ _ _ us hl => (by obtain ⟨_, _, _, rfl⟩ := len3 hl; rfl)
  have F_joining := fun_mk (st := s_joining) l_joining c_joining k_joining
  have b_joining := F_joining.binds (ps := ["text", "row"]) fun _ _ _ _ _ _ us hl => (by obtain ⟨_, _, rfl⟩ := len2 hl; rfl)
  have F_joined := fun_mk (st := s_joined) l_joined c_joined k_joined
  have b_joined := F_joined.binds (ps := ["text", "one"]) fun _ _ _ _ _ _ us hl => (by obtain ⟨_, _, rfl⟩ := len2 hl; rfl)
  have F_done_unbounded := fun_mk (st := s_done_unbounded) l_done_unbounded c_done_unbounded k_done_unbounded
  have b_done_unbounded := F_done_unbounded.binds (ps := ["key", "text", "one", "typed"]) fun _ _ _ _ _ _ us hl => (by obtain ⟨_, _, _, _, rfl⟩ := len4 hl; rfl)
  have F_done := funD_mk (st := s_done) l_done c_done k_done
  have b_done_0 : Binds K _ ["key", "text", "one", "typed"] [] := fun s us X hl => match us, (show us.length = 4 by simpa using hl) with | [_, _, _, _], _ => PySem.W.binds_K (fd := PySem.W.fnOf "done" "done" (defArgs s_done) (defBody s_done) (defScope s_done) (.ref dT_done) kV_done dc_done pm_done an_done cd_done ct_done) X rfl dl_done rfl rfl rfl
  have b_done_1 : Binds K _ ["key", "text", "one", "typed"] [.str (S []) dt_done_0] := fun s us X hl => match us, (show us.length = 3 by simpa using hl) with | [_, _, _], _ => PySem.W.binds_K (fd := PySem.W.fnOf "done" "done" (defArgs s_done) (defBody s_done) (defScope s_done) (.ref dT_done) kV_done dc_done pm_done an_done cd_done ct_done) X rfl dl_done rfl rfl rfl
  have F__law_cell_at := fun_mk (st := s__law_cell_at) l__law_cell_at c__law_cell_at k__law_cell_at
  have b__law_cell_at := F__law_cell_at.binds (ps := ["_law_script", "_law_k"]) fun _ _ _ _ _ _ us hl => (by obtain ⟨_, _, rfl⟩ := len2 hl; rfl)
  have F__law_whole := fun_mk (st := s__law_whole) l__law_whole c__law_whole k__law_whole
  have b__law_whole := F__law_whole.binds (ps := ["_law_found"]) fun _ _ _ _ _ _ us hl => (by obtain ⟨_, rfl⟩ := len1 hl; rfl)
  have F__law_sign := fun_mk (st := s__law_sign) l__law_sign c__law_sign k__law_sign
  have b__law_sign := F__law_sign.binds (ps := ["_law_number"]) fun _ _ _ _ _ _ us hl => (by obtain ⟨_, rfl⟩ := len1 hl; rfl)
  have F__law_text := fun_mk (st := s__law_text) l__law_text c__law_text k__law_text
  have b__law_text := F__law_text.binds (ps := ["_law_script"]) fun _ _ _ _ _ _ us hl => (by obtain ⟨_, rfl⟩ := len1 hl; rfl)
  have F__law_blank_text := fun_mk (st := s__law_blank_text) l__law_blank_text c__law_blank_text k__law_blank_text
  have b__law_blank_text := F__law_blank_text.binds (ps := ["_law_script"]) fun _ _ _ _ _ _ us hl => (by obtain ⟨_, rfl⟩ := len1 hl; rfl)
  have F__law_at := fun_mk (st := s__law_at) l__law_at c__law_at k__law_at
  have b__law_at := F__law_at.binds (ps := ["_law_rows_here", "_law_place"]) fun _ _ _ _ _ _ us hl => (by obtain ⟨_, _, rfl⟩ := len2 hl; rfl)
  have F__law_starts := fun_mk (st := s__law_starts) l__law_starts c__law_starts k__law_starts
  have b__law_starts := F__law_starts.binds (ps := ["_law_rows_here"]) fun _ _ _ _ _ _ us hl => (by obtain ⟨_, rfl⟩ := len1 hl; rfl)
  have F__law_stretch := fun_mk (st := s__law_stretch) l__law_stretch c__law_stretch k__law_stretch
  have b__law_stretch := F__law_stretch.binds (ps := ["_law_text_here", "_law_rows_here", "_law_number"]) fun _ _ _ _ _ _ us hl => (by obtain ⟨_, _, _, rfl⟩ := len3 hl; rfl)
  have F__law_shelf := fun_mk (st := s__law_shelf) l__law_shelf c__law_shelf k__law_shelf
  have b__law_shelf := F__law_shelf.binds (ps := ["_law_found", "_law_due"]) fun _ _ _ _ _ _ us hl => (by obtain ⟨_, _, rfl⟩ := len2 hl; rfl)
  have F__law_splices := fun_mk (st := s__law_splices) l__law_splices c__law_splices k__law_splices
  have b__law_splices := F__law_splices.binds (ps := ["_law_found", "_law_due"]) fun _ _ _ _ _ _ us hl => (by obtain ⟨_, _, rfl⟩ := len2 hl; rfl)
  have F__law_told := fun_mk (st := s__law_told) l__law_told c__law_told k__law_told
  have b__law_told := F__law_told.binds (ps := ["_law_found", "_law_splices_here", "_law_place", "_law_shelf_here"]) fun _ _ _ _ _ _ us hl => (by obtain ⟨_, _, _, _, rfl⟩ := len4 hl; rfl)
  have F__law_rows := fun_mk (st := s__law_rows) l__law_rows c__law_rows k__law_rows
  have b__law_rows := F__law_rows.binds (ps := ["_law_rows_here", "_law_one"]) fun _ _ _ _ _ _ us hl => (by obtain ⟨_, _, rfl⟩ := len2 hl; rfl)
  have F__law_walked := fun_mk (st := s__law_walked) l__law_walked c__law_walked k__law_walked
  have b__law_walked := F__law_walked.binds (ps := ["_law_text_here", "_law_splices_here"]) fun _ _ _ _ _ _ us hl => (by obtain ⟨_, _, rfl⟩ := len2 hl; rfl)
  have F__law_good := fun_mk (st := s__law_good) l__law_good c__law_good k__law_good
  have b__law_good := F__law_good.binds (ps := ["_law_text_here", "_law_rows_here", "_law_one"]) fun _ _ _ _ _ _ us hl => (by obtain ⟨_, _, _, rfl⟩ := len3 hl; rfl)
  have F_law := fun_mk (st := s_law) l_law c_law k_law
  have b_law := F_law.binds (ps := ["_law_script"]) fun _ _ _ _ _ _ us hl => (by obtain ⟨_, rfl⟩ := len1 hl; rfl)
  have m := fun (x : Str) (z : PySem.W.nsIn K mainGlobals x = some none) => PySem.W.mg_none_of X G z
  have ml := m _ z_len
  have mr := m _ z_range
  refine ⟨PySem.W.fnOf "law" "law" (defArgs s_law) (defBody s_law) (defScope s_law) .none kV_law dc_law pm_law an_law cd_law ct_law, fun s v => .of_eq rfl, fun base _ _ => ?_⟩
  have Oiw : Own l.prog w K mg base CX0 1 "is_whole" ["value"] sp_whole := ⟨_, _, ok_is_whole F_is_whole (m _ z_isinstance) (m _ z_int) (m _ z_bool), b_is_whole, k_is_whole, PySem.W.mg_of X G a_is_whole⟩
  have Oip : Own l.prog w K mg base CX0 2 "is_place" ["text", "place"] sp_is_place := ⟨_, _, ok_is_place F_is_place Oiw ml, b_is_place, k_is_place, PySem.W.mg_of X G a_is_place⟩
  have Orc : Own l.prog w K mg base CX0 1 "row_count" ["text"] sp_row_count := ⟨_, _, ok_row_count F_row_count, b_row_count, k_row_count, PySem.W.mg_of X G a_row_count⟩
  have Oir : Own l.prog w K mg base CX0 2 "is_row" ["text", "row"] sp_is_row := ⟨_, _, ok_is_row F_is_row Oiw Orc, b_is_row, k_is_row, PySem.W.mg_of X G a_is_row⟩
  have Ocp : Own l.prog w K mg base CX0 3 "check_place" ["text", "place"] sp_chk_p := ⟨_, _, ok_chk_p F_check_place Oip, b_check_place, k_check_place, PySem.W.mg_of X G a_check_place⟩
  have Ocr : Own l.prog w K mg base CX0 3 "check_row" ["text", "row"] sp_chk_r := ⟨_, _, ok_chk_r F_check_row Oir, b_check_row, k_check_row, PySem.W.mg_of X G a_check_row⟩
  have Iro : Own l.prog w K mg base CX0 4 "row_of" ["text", "place"] sp_row_in := ⟨_, _, ok_row_of F_row_of Ocp, b_row_of, k_row_of, PySem.W.mg_of X G a_row_of⟩
  have Ibg : Own l.prog w K mg base CX0 4 "begin_of" ["text", "row"] sp_beg_in := ⟨_, _, ok_begin_of F_begin_of Ocr ml, b_begin_of, k_begin_of, PySem.W.mg_of X G a_begin_of⟩
  have Ien : Own l.prog w K mg base CX0 5 "end_of" ["text", "row"] sp_end_in := ⟨_, _, ok_end_of F_end_of Ibg ml, b_end_of, k_end_of, PySem.W.mg_of X G a_end_of⟩

  have Oce : Own l.prog w K mg base CX0 1 "_law_cell_at" ["_law_script", "_law_k"] (sp_cell K) := ⟨_, _, ok_cell F__law_cell_at ml, b__law_cell_at, k__law_cell_at, PySem.W.mg_of X G a__law_cell_at⟩
  have Osn : Own l.prog w K mg base CX0 1 "_law_sign" ["_law_number"] sp_sign := ⟨_, _, ok_sign F__law_sign , b__law_sign, k__law_sign, PySem.W.mg_of X G a__law_sign⟩
  have Otx : Own l.prog w K mg base CX0 2 "_law_text" ["_law_script"] (sp_text2 K) := ⟨_, _, ok_text2 F__law_text Oce Osn ml, b__law_text, k__law_text, PySem.W.mg_of X G a__law_text⟩
  have Oat : Own l.prog w K mg base CX0 1 "_law_at" ["_law_rows_here", "_law_place"] sp_at := ⟨_, _, ok_at F__law_at ml, b__law_at, k__law_at, PySem.W.mg_of X G a__law_at⟩
  have Osr : Own l.prog w K mg base CX0 1 "_law_starts" ["_law_rows_here"] sp_starts := ⟨_, _, ok_starts F__law_starts ml, b__law_starts, k__law_starts, PySem.W.mg_of X G a__law_starts⟩
  have Ost : Own l.prog w K mg base CX0 2 "_law_stretch" ["_law_text_here", "_law_rows_here", "_law_number"] sp_lstretch := ⟨_, _, ok_lstretch F__law_stretch Oat Osr ml (m _ z_min), b__law_stretch, k__law_stretch, PySem.W.mg_of X G a__law_stretch⟩
  have Olh : Own l.prog w K mg base CX0 1 "_law_shelf" ["_law_found", "_law_due"] sp_lshelf := ⟨_, _, ok_lshelf F__law_shelf ml (m _ z_isinstance) (m _ z_str) (m _ z_tuple) (m _ z_list), b__law_shelf, k__law_shelf, PySem.W.mg_of X G a__law_shelf⟩

  have Och : Own l.prog w K mg base CX0 1 "changing" ["splices"] sp_changing := ⟨_, _, ok_changing F_changing , b_changing, k_changing, PySem.W.mg_of X G a_changing⟩
  have Otl : Own l.prog w K mg base CX0 1 "too_long" ["text", "splices"] sp_toolong := ⟨_, _, ok_toolong F_too_long (PySem.W.mg_of X G g_MOST_SIGNS) ml (m _ z_sum), b_too_long, k_too_long, PySem.W.mg_of X G a_too_long⟩
  have Ori : Own l.prog w K mg base CX0 5 "rows_in" ["text", "one"] sp_rows_in := ⟨_, _, ok_rows_in F_rows_in Iro, b_rows_in, k_rows_in, PySem.W.mg_of X G a_rows_in⟩
  have DP : KDict K w A_PUTTING [([67], t_PUTTING_0, f_taken_out), ([89], t_PUTTING_1, f_left_as_is), ([88], t_PUTTING_2, f_exchanged), ([71], t_PUTTING_3, f_great), ([83], t_PUTTING_4, f_small)] := ⟨⟨_, d_PUTTING⟩, y_PUTTING⟩
  have DI : KDict K w A_INDENTING [([68], t_INDENTING_0, f_deeper), ([70], t_INDENTING_1, f_flatter)] := ⟨⟨_, d_INDENTING⟩, y_INDENTING⟩

  have Oft : Own l.prog w K mg base CX0 3 "fits" ["text", "splice"] sp_fitsC := ⟨_, _, ok_fitsC F_fits Oip ml, b_fits, k_fits, PySem.W.mg_of X G a_fits⟩
  have Osp : Own l.prog w K mg base CX0 4 "spliced" ["text", "splice"] sp_splicedC := ⟨_, _, ok_splicedC F_spliced Oft ml, b_spliced, k_spliced, PySem.W.mg_of X G a_spliced⟩
  have Ojg : Own l.prog w K mg base CX0 6 "joining" ["text", "row"] sp_joining := ⟨_, _, ok_joining F_joining Ien ml, b_joining, k_joining, PySem.W.mg_of X G a_joining⟩
  have Ojd : Own l.prog w K mg base CX0 17 "joined" ["text", "one"] sp_joined := ⟨_, _, ok_joined F_joined Ori Orc Ien Ojg Osp (m _ z_max) mr, b_joined, k_joined, PySem.W.mg_of X G a_joined⟩
  have Oun : Own l.prog w K mg base CX0 18 "done_unbounded" ["key", "text", "one", "typed"] (sp_doneK (fun k => k = 74) vbJ) := ⟨_, _, ok_unbJ F_done_unbounded ⟨_, _, fn_false, b_done_to_pieces, k_done_to_pieces, PySem.W.mg_of X G a_done_to_pieces⟩ ⟨_, _, fn_false, b_indented, k_indented, PySem.W.mg_of X G a_indented⟩ Ojd (PySem.W.mg_of X G g_PUTTING) DP rfl (PySem.W.mg_of X G g_INDENTING) DI rfl, b_done_unbounded, k_done_unbounded, PySem.W.mg_of X G a_done_unbounded⟩
  have Fdn := (ok_done (P := l.prog) (w := w) (mg := mg) (base := base) F_done Oun Otl (fun k l o ty sps p sh hk hl hg hty e => vbJ_z hl hg e)).imp fun _ _ _ _ h => doneJ h
  have Odn1 : OwnD l.prog w K mg base CX0 20 "done" ["key", "text", "one", "typed"] (sp_doneK (fun k => k = 74) vbJ) [.str (S [])] := ⟨_, _, _, Fdn, b_done_1, .cons ⟨_, rfl⟩ .nil, k_done, PySem.W.mg_of X G a_done⟩
  have Olw : Own l.prog w K mg base CX0 1 "_law_whole" ["_law_found"] sp_lwhole := ⟨_, _, ok_lwhole F__law_whole (m _ z_isinstance) (m _ z_int) (m _ z_bool), b__law_whole, k__law_whole, PySem.W.mg_of X G a__law_whole⟩
  have Ols : Own l.prog w K mg base CX0 2 "_law_splices" ["_law_found", "_law_due"] sp_lsplices := ⟨_, _, ok_lsplices F__law_splices Olw ml (m _ z_isinstance) (m _ z_str) (m _ z_tuple) (m _ z_list), b__law_splices, k__law_splices, PySem.W.mg_of X G a__law_splices⟩
  have Old : Own l.prog w K mg base CX0 3 "_law_told" ["_law_found", "_law_splices_here", "_law_place", "_law_shelf_here"] sp_told4 := ⟨_, _, ok_told4 F__law_told Olw Ols Olh ml (m _ z_isinstance) (m _ z_tuple), b__law_told, k__law_told, PySem.W.mg_of X G a__law_told⟩

  have Obl : Own l.prog w K mg base CX0 3 "_law_blank_text" ["_law_script"] (sp_text2 K) := ⟨_, _, ok_blank F__law_blank_text Oce Otx ml nb, b__law_blank_text, k__law_blank_text, PySem.W.mg_of X G a__law_blank_text⟩
  have Olr : Own l.prog w K mg base CX0 2 "_law_rows" ["_law_rows_here", "_law_one"] sp_lrows := ⟨_, _, ok_lrows F__law_rows Oat (m _ z_max), b__law_rows, k__law_rows, PySem.W.mg_of X G a__law_rows⟩
  have Owk : Own l.prog w K mg base CX0 1 "_law_walked" ["_law_text_here", "_law_splices_here"] sp_walked := ⟨_, _, ok_walked F__law_walked ml, b__law_walked, k__law_walked, PySem.W.mg_of X G a__law_walked⟩
  exact ok_law F_law Obl Oce Ost ⟨_, _, ok_good F__law_good Olr Osr Old Owk Odn1 ml mr, b__law_good, k__law_good, PySem.W.mg_of X G a__law_good⟩
theorem walk {l : PySem.W.OpenLaw} {q : Program} {loose : List Str} {XP : (Str → Option Value) → Heap → Prop} {YP : World → Heap → Prop} {d : DefRec} {K : Params → PySem.W.Frag} (hn : l.most = some 63) (hdf : d.params.defaults = [])
    (hY : ∀ (w : World) (h : Heap), YP w h → (K w.params).In h)
    (F : ∀ (w : World) (mg : Str → Option Value) (fa : Addr) (h : Heap), (K w.params).In h → h.Ns mainGlobals mg → mg d.name = some (.ref fa) →
      ∃ fd : FuncData, (∀ (s : Shared) (u : Value), BindsTo s fd ⟨[u], []⟩ [("_law_script", u)]) ∧ ∀ base : Heap, (K w.params).In base → base.Ns mainGlobals mg → FnOk l.prog w (K w.params) mg base CX0 22 fa fd ["_law_script"] (sp_law (K w.params))) :
    PySem.W.WalkO q loose XP YP l.row.toRowW d [] (fun f vs => PySem.call f vs) :=
  L2.walk_of (n := 63) (k := 22) (x := "_law_script") (CX := fun _ => CX0) (sp := fun w => sp_law (K w.params)) hn (by decide) hdf ⟨rfl, by decide, by decide⟩ hY F (fun _ _ a ns hl _ hS => ⟨a, ns, rfl, hS, hl, fun _ => rfl⟩) fun _ _ _ _ _ z => z
end My
open PySem PySem.W PyProof.Rows
def PySem.W.Fast.tw15859723745606761536 : Nat := 0
def PySem.W.Fast.tw3855367316874570016 : Nat := 0
def PySem.W.Fast.tw120249770140210560 : Nat := 0
def PySem.W.Fast.tw5984595615808156128 : Nat := 0
def PySem.W.Fast.tw14437503915960779296 : Nat := 0
def PySem.W.Fast.tw10462934836194543168 : Nat := 0
def PySem.W.Fast.tw7526509836964545152 : Nat := 0
def PySem.W.Fast.tw13950729779516201696 : Nat := 0
def PySem.W.Fast.tw9926252819017259776 : Nat := 0
def PySem.W.Fast.tw13866596806120470304 : Nat := 0
def PySem.W.Fast.tw2488349032034674689 : Nat := 0
def PySem.W.Fast.tw692416383472337953 : Nat := 0
def PySem.W.Fast.tw16012445524915543137 : Nat := 0
def PySem.W.Fast.tw12484205481810463873 : Nat := 0
def PySem.W.Fast.tw6411538952516102337 : Nat := 0
def PySem.W.Fast.tw7590980173509829921 : Nat := 0
def PySem.W.Fast.tw375072878232617313 : Nat := 0
def PySem.W.Fast.tw10777135751329494369 : Nat := 0
def PySem.W.Fast.tw2241800930835553761 : Nat := 0
def PySem.W.Fast.tw14591777633666048545 : Nat := 0
def PySem.W.Fast.tw1583254601746455169 : Nat := 0
def PySem.W.Fast.tw7893191882611725025 : Nat := 0
def PySem.W.Fast.tw9622995009856034593 : Nat := 0
def PySem.W.Fast.tw13293693036528690049 : Nat := 0
def PySem.W.Fast.tw3107683707450916769 : Nat := 0
def PySem.W.Fast.tw12872342285924059073 : Nat := 0
def PySem.W.Fast.tw14064907526893923714 : Nat := 0
def PySem.W.Fast.tw12796937924480762274 : Nat := 0
def PySem.W.Fast.tw13515365558961819042 : Nat := 0
def PySem.W.Fast.tw8917087948550561186 : Nat := 0
def PySem.W.Fast.tw12237120539636150754 : Nat := 0
def PySem.W.Fast.tw12513138039101079042 : Nat := 0
def PySem.W.Fast.tw13580703542170479106 : Nat := 0
def PySem.W.Fast.tw2548155751960299074 : Nat := 0
def PySem.W.Fast.tw14679242980987405986 : Nat := 0
def PySem.W.Fast.tw10198126275382853410 : Nat := 0
def PySem.W.Fast.tw4188326361874931586 : Nat := 0
def PySem.W.Fast.tw2188659513407653891 : Nat := 0
def PySem.W.Fast.tw13372753614114795587 : Nat := 0
def PySem.W.Fast.tw12636852191666750627 : Nat := 0
def PySem.W.Fast.tw14635421938613839043 : Nat := 0
def PySem.W.Fast.tw2135717586122429699 : Nat := 0
def PySem.W.Fast.tw16025696924592270627 : Nat := 0
def PySem.W.Fast.tw5555494330159113603 : Nat := 0
def PySem.W.Fast.tw5781724636064460259 : Nat := 0
def PySem.W.Fast.tw7959500644432922147 : Nat := 0
def PySem.W.Fast.tw11413270966274748995 : Nat := 0
def PySem.W.Fast.tw2110514272319482467 : Nat := 0
def PySem.W.Fast.tw6841376008066549347 : Nat := 0
def PySem.W.Fast.tw3006349824859358883 : Nat := 0
def PySem.W.Fast.tw3961049173437615779 : Nat := 0
def PySem.W.Fast.tw399826432020231875 : Nat := 0
def PySem.W.Fast.tw9076353895306255139 : Nat := 0
def PySem.W.Fast.tw13193549941482330979 : Nat := 0
def PySem.W.Fast.tw17847673371913080803 : Nat := 0
def PySem.W.Fast.tw9483366490582645796 : Nat := 0
def PySem.W.Fast.tw18197626068365628516 : Nat := 0
def PySem.W.Fast.tw12020961730935800964 : Nat := 0
def PySem.W.Fast.tw10092624186814167204 : Nat := 0
def PySem.W.Fast.tw11953709705097963716 : Nat := 0
def PySem.W.Fast.tw7147612298441116868 : Nat := 0
def PySem.W.Fast.tw4674494621438218468 : Nat := 0
def PySem.W.Fast.tw3112050929587495140 : Nat := 0
def PySem.W.Fast.tw393640737542907108 : Nat := 0
def PySem.W.Fast.tw12740598130434685188 : Nat := 0
def PySem.W.Fast.tw9156413627618786660 : Nat := 0
def PySem.W.Fast.tw2466159629819643236 : Nat := 0
def PySem.W.Fast.tw10340767663013856644 : Nat := 0
def PySem.W.Fast.tw4986508965852482148 : Nat := 0
def PySem.W.Fast.tw2232925160223889092 : Nat := 0
def PySem.W.Fast.tw1067214179796264804 : Nat := 0
def PySem.W.Fast.tw15397697645158613860 : Nat := 0
def PySem.W.Fast.tw996784378252971876 : Nat := 0
def PySem.W.Fast.tw17051783352514301828 : Nat := 0
def PySem.W.Fast.tw3418791691533456389 : Nat := 0
def PySem.W.Fast.tw6355100104811846725 : Nat := 0
def PySem.W.Fast.tw13980878818336946245 : Nat := 0
def PySem.W.Fast.tw9606141153783924837 : Nat := 0
def PySem.W.Fast.tw14881716515322046597 : Nat := 0
def PySem.W.Fast.tw6636881733230052581 : Nat := 0
def PySem.W.Fast.tw8827951897789430053 : Nat := 0
def PySem.W.Fast.tw16756183239479323077 : Nat := 0
def PySem.W.Fast.tw5272927911291415013 : Nat := 0
def PySem.W.Fast.tw17666373087675124261 : Nat := 0
def PySem.W.Fast.tw2578126755330212453 : Nat := 0
def PySem.W.Fast.tw1704773175622174373 : Nat := 0
def PySem.W.Fast.tw5309233635964314309 : Nat := 0
def PySem.W.Fast.tw13517945133818588901 : Nat := 0
def PySem.W.Fast.tw9919926242537715461 : Nat := 0
def PySem.W.Fast.tw7671156176086197029 : Nat := 0
def PySem.W.Fast.tw419690085793092517 : Nat := 0
def PySem.W.Fast.tw10878535353515287525 : Nat := 0
def PySem.W.Fast.tw15888844490319984870 : Nat := 0
def PySem.W.Fast.tw12210263707785534694 : Nat := 0
def PySem.W.Fast.tw10172008853993892166 : Nat := 0
def PySem.W.Fast.tw4389244110969752966 : Nat := 0
def PySem.W.Fast.tw15104900406824366502 : Nat := 0
def PySem.W.Fast.tw5359640655797726662 : Nat := 0
def PySem.W.Fast.tw14442527010349186758 : Nat := 0
def PySem.W.Fast.tw1201483909125674726 : Nat := 0
def PySem.W.Fast.tw14305935565352849190 : Nat := 0
def PySem.W.Fast.tw17652428147890032550 : Nat := 0
def PySem.W.Fast.tw9738349169135255462 : Nat := 0
def PySem.W.Fast.tw379136763255275527 : Nat := 0
def PySem.W.Fast.tw900260479327290439 : Nat := 0
def PySem.W.Fast.tw12362317728636474503 : Nat := 0
def PySem.W.Fast.tw8458352632545326247 : Nat := 0
def PySem.W.Fast.tw11044689400225193319 : Nat := 0
def PySem.W.Fast.tw1723335573319476743 : Nat := 0
def PySem.W.Fast.tw13617607100827629095 : Nat := 0
def PySem.W.Fast.tw15779091405397395015 : Nat := 0
def PySem.W.Fast.tw1990819517690554951 : Nat := 0
def PySem.W.Fast.tw10674890972104076935 : Nat := 0
def PySem.W.Fast.tw10898715510582913671 : Nat := 0
def PySem.W.Fast.tw4751813901975093031 : Nat := 0
def PySem.W.Fast.tw3094700220979739527 : Nat := 0
def PySem.W.Fast.tw16138359494702735400 : Nat := 0
def PySem.W.Fast.tw8046382406277493896 : Nat := 0
def PySem.W.Fast.tw4638447565762736296 : Nat := 0
def PySem.W.Fast.tw5686883380809759944 : Nat := 0
def PySem.W.Fast.tw14766665203322950888 : Nat := 0
def PySem.W.Fast.tw14420832221370813704 : Nat := 0
def PySem.W.Fast.tw6073396356086168936 : Nat := 0
def PySem.W.Fast.tw4810738456595060072 : Nat := 0
def PySem.W.Fast.tw12194891614465222184 : Nat := 0
def PySem.W.Fast.tw482919681077853832 : Nat := 0
def PySem.W.Fast.tw7846677127658438280 : Nat := 0
def PySem.W.Fast.tw17438734553954670280 : Nat := 0
def PySem.W.Fast.tw3794523237416412968 : Nat := 0
def PySem.W.Fast.tw11779682696590683944 : Nat := 0
def PySem.W.Fast.tw1971711749671875400 : Nat := 0
def PySem.W.Fast.tw13322721904310761384 : Nat := 0
def PySem.W.Fast.tw13123762991706028073 : Nat := 0
def PySem.W.Fast.tw5853997249927631049 : Nat := 0
def PySem.W.Fast.tw17973001220516616393 : Nat := 0
def PySem.W.Fast.tw5920769697708421353 : Nat := 0
def PySem.W.Fast.tw15069031082780261609 : Nat := 0
def PySem.W.Fast.tw868425394930478473 : Nat := 0
def PySem.W.Fast.tw15959572909138786729 : Nat := 0
def PySem.W.Fast.tw11787087701475471849 : Nat := 0
def PySem.W.Fast.tw12459746782186336777 : Nat := 0
def PySem.W.Fast.tw17237798995232473673 : Nat := 0
def PySem.W.Fast.tw12653009580984849001 : Nat := 0
def PySem.W.Fast.tw2488369925164900009 : Nat := 0
def PySem.W.Fast.tw7499791892528657289 : Nat := 0
def PySem.W.Fast.tw818377083691942889 : Nat := 0
def PySem.W.Fast.tw3858851105557555242 : Nat := 0
def PySem.W.Fast.tw878355511060462698 : Nat := 0
def PySem.W.Fast.tw3973843633834923146 : Nat := 0
def PySem.W.Fast.tw8607783731139852490 : Nat := 0
def PySem.W.Fast.tw6143194232854276426 : Nat := 0
def PySem.W.Fast.tw9846136863176594858 : Nat := 0
def PySem.W.Fast.tw11675776093391740426 : Nat := 0
def PySem.W.Fast.tw4109811052370141802 : Nat := 0
def PySem.W.Fast.tw2572118421079077482 : Nat := 0
def PySem.W.Fast.tw8495930412216062698 : Nat := 0
def PySem.W.Fast.tw9769606158157481738 : Nat := 0
def PySem.W.Fast.tw2338906513866099658 : Nat := 0
def PySem.W.Fast.tw8298941233126152203 : Nat := 0
def PySem.W.Fast.tw351491394926894475 : Nat := 0
def PySem.W.Fast.tw12754182249701431755 : Nat := 0
def PySem.W.Fast.tw17889984360495330891 : Nat := 0
def PySem.W.Fast.tw2249021888405227179 : Nat := 0
def PySem.W.Fast.tw7666317118420867755 : Nat := 0
def PySem.W.Fast.tw5510913527925507787 : Nat := 0
def PySem.W.Fast.tw15862333326171551435 : Nat := 0
def PySem.W.Fast.tw12720858691415400171 : Nat := 0
def PySem.W.Fast.tw9592616714656756587 : Nat := 0
def PySem.W.Fast.tw1552617301609243531 : Nat := 0
def PySem.W.Fast.tw8270122605879064588 : Nat := 0
def PySem.W.Fast.tw14936070762179306700 : Nat := 0
def PySem.W.Fast.tw6423945393983415948 : Nat := 0
def PySem.W.Fast.tw15851009024095798956 : Nat := 0
def PySem.W.Fast.tw12180528506011212492 : Nat := 0
def PySem.W.Fast.tw10962950849802005324 : Nat := 0
def PySem.W.Fast.tw17609727838154765292 : Nat := 0
def PySem.W.Fast.tw16286945916980125005 : Nat := 0
def PySem.W.Fast.tw6078076801632068973 : Nat := 0
def PySem.W.Fast.tw8350922971746528685 : Nat := 0
def PySem.W.Fast.tw8986967389105245613 : Nat := 0
def PySem.W.Fast.tw3705087981154231757 : Nat := 0
def PySem.W.Fast.tw6324196346472190445 : Nat := 0
def PySem.W.Fast.tw1260903317082461709 : Nat := 0
def PySem.W.Fast.tw5613353532237226541 : Nat := 0
def PySem.W.Fast.tw4067840601635410637 : Nat := 0
def PySem.W.Fast.tw12839494365465781965 : Nat := 0
def PySem.W.Fast.tw6051135877100277549 : Nat := 0
def PySem.W.Fast.tw2661293414087273293 : Nat := 0
def PySem.W.Fast.tw9563338058578357165 : Nat := 0
def PySem.W.Fast.tw91866432362959950 : Nat := 0
def PySem.W.Fast.tw2466892247707907182 : Nat := 0
def PySem.W.Fast.tw8724864118060244110 : Nat := 0
def PySem.W.Fast.tw350388854103577838 : Nat := 0
def PySem.W.Fast.tw7261089064471627054 : Nat := 0
def PySem.W.Fast.tw12051022728501252558 : Nat := 0
def PySem.W.Fast.tw4500560030316151342 : Nat := 0
def PySem.W.Fast.tw5602541994242189966 : Nat := 0
def PySem.W.Fast.tw14922192588554569422 : Nat := 0
def PySem.W.Fast.tw15974403199864695630 : Nat := 0
def PySem.W.Fast.tw5062065712372175854 : Nat := 0
def PySem.W.Fast.tw13460561027728330734 : Nat := 0
def PySem.W.Fast.tw612945482478866511 : Nat := 0
def PySem.W.Fast.tw16436291041217365231 : Nat := 0
def PySem.W.Fast.tw14347655644770320719 : Nat := 0
def PySem.W.Fast.tw1195346380738152111 : Nat := 0
def PySem.W.Fast.tw1302812020787153615 : Nat := 0
def PySem.W.Fast.tw6956568114442831791 : Nat := 0
def PySem.W.Fast.tw11096433419923567567 : Nat := 0
def PySem.W.Fast.tw3820600775332204592 : Nat := 0
def PySem.W.Fast.tw16207372882143316048 : Nat := 0
def PySem.W.Fast.tw3929053245977762896 : Nat := 0
def PySem.W.Fast.tw9841023574433799248 : Nat := 0
def PySem.W.Fast.tw11033326646159065232 : Nat := 0
def PySem.W.Fast.tw14410855679216268432 : Nat := 0
def PySem.W.Fast.tw15022616807489950864 : Nat := 0
def PySem.W.Fast.tw12191107602144913584 : Nat := 0
def PySem.W.Fast.tw16355254904037216432 : Nat := 0
def PySem.W.Fast.tw14266939692883125424 : Nat := 0
def PySem.W.Fast.tw14205463025511812304 : Nat := 0
def PySem.W.Fast.tw12552548082584967376 : Nat := 0
def PySem.W.Fast.tw11941419287031652560 : Nat := 0
def PySem.W.Fast.tw15653470947841178864 : Nat := 0
def PySem.W.Fast.tw14477194278905573616 : Nat := 0
def PySem.W.Fast.tw1992804720652719376 : Nat := 0
def PySem.W.Fast.tw5145908220928406992 : Nat := 0
def PySem.W.Fast.tw15912727412010827216 : Nat := 0
def PySem.W.Fast.tw1609494157009687120 : Nat := 0
def PySem.W.Fast.tw13879200113308052080 : Nat := 0
def PySem.W.Fast.tw5245272148435271344 : Nat := 0
def PySem.W.Fast.tw2291055340021022448 : Nat := 0
def PySem.W.Fast.tw8197313095812294512 : Nat := 0
def PySem.W.Fast.tw1242119934180001648 : Nat := 0
def PySem.W.Fast.tw15683490497168400304 : Nat := 0
def PySem.W.Fast.tw8790735871250500560 : Nat := 0
def PySem.W.Fast.tw5078359483226871825 : Nat := 0
def PySem.W.Fast.tw15595794215233005617 : Nat := 0
def PySem.W.Fast.tw11523912476480663601 : Nat := 0
def PySem.W.Fast.tw8587134493146588241 : Nat := 0
def PySem.W.Fast.tw9354528366289858641 : Nat := 0
def PySem.W.Fast.tw17752160525954849169 : Nat := 0
def PySem.W.Fast.tw6133179017067200945 : Nat := 0
def PySem.W.Fast.tw1868164951953736241 : Nat := 0
def PySem.W.Fast.tw10666911554953928241 : Nat := 0
def PySem.W.Fast.tw18208913922555504209 : Nat := 0
def PySem.W.Fast.tw12837655706257171089 : Nat := 0
def PySem.W.Fast.tw7430214756162134705 : Nat := 0
def PySem.W.Fast.tw10889830915691568945 : Nat := 0
def PySem.W.Fast.tw16274651942019584945 : Nat := 0
def PySem.W.Fast.tw1973584964352026577 : Nat := 0
def PySem.W.Fast.tw17294062179619044370 : Nat := 0
def PySem.W.Fast.tw17246959954138421394 : Nat := 0
def PySem.W.Fast.tw769684103999945938 : Nat := 0
def PySem.W.Fast.tw13631696448305325298 : Nat := 0
def PySem.W.Fast.tw3777961591926912274 : Nat := 0
def PySem.W.Fast.tw429182180299562290 : Nat := 0
def PySem.W.Fast.tw16044274285937922418 : Nat := 0
def PySem.W.Fast.tw10284738377695497586 : Nat := 0
def PySem.W.Fast.tw16589151006923116946 : Nat := 0
def PySem.W.Fast.tw13410128283419861394 : Nat := 0
def PySem.W.Fast.tw8620651195862157746 : Nat := 0
def PySem.W.Fast.tw4451369820439397810 : Nat := 0
def PySem.W.Fast.tw4742826645282140754 : Nat := 0
def PySem.W.Fast.tw5697671324884007730 : Nat := 0
def PySem.W.Fast.tw11759218177081612210 : Nat := 0
def PySem.W.Fast.tw9477734240901434354 : Nat := 0
def PySem.W.Fast.tw5338746963489709139 : Nat := 0
def PySem.W.Fast.tw7465160779773381971 : Nat := 0
def PySem.W.Fast.tw5054757790821463475 : Nat := 0
def PySem.W.Fast.tw12092356174199572051 : Nat := 0
def PySem.W.Fast.tw12465037823788295891 : Nat := 0
def PySem.W.Fast.tw1017496137238234867 : Nat := 0
def PySem.W.Fast.tw5784357100985474835 : Nat := 0
def PySem.W.Fast.tw7313762488273738739 : Nat := 0
def PySem.W.Fast.tw14579637137600600180 : Nat := 0
def PySem.W.Fast.tw15942876522515450068 : Nat := 0
def PySem.W.Fast.tw7478265501472879924 : Nat := 0
def PySem.W.Fast.tw13836662794416248148 : Nat := 0
def PySem.W.Fast.tw3107908119552280020 : Nat := 0
def PySem.W.Fast.tw14955387115354676692 : Nat := 0
def PySem.W.Fast.tw10634082689217939988 : Nat := 0
def PySem.W.Fast.tw12196484544102972372 : Nat := 0
def PySem.W.Fast.tw13629883856927234069 : Nat := 0
def PySem.W.Fast.tw11017888142834118805 : Nat := 0
def PySem.W.Fast.tw817369824750025909 : Nat := 0
def PySem.W.Fast.tw4523711614314988853 : Nat := 0
def PySem.W.Fast.tw428734296861960693 : Nat := 0
def PySem.W.Fast.tw3795177165000265301 : Nat := 0
def PySem.W.Fast.tw16399503937869258549 : Nat := 0
def PySem.W.Fast.tw13188797855867839285 : Nat := 0
def PySem.W.Fast.tw5105417036719584053 : Nat := 0
def PySem.W.Fast.tw5215416387465797461 : Nat := 0
def PySem.W.Fast.tw13111122949659272053 : Nat := 0
def PySem.W.Fast.tw12089604204997122965 : Nat := 0
def PySem.W.Fast.tw292296599929039926 : Nat := 0
def PySem.W.Fast.tw13488760910799337654 : Nat := 0
def PySem.W.Fast.tw17932018704484089366 : Nat := 0
def PySem.W.Fast.tw2061303120975610614 : Nat := 0
def PySem.W.Fast.tw10413366363664288566 : Nat := 0
def PySem.W.Fast.tw9552252688117330774 : Nat := 0
def PySem.W.Fast.tw3306978093632113622 : Nat := 0
def PySem.W.Fast.tw4622979115995709463 : Nat := 0
def PySem.W.Fast.tw9960071894423437335 : Nat := 0
def PySem.W.Fast.tw10051886585750941815 : Nat := 0
def PySem.W.Fast.tw18335480163408344183 : Nat := 0
def PySem.W.Fast.tw17305572578425781399 : Nat := 0
def PySem.W.Fast.tw11070564616616718487 : Nat := 0
def PySem.W.Fast.tw3344501792399962647 : Nat := 0
def PySem.W.Fast.tw4033125440330023511 : Nat := 0
def PySem.W.Fast.tw13004627826241759863 : Nat := 0
def PySem.W.Fast.tw379805206066034455 : Nat := 0
def PySem.W.Fast.tw6802169140728316791 : Nat := 0
def PySem.W.Fast.tw13875917121247309080 : Nat := 0
def PySem.W.Fast.tw775294379225143736 : Nat := 0
def PySem.W.Fast.tw13006650029656193496 : Nat := 0
def PySem.W.Fast.tw13560721190904672792 : Nat := 0
def PySem.W.Fast.tw4663929590823891544 : Nat := 0
def PySem.W.Fast.tw2919987350286945912 : Nat := 0
def PySem.W.Fast.tw3013470228265477848 : Nat := 0
def PySem.W.Fast.tw1890424465520565048 : Nat := 0
def PySem.W.Fast.tw1089853327755848504 : Nat := 0
def PySem.W.Fast.tw403547893446977368 : Nat := 0
def PySem.W.Fast.tw18051487224285949880 : Nat := 0
def PySem.W.Fast.tw1073525822311976952 : Nat := 0
def PySem.W.Fast.tw7552407164389612536 : Nat := 0
def PySem.W.Fast.tw10782895745186429977 : Nat := 0
def PySem.W.Fast.tw8497041122892188729 : Nat := 0
def PySem.W.Fast.tw5997404626126536761 : Nat := 0
def PySem.W.Fast.tw8231959989492577433 : Nat := 0
def PySem.W.Fast.tw1796032068345120953 : Nat := 0
def PySem.W.Fast.tw2050249034634372313 : Nat := 0
def PySem.W.Fast.tw10734193190445361433 : Nat := 0
def PySem.W.Fast.tw8798203634949200185 : Nat := 0
def PySem.W.Fast.tw10667134068191722009 : Nat := 0
def PySem.W.Fast.tw8406136241587333817 : Nat := 0
def PySem.W.Fast.tw2409895046610112217 : Nat := 0
def PySem.W.Fast.tw12655158053210347289 : Nat := 0
def PySem.W.Fast.tw18342246961291208473 : Nat := 0
def PySem.W.Fast.tw5495673112755282809 : Nat := 0
def PySem.W.Fast.tw18191803998768792473 : Nat := 0
def PySem.W.Fast.tw11817803474861253593 : Nat := 0
def PySem.W.Fast.tw17632346644376620218 : Nat := 0
def PySem.W.Fast.tw13881230800074426586 : Nat := 0
def PySem.W.Fast.tw13695413486521275610 : Nat := 0
def PySem.W.Fast.tw4544016857832356346 : Nat := 0
def PySem.W.Fast.tw8237776079740230266 : Nat := 0
def PySem.W.Fast.tw3194783077238505242 : Nat := 0
def PySem.W.Fast.tw9006757579874196282 : Nat := 0
def PySem.W.Fast.tw4458975688868701275 : Nat := 0
def PySem.W.Fast.tw5252610081019998363 : Nat := 0
def PySem.W.Fast.tw4811733945541737787 : Nat := 0
def PySem.W.Fast.tw959425720238072187 : Nat := 0
def PySem.W.Fast.tw3049690028263083451 : Nat := 0
def PySem.W.Fast.tw5835316430296340955 : Nat := 0
def PySem.W.Fast.tw14948451711139979739 : Nat := 0
def PySem.W.Fast.tw20230945374757403 : Nat := 0
def PySem.W.Fast.tw3812555809956039387 : Nat := 0
def PySem.W.Fast.tw10023774307882740603 : Nat := 0
def PySem.W.Fast.tw751358691025268635 : Nat := 0
def PySem.W.Fast.tw7256662197681056892 : Nat := 0
def PySem.W.Fast.tw6609286078493531260 : Nat := 0
def PySem.W.Fast.tw9433411234470416796 : Nat := 0
def PySem.W.Fast.tw3405531070844727804 : Nat := 0
def PySem.W.Fast.tw12033397620868589084 : Nat := 0
def PySem.W.Fast.tw9524570126809341628 : Nat := 0
def PySem.W.Fast.tw5915643925263165244 : Nat := 0
def PySem.W.Fast.tw3845106257114647452 : Nat := 0
def PySem.W.Fast.tw5443946836337200189 : Nat := 0
def PySem.W.Fast.tw6030240815907103037 : Nat := 0
def PySem.W.Fast.tw14597040615435178365 : Nat := 0
def PySem.W.Fast.tw12100572718647142877 : Nat := 0
def PySem.W.Fast.tw17158292358724911741 : Nat := 0
def PySem.W.Fast.tw9653132276492879581 : Nat := 0
def PySem.W.Fast.tw9612642423362440925 : Nat := 0
def PySem.W.Fast.tw1961117100056378109 : Nat := 0
def PySem.W.Fast.tw18099797660074066813 : Nat := 0
def PySem.W.Fast.tw16811125951272781725 : Nat := 0
def PySem.W.Fast.tw4331469600922941502 : Nat := 0
def PySem.W.Fast.tw10027897135522377854 : Nat := 0
def PySem.W.Fast.tw8197888630311464126 : Nat := 0
def PySem.W.Fast.tw6217954300598910174 : Nat := 0
def PySem.W.Fast.tw8277631110427247966 : Nat := 0
def PySem.W.Fast.tw6686635732181862782 : Nat := 0
def PySem.W.Fast.tw8866559991993689534 : Nat := 0
def PySem.W.Fast.tw101235776594854398 : Nat := 0
def PySem.W.Fast.tw16402686067216207358 : Nat := 0
def PySem.W.Fast.tw5567316425168851518 : Nat := 0
def PySem.W.Fast.tw9629667585587298878 : Nat := 0
def PySem.W.Fast.tw11923495066786260574 : Nat := 0
def PySem.W.Fast.tw8555311835060611710 : Nat := 0
def PySem.W.Fast.tw9753768214315943614 : Nat := 0
def PySem.W.Fast.tw16554574798581026558 : Nat := 0
def PySem.W.Fast.tw7617259944938965758 : Nat := 0
def PySem.W.Fast.tw4602580435548293918 : Nat := 0
def PySem.W.Fast.tw16887840383877253950 : Nat := 0
def PySem.W.Fast.tw7106042381512817598 : Nat := 0
def PySem.W.Fast.tw9200727355961121758 : Nat := 0
def PySem.W.Fast.tw17127310674655490046 : Nat := 0
def PySem.W.Fast.tw1720311179594576959 : Nat := 0
def PySem.W.Fast.tw7699075733446847775 : Nat := 0
def PySem.W.Fast.tw18366283689075968383 : Nat := 0
def PySem.W.Fast.tw7224086290040786367 : Nat := 0
def PySem.W.Fast.tw8160824402232890943 : Nat := 0
def PySem.W.Fast.tw15066766330717824671 : Nat := 0
def PySem.W.Fast.tw9292881526052017855 : Nat := 0
def PySem.W.Fast.tw1590823243516124895 : Nat := 0
def PySem.W.Fast.tw13943387676964826879 : Nat := 0
def PySem.W.Fast.tw6627958001596893023 : Nat := 0
def PySem.W.Fast.tw1970996576389420895 : Nat := 0
def PySem.W.Fast.tw11930128718253875103 : Nat := 0
def PySem.W.Fast.tw4467859478704207775 : Nat := 0
set_option maxRecDepth 100000 in
set_option maxHeartbeats 0 in
theorem PySem.Challenge.cw_modehand_k36_join_holds : PySem.Challenge.rw_modehand_k36_join.Holds := by
  w_on; o_law; k_head; (case hw => w_witness2)
  k_fill
  refine My.walk (l := PySem.Challenge.rw_modehand_k36_join) rfl rfl (fun w h Y => PySem.W.kIn_of Y) ?F
  case F =>
    intro w mg fa h KX G hmg
    refine' My.all_mk KX G hmg ?a_is_whole ?l_is_whole ?c_is_whole ?k_is_whole ?a_is_place ?l_is_place ?c_is_place ?k_is_place ?a_is_row ?l_is_row ?c_is_row ?k_is_row ?a_check_place ?l_check_place ?c_check_place ?k_check_place ?a_check_row ?l_check_row ?c_check_row ?k_check_row ?a_row_count ?l_row_count ?c_row_count ?k_row_count ?a_row_of ?l_row_of ?c_row_of ?k_row_of ?a_column_of ?l_column_of ?c_column_of ?k_column_of ?a_begin_of ?l_begin_of ?c_begin_of ?k_begin_of ?a_end_of ?l_end_of ?c_end_of ?k_end_of ?a_place_of ?l_place_of ?c_place_of ?k_place_of ?a_pieces ?l_pieces ?c_pieces ?k_pieces ?a_block_pieces ?l_block_pieces ?c_block_pieces ?k_block_pieces ?a_fits ?l_fits ?c_fits ?k_fits ?a_spliced ?l_spliced ?c_spliced ?k_spliced ?a_changing ?l_changing ?c_changing ?k_changing ?a_too_long ?l_too_long ?c_too_long ?k_too_long ?a_shelved ?l_shelved ?c_shelved ?k_shelved ?a_rows_in ?l_rows_in ?c_rows_in ?k_rows_in ?a_taken_out ?l_taken_out ?c_taken_out ?k_taken_out ?a_left_as_is ?l_left_as_is ?c_left_as_is ?k_left_as_is ?a_exchanged ?l_exchanged ?c_exchanged ?k_exchanged ?a_great ?l_great ?c_great ?k_great ?a_small ?l_small ?c_small ?k_small ?a_signs_of_piece ?l_signs_of_piece ?c_signs_of_piece ?k_signs_of_piece ?a_done_to_pieces ?l_done_to_pieces ?c_done_to_pieces ?k_done_to_pieces ?a_deeper ?l_deeper ?c_deeper ?k_deeper ?a_flatter ?l_flatter ?c_flatter ?k_flatter ?a_indented ?l_indented ?c_indented ?k_indented ?a_joining ?l_joining ?c_joining ?k_joining ?a_joined ?l_joined ?c_joined ?k_joined ?a_done_unbounded ?l_done_unbounded ?c_done_unbounded ?k_done_unbounded ?dl_done ?a_done ?l_done ?c_done ?k_done ?a__law_cell_at ?l__law_cell_at ?c__law_cell_at ?k__law_cell_at ?a__law_whole ?l__law_whole ?c__law_whole ?k__law_whole ?a__law_sign ?l__law_sign ?c__law_sign ?k__law_sign ?a__law_text ?l__law_text ?c__law_text ?k__law_text ?a__law_blank_text ?l__law_blank_text ?c__law_blank_text ?k__law_blank_text ?a__law_at ?l__law_at ?c__law_at ?k__law_at ?a__law_starts ?l__law_starts ?c__law_starts ?k__law_starts ?a__law_stretch ?l__law_stretch ?c__law_stretch ?k__law_stretch ?a__law_shelf ?l__law_shelf ?c__law_shelf ?k__law_shelf ?a__law_splices ?l__law_splices ?c__law_splices ?k__law_splices ?a__law_told ?l__law_told ?c__law_told ?k__law_told ?a__law_rows ?l__law_rows ?c__law_rows ?k__law_rows ?a__law_walked ?l__law_walked ?c__law_walked ?k__law_walked ?a__law_good ?l__law_good ?c__law_good ?k__law_good ?a_law ?l_law ?c_law ?k_law ?nb ?g_MOST_SIGNS ?g_PUTTING ?d_PUTTING ?y_PUTTING ?g_INDENTING ?d_INDENTING ?y_INDENTING ?z_len ?z_range ?z_min ?z_max ?z_isinstance ?z_int ?z_bool ?z_str ?z_tuple ?z_list ?z_reversed ?z_sum
    (case a_is_whole => k_is); (case l_is_whole => k_is); (case c_is_whole => k_is); (case k_is_whole => k_is)
    (case a_is_place => k_is); (case l_is_place => k_is); (case c_is_place => k_is); (case k_is_place => k_is)
    (case a_is_row => k_is); (case l_is_row => k_is); (case c_is_row => k_is); (case k_is_row => k_is)
    (case a_check_place => k_is); (case l_check_place => k_is); (case c_check_place => k_is); (case k_check_place => k_is)
    (case a_check_row => k_is); (case l_check_row => k_is); (case c_check_row => k_is); (case k_check_row => k_is)
    (case a_row_count => k_is); (case l_row_count => k_is); (case c_row_count => k_is); (case k_row_count => k_is)
    (case a_row_of => k_is); (case l_row_of => k_is); (case c_row_of => k_is); (case k_row_of => k_is)
    (case a_column_of => k_is); (case l_column_of => k_is); (case c_column_of => k_is); (case k_column_of => k_is)
    (case a_begin_of => k_is); (case l_begin_of => k_is); (case c_begin_of => k_is); (case k_begin_of => k_is)
    (case a_end_of => k_is); (case l_end_of => k_is); (case c_end_of => k_is); (case k_end_of => k_is)
    (case a_place_of => k_is); (case l_place_of => k_is); (case c_place_of => k_is); (case k_place_of => k_is)
    (case a_pieces => k_is); (case l_pieces => k_is); (case c_pieces => k_is); (case k_pieces => k_is)
    (case a_block_pieces => k_is); (case l_block_pieces => k_is); (case c_block_pieces => k_is); (case k_block_pieces => k_is)
    (case a_fits => k_is); (case l_fits => k_is); (case c_fits => k_is); (case k_fits => k_is)
    (case a_spliced => k_is); (case l_spliced => k_is); (case c_spliced => k_is); (case k_spliced => k_is)
    (case a_changing => k_is); (case l_changing => k_is); (case c_changing => k_is); (case k_changing => k_is)
    (case a_too_long => k_is); (case l_too_long => k_is); (case c_too_long => k_is); (case k_too_long => k_is)
    (case a_shelved => k_is); (case l_shelved => k_is); (case c_shelved => k_is); (case k_shelved => k_is)
    (case a_rows_in => k_is); (case l_rows_in => k_is); (case c_rows_in => k_is); (case k_rows_in => k_is)
    (case a_taken_out => k_is); (case l_taken_out => k_is); (case c_taken_out => k_is); (case k_taken_out => k_is)
    (case a_left_as_is => k_is); (case l_left_as_is => k_is); (case c_left_as_is => k_is); (case k_left_as_is => k_is)
    (case a_exchanged => k_is); (case l_exchanged => k_is); (case c_exchanged => k_is); (case k_exchanged => k_is)
    (case a_great => k_is); (case l_great => k_is); (case c_great => k_is); (case k_great => k_is)
    (case a_small => k_is); (case l_small => k_is); (case c_small => k_is); (case k_small => k_is)
    (case a_signs_of_piece => k_is); (case l_signs_of_piece => k_is); (case c_signs_of_piece => k_is); (case k_signs_of_piece => k_is)
    (case a_done_to_pieces => k_is); (case l_done_to_pieces => k_is); (case c_done_to_pieces => k_is); (case k_done_to_pieces => k_is)
    (case a_deeper => k_is); (case l_deeper => k_is); (case c_deeper => k_is); (case k_deeper => k_is)
    (case a_flatter => k_is); (case l_flatter => k_is); (case c_flatter => k_is); (case k_flatter => k_is)
    (case a_indented => k_is); (case l_indented => k_is); (case c_indented => k_is); (case k_indented => k_is)
    (case a_joining => k_is); (case l_joining => k_is); (case c_joining => k_is); (case k_joining => k_is)
    (case a_joined => k_is); (case l_joined => k_is); (case c_joined => k_is); (case k_joined => k_is)
    (case a_done_unbounded => k_is); (case l_done_unbounded => k_is); (case c_done_unbounded => k_is); (case k_done_unbounded => k_is)
    (case a_done => k_is); (case l_done => k_is); (case c_done => k_is); (case k_done => k_is); (case dl_done => k_is)
    (case a__law_cell_at => k_is); (case l__law_cell_at => k_is); (case c__law_cell_at => k_is); (case k__law_cell_at => k_is)
    (case a__law_whole => k_is); (case l__law_whole => k_is); (case c__law_whole => k_is); (case k__law_whole => k_is)
    (case a__law_sign => k_is); (case l__law_sign => k_is); (case c__law_sign => k_is); (case k__law_sign => k_is)
    (case a__law_text => k_is); (case l__law_text => k_is); (case c__law_text => k_is); (case k__law_text => k_is)
    (case a__law_blank_text => k_is); (case l__law_blank_text => k_is); (case c__law_blank_text => k_is); (case k__law_blank_text => k_is)
    (case a__law_at => k_is); (case l__law_at => k_is); (case c__law_at => k_is); (case k__law_at => k_is)
    (case a__law_starts => k_is); (case l__law_starts => k_is); (case c__law_starts => k_is); (case k__law_starts => k_is)
    (case a__law_stretch => k_is); (case l__law_stretch => k_is); (case c__law_stretch => k_is); (case k__law_stretch => k_is)
    (case a__law_shelf => k_is); (case l__law_shelf => k_is); (case c__law_shelf => k_is); (case k__law_shelf => k_is)
    (case a__law_splices => k_is); (case l__law_splices => k_is); (case c__law_splices => k_is); (case k__law_splices => k_is)
    (case a__law_told => k_is); (case l__law_told => k_is); (case c__law_told => k_is); (case k__law_told => k_is)
    (case a__law_rows => k_is); (case l__law_rows => k_is); (case c__law_rows => k_is); (case k__law_rows => k_is)
    (case a__law_walked => k_is); (case l__law_walked => k_is); (case c__law_walked => k_is); (case k__law_walked => k_is)
    (case a__law_good => k_is); (case l__law_good => k_is); (case c__law_good => k_is); (case k__law_good => k_is)
    (case a_law => k_is); (case l_law => k_is); (case c_law => k_is); (case k_law => k_is)
    (case nb => k_is); (case g_MOST_SIGNS => k_is); (case g_PUTTING => k_is); (case d_PUTTING => k_is); (case g_INDENTING => k_is); (case d_INDENTING => k_is); (case z_len => k_is); (case z_range => k_is); (case z_min => k_is); (case z_max => k_is); (case z_isinstance => k_is); (case z_int => k_is); (case z_bool => k_is); (case z_str => k_is); (case z_tuple => k_is); (case z_list => k_is); (case z_reversed => k_is); (case z_sum => k_is)
    (case y_PUTTING => rfl); (case y_INDENTING => rfl)
#print axioms PySem.Challenge.cw_modehand_k36_join_holds

