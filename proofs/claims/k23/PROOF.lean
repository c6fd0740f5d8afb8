import PyProof.Rows.All
import Wide.All
import OpenK.AllK
import Wide.FinOn
import Lean
import PyProof.EqAt
import PyProof.EqKinds
import PyProof.TupleCall
import PySem.Challenge.RW_modehand_k23_brackets_round
-- CHANGE: your row's module here, as the last of these rows
set_option Elab.async false
set_option linter.all false
set_option maxRecDepth 100000
/-! THE HAND LAYER, for ints, bools, texts, own classes, LISTS and tuples (index, slices, in, append, pop ..), calls, loops. Paste it whole ahead of your own text; what your proof does not reach may be deleted. -/
namespace L2
open PySem PySem.Spec PyProof.Rows

abbrev Key := Sum Int Str
def keyIs : Key → Value → Bool
  | .inl k, v => Value.isInt k v
  | .inr x, v => Value.isStrOf x v
def keyH (w : World) : Key → Int
  | .inl k => hashInt k
  | .inr x => hashStr w x
theorem keyIs_shape : ∀ {k : Key} {v : Value}, keyIs k v = true → (∃ i t, k = Sum.inl i ∧ v = Value.int i t) ∨ (∃ x t, k = Sum.inr x ∧ v = Value.str x t)
  | .inl i, v, h => by
    obtain ⟨t, e⟩ := Value.isInt_shape (k := i) (v := v) h
    exact .inl ⟨i, t, rfl, e⟩
  | .inr x, v, h => by
    obtain ⟨t, e⟩ := Value.isStrOf_shape (x := x) (v := v) h
    exact .inr ⟨x, t, rfl, e⟩
theorem key_ll (a b : Int) : decide ((Sum.inl a : Key) = Sum.inl b) = (a == b) := by
  by_cases e : a = b
  · subst e; simp
  · have h : ¬ (Sum.inl a : Key) = Sum.inl b := fun q => e (Sum.inl.inj q)
    rw [decide_eq_false h]
    exact (beq_eq_false_iff_ne.mpr e).symm
theorem key_rr (a b : Str) : decide ((Sum.inr a : Key) = Sum.inr b) = decide (a = b) := by
  by_cases e : a = b
  · subst e; simp
  · have h : ¬ (Sum.inr a : Key) = Sum.inr b := fun q => e (Sum.inr.inj q)
    rw [decide_eq_false h, decide_eq_false e]
theorem key_lr (a : Int) (b : Str) : decide ((Sum.inl a : Key) = Sum.inr b) = false := decide_eq_false (fun q => nomatch q)
theorem key_rl (a : Str) (b : Int) : decide ((Sum.inr a : Key) = Sum.inl b) = false := decide_eq_false (fun q => nomatch q)

def mixKind (prog : Program) (w : World) : PySem.KeyKind prog w Key where
  is := keyIs
  hash := keyH w
  inj := fun v a b ha hb => by
    rcases keyIs_shape ha with ⟨i, t, rfl, rfl⟩ | ⟨x, t, rfl, rfl⟩
    · rcases keyIs_shape hb with ⟨j, u, rfl, e⟩ | ⟨y, u, rfl, e⟩
      · injection e with e1 _; rw [e1]
      · exact nomatch e
    · rcases keyIs_shape hb with ⟨j, u, rfl, e⟩ | ⟨y, u, rfl, e⟩
      · exact nomatch e
      · injection e with e1 _; rw [e1]
  byValue := fun k v h => by
    rcases keyIs_shape h with ⟨i, t, rfl, rfl⟩ | ⟨x, t, rfl, rfl⟩ <;> rfl
  pyHash := fun hv h => by
    rcases keyIs_shape hv with ⟨i, t, rfl, rfl⟩ | ⟨x, t, rfl, rfl⟩
    · exact wpAny_pyHash_int h
    · exact wpAny_pyHash_str h
  eqBool := fun hu hv h => by
    rcases keyIs_shape hu with ⟨i, t, rfl, rfl⟩ | ⟨x, t, rfl, rfl⟩
    · rcases keyIs_shape hv with ⟨j, u, rfl, rfl⟩ | ⟨y, u, rfl, rfl⟩
      · rw [key_ll] at h; exact wpAny_eqBool_int h
      · rw [key_lr] at h; exact SeqAt.EqAt.int_str i t y u _ _ _ _ h
    · rcases keyIs_shape hv with ⟨j, u, rfl, rfl⟩ | ⟨y, u, rfl, rfl⟩
      · rw [key_rl] at h; exact SeqAt.EqAt.str_int x t j u _ _ _ _ h
      · rw [key_rr] at h; exact wpAny_eqBool_str h
  «strs» := fun k x t v h => by
    rcases keyIs_shape h with ⟨i, u, rfl, e⟩ | ⟨y, u, rfl, e⟩
    · exact nomatch e
    · injection e with e1 _
      subst e1
      cases v <;> rfl

end L2

namespace L2
open PySem PySem.Spec PyProof.Rows

inductive V where
  | non | bl (b : Bool) | int (i : Int) | str (x : Str) | byt (b : Array UInt8) | flt (b : UInt64) | ref (a : Addr) | ty (n : String)
  deriving DecidableEq

def RelV : V → Value → Prop
  | .non, u => u = Value.none
  | .bl b, u => u = Value.bool b
  | .int i, u => ∃ t, u = Value.int i t
  | .str x, u => ∃ t, u = Value.str x t
  | .byt b, u => ∃ t, u = Value.bytes b t
  | .flt b, u => ∃ t, u = Value.float b t
  | .ref a, u => u = Value.ref a
  | .ty n, u => u = Value.type n

abbrev Vals : List V → List Value → Prop := Paired RelV
theorem Vals.length {xs : List V} {us : List Value} (r : Vals xs us) : xs.length = us.length := Paired.length r
theorem Vals.get : ∀ {xs : List V} {us : List Value} {i : Nat} {x : V}, Vals xs us → xs[i]? = some x → ∃ u, us[i]? = some u ∧ RelV x u
  | _, _, _, _, .nil, e => by simp at e
  | _, _, 0, _, .cons r _, e => by simp at e; subst e; exact ⟨_, rfl, r⟩
  | _, _, i + 1, x, .cons _ t, e => by
    obtain ⟨u, h1, h2⟩ := Vals.get (i := i) (x := x) t (by simpa using e)
    exact ⟨u, by simpa using h1, h2⟩
theorem Vals.append : ∀ {xs ys : List V} {us ws : List Value}, Vals xs us → Vals ys ws → Vals (xs ++ ys) (us ++ ws)
  | _, _, _, _, .nil, s => s
  | _, _, _, _, .cons r t, s => .cons r (Vals.append t s)
theorem Vals.take : ∀ {xs : List V} {us : List Value} (n : Nat), Vals xs us → Vals (xs.take n) (us.take n)
  | _, _, 0, _ => .nil
  | _, _, _ + 1, .nil => .nil
  | _, _, n + 1, .cons r t => .cons r (Vals.take n t)
theorem Vals.drop : ∀ {xs : List V} {us : List Value} (n : Nat), Vals xs us → Vals (xs.drop n) (us.drop n)
  | _, _, 0, r => r
  | _, _, _ + 1, .nil => .nil
  | _, _, n + 1, .cons _ t => Vals.drop n t
def RelO : Option V → Option Value → Prop
  | some v, some u => RelV v u
  | none, none => True
  | _, _ => False
def KV {κ : Type} : List (κ × V) → List (κ × Value) → Prop := Paired fun (p : κ × V) (q : κ × Value) => p.1 = q.1 ∧ RelV p.2 q.2

def kV : Key → V
  | .inl i => .int i
  | .inr x => .str x

inductive HO where
  /-- a list -/
  | lst (xs : List V)
  /-- a tuple (never changes) -/
  | tup (xs : List V)
  /-- a dict whose keys are ints and texts; one whose keys are tuples of ints and texts (the empty one is both) -/
  | dK (kvs : List (Key × V)) | dT (kvs : List (List Key × V))
  /-- a set of ints: its members, its size -/
  | set (S : Int → Bool) (n : Nat)
  /-- an instance of the class at C, its dict at dx, its attributes -/
  | ins (C dx : Addr) (fs : List (Str × V))
  /-- the dict of the instance at x -/
  | own (x : Addr)
  /-- the dict of an exception -/
  | xd (fs : List (Str × V))
  /-- a bound method, f of x -/
  | met (f x : Addr)
  /-- a range object lo, lo + 1, .. below hi -/
  | rng (lo hi : Int)
  /-- a thing that is known to the object (the script; a dict while a loop walks it): read, never written while it is so -/
  | frz (o : Obj) (u : HO)
  /-- a code object's table -/
  | tbl (ps : Array Value)
  /-- any other thing, by what is true of its one object (a def of one's own: SetO a S n := HO.ext fun h => ..) -/
  | ext (φ : Heap → Prop)

abbrev Hp := Addr → Option HO
def upd (H : Hp) (a : Addr) (o : HO) : Hp := fun b => if b = a then some o else H b
theorem upd_same {H : Hp} {a : Addr} {o : HO} : upd H a o a = some o := by unfold upd; rw [if_pos rfl]
theorem upd_ne {H : Hp} {a b : Addr} {o : HO} (h : b ≠ a) : upd H a o b = H b := by unfold upd; rw [if_neg h]
theorem ne_of {H : Hp} {a b : Addr} {o u : HO} (h : H a = some o) (h' : H b = some u) (d : o ≠ u) : a ≠ b := by
  intro e; subst e; rw [h] at h'; exact d (Option.some.inj h')
theorem ne_of_none {H : Hp} {a b : Addr} {o : HO} (h : H a = some o) (h' : H b = none) : a ≠ b := by
  intro e; subst e; rw [h] at h'; cases h'

section
variable (P : Program) (w : World)
def ObjOk (H : Hp) (h : Heap) (a : Addr) : HO → Prop
  | .lst xs => xs.length ≤ sizeLine ∧ ∃ (its : List Value) (n : Nat), Vals xs its ∧ h.get? a = some { cls := .type "list", data := .seq its.toArray n }
  | .tup xs => xs.length ≤ sizeLine ∧ ∃ its : List Value, Vals xs its ∧ IsTup h a its.toArray
  | .dK kvs => kvs.length ≤ sizeLine ∧ (a == sysModules) = false ∧ ∃ vs, KV kvs vs ∧ h.DictOf (mixKind P w) a vs
  | .dT kvs => kvs.length ≤ sizeLine ∧ (a == sysModules) = false ∧ ∃ xs : List (List Key × Addr × Value),
      Paired (fun (p : List Key × V) (q : List Key × Addr × Value) => p.1 = q.1 ∧ H q.2.1 = some (.tup (p.1.map kV)) ∧ RelV p.2 q.2.2) kvs xs ∧
      ∃ o es ep, h.get? a = some o ∧ o.ExactDict ∧ o.data = .dict es ep ∧ es.toList = xs.map (entryOfKey (tupleKind (mixKind P w))) ∧ (xs.map (·.1)).Nodup
  | .set S n => h.SetOf (intKind P w) a S n
  | .ins C dx fs => H dx = some (.own a) ∧ fs.length ≤ 1000 ∧ dx ≠ a ∧ h.get? a = some (PySem.W.instObj C dx) ∧
      ∃ mA, h.Ns1 dx mA ∧ (∀ f, RelO (fs.lookup f) (mA f)) ∧ PySem.Within mA (fs.map (·.1))
  | .own _ => ∃ o, h.get? a = some o
  | .xd fs => ∃ mA, h.Ns1 a mA ∧ ∀ f, RelO (fs.lookup f) (mA f)
  | .rng lo hi => ∃ t u v, h.get? a = some { cls := .type "range", data := .fields #[.int lo t, .int hi u, .int 1 v] }
  | .frz o u => h.get? a = some o ∧ ObjOk H h a u
  | .tbl ps => h.get? a = some { cls := .none, data := .fields ps }
  | .met f x => h.get? a = some (PySem.W.methodObj (.ref f) (.ref x))
  | .ext φ => φ h ∧ (∃ o, h.get? a = some o) ∧ ∀ h1 h2 : Heap, φ h1 → (∀ o, h1.get? a = some o → h2.get? a = some o) → φ h2
def HOk (H : Hp) (h : Heap) : Prop := ∀ a o, H a = some o → ObjOk P w H h a o
end

section
variable {P : Program} {w : World} {H H' : Hp} {h h' : Heap} {a : Addr} {o : HO}
theorem ObjOk.lt (x : ObjOk P w H h a o) : a < h.objs.size := by
  cases o with
  | lst xs => obtain ⟨_, _, _, _, e⟩ := x; exact Heap.lt_size e
  | tup xs => obtain ⟨_, _, _, p⟩ := x; exact p.lt
  | dK kvs => obtain ⟨_, _, _, _, o, _, _, e, _⟩ := x; exact Heap.lt_size e
  | dT kvs => obtain ⟨_, _, _, _, o, _, _, e, _⟩ := x; exact Heap.lt_size e
  | set S n => obtain ⟨o, _, _, _, e, _⟩ := x; exact Heap.lt_size e
  | ins C dx fs => obtain ⟨_, _, _, e, _⟩ := x; exact Heap.lt_size e
  | own y => obtain ⟨_, e⟩ := x; exact Heap.lt_size e
  | xd fs => obtain ⟨_, ⟨_, _, _, e, _⟩, _⟩ := x; exact Heap.lt_size e
  | rng lo hi => obtain ⟨_, _, _, e⟩ := x; exact Heap.lt_size e
  | frz ob u => obtain ⟨e, _⟩ := x; exact Heap.lt_size e
  | tbl ps => exact Heap.lt_size (show h.get? a = some _ from x)
  | met f y => exact Heap.lt_size (show h.get? a = some _ from x)
  | ext φ => obtain ⟨_, ⟨_, e⟩, _⟩ := x; exact Heap.lt_size e
theorem Paired.mapP {α β : Type} {F G : α → β → Prop} : ∀ {l₁ : List α} {l₂ : List β}, Paired F l₁ l₂ → (∀ a b, F a b → G a b) → Paired G l₁ l₂
  | _, _, .nil, _ => .nil
  | _, _, .cons r t, f => .cons (f _ _ r) (Paired.mapP t f)
theorem Paired.imp' {α β : Type} {F G : α → β → Prop} (f : ∀ a b, F a b → G a b) {l₁ : List α} {l₂ : List β} (r : Paired F l₁ l₂) : Paired G l₁ l₂ := Paired.mapP r f
theorem ObjOk.stay (x : ObjOk P w H h a o) (k : ∀ b u, (b = a ∨ H b = some (.own a)) → h.get? b = some u → h'.get? b = some u)
    (ho : ∀ b, H b = some (.own a) → H' b = some (.own a)) (ht : ∀ b xs, H b = some (.tup xs) → H' b = some (.tup xs)) : ObjOk P w H' h' a o := by
  induction o with
  | lst xs => obtain ⟨z, its, n, r, e⟩ := x; exact ⟨z, its, n, r, k _ _ (.inl rfl) e⟩
  | tup xs => obtain ⟨z, its, r, ob, e, c⟩ := x; exact ⟨z, its, r, ob, k _ _ (.inl rfl) e, c⟩
  | dK kvs => obtain ⟨z, y, vs, r, ob, es, ep, e, c⟩ := x; exact ⟨z, y, vs, r, ob, es, ep, k _ _ (.inl rfl) e, c⟩
  | dT kvs =>
    obtain ⟨z, y, xs, r, ob, es, ep, e, c⟩ := x
    exact ⟨z, y, xs, Paired.mapP r fun p q z => ⟨z.1, ht _ _ z.2.1, z.2.2⟩, ob, es, ep, k _ _ (.inl rfl) e, c⟩
  | set S n => obtain ⟨ob, es, ep, t, e, c⟩ := x; exact ⟨ob, es, ep, t, k _ _ (.inl rfl) e, c⟩
  | ins C dx fs =>
    obtain ⟨d, z, ne, e, mA, ⟨od, es, ep, e2, c⟩, r⟩ := x
    exact ⟨ho _ d, z, ne, k _ _ (.inl rfl) e, mA, ⟨od, es, ep, k _ _ (.inr d) e2, c⟩, r⟩
  | own y => obtain ⟨ob, e⟩ := x; exact ⟨ob, k _ _ (.inl rfl) e⟩
  | xd fs => obtain ⟨mA, ⟨od, es, ep, e, c⟩, r⟩ := x; exact ⟨mA, ⟨od, es, ep, k _ _ (.inl rfl) e, c⟩, r⟩
  | rng lo hi => obtain ⟨t, u, v, e⟩ := x; exact ⟨t, u, v, k _ _ (.inl rfl) e⟩
  | frz ob u ih => obtain ⟨e, q⟩ := x; exact ⟨k _ _ (.inl rfl) e, ih q⟩
  | tbl ps =>
    have e : h.get? a = some { cls := .none, data := .fields ps } := x
    show h'.get? a = some { cls := .none, data := .fields ps }
    exact k a _ (.inl rfl) e
  | met f y =>
    have e : h.get? a = some (PySem.W.methodObj (.ref f) (.ref y)) := x
    show h'.get? a = some (PySem.W.methodObj (.ref f) (.ref y))
    exact k a _ (.inl rfl) e
  | ext φ => obtain ⟨p, ⟨o, e⟩, st⟩ := x; exact ⟨st _ _ p fun o q => k _ _ (.inl rfl) q, ⟨o, k _ _ (.inl rfl) e⟩, st⟩
theorem HOk.lt (x : HOk P w H h) (e : H a = some o) : a < h.objs.size := (x a o e).lt
theorem HOk.fresh (x : HOk P w H h) (e : h.objs.size ≤ a) : H a = none := by
  cases q : H a with
  | none => rfl
  | some u => exact absurd (Nat.lt_of_lt_of_le (x.lt q) e) (Nat.lt_irrefl _)
theorem HOk.kept (x : HOk P w H h) (k : ∀ b u, h.get? b = some u → h'.get? b = some u) : HOk P w H h' := fun a o e =>
  (x a o e).stay (fun b u _ q => k b u q) (fun _ q => q) fun _ _ q => q
theorem HOk.laid (x : HOk P w H h) (k : ∀ b u, h.get? b = some u → h'.get? b = some u) (hp : h.objs.size ≤ a) (new : ObjOk P w (upd H a o) h' a o) : HOk P w (upd H a o) h' := fun b u e => by
  have hn := x.fresh hp
  by_cases hb : b = a
  · subst hb; rw [upd_same] at e; cases e; exact new
  · rw [upd_ne hb] at e
    exact (x b u e).stay (fun c v _ q => k c v q) (fun c q => by rw [upd_ne (ne_of_none q hn)]; exact q) fun c xs q => by rw [upd_ne (ne_of_none q hn)]; exact q
end

def Rd (H : Hp) (a : Addr) (u : HO) : Prop := H a = some u ∨ ∃ o, H a = some (.frz o u)
theorem Rd.ok {P : Program} {w : World} {H : Hp} {h : Heap} {a : Addr} {u : HO} (r : Rd H a u) (x : HOk P w H h) : ObjOk P w H h a u := by
  rcases r with r | ⟨o, r⟩
  · exact x a u r
  · obtain ⟨_, q⟩ := x a _ r
    exact q
def Mut : Option HO → Prop
  | some (.lst _) => True
  | some (.dK _) => True
  | some (.dT _) => True
  | some (.set _ _) => True
  | some (.ins _ _ _) => True
  | some (.ext _) => True
  | _ => False
section
variable {P : Program} {w : World} {H : Hp} {h h' : Heap} {x e : Addr} {o' : HO}
theorem HOk.write (ok : HOk P w H h) (mu : Mut (H x)) (he : e = x ∨ H e = some (.own x)) (k : ∀ b u, b ≠ e → h.get? b = some u → h'.get? b = some u) (heo : ∃ u, h'.get? e = some u)
    (new : ObjOk P w (upd H x o') h' x o') : HOk P w (upd H x o') h' := fun b u q => by
  have nown : ∀ c y, H c = some (.own y) → c ≠ x := fun c y r z => by subst z; rw [r] at mu; exact mu
  have ntup : ∀ c xs, H c = some (.tup xs) → c ≠ x := fun c xs r z => by subst z; rw [r] at mu; exact mu
  by_cases hb : b = x
  · subst hb; rw [upd_same] at q; cases q; exact new
  · rw [upd_ne hb] at q
    by_cases hbe : b = e
    · have q' : H b = some (.own x) := by
        rcases he with z | z
        · exact absurd (hbe.trans z) hb
        · rw [hbe]; exact z
      rw [q] at q'; cases q'
      obtain ⟨v, hv⟩ := heo
      exact ⟨v, by rw [hbe]; exact hv⟩
    · refine (ok b u q).stay (fun c v hc r => k c v ?_ r) (fun c r => by rw [upd_ne (nown c b r)]; exact r) fun c xs r => by rw [upd_ne (ntup c xs r)]; exact r
      rcases hc with rfl | hc
      · exact hbe
      · rintro rfl
        rcases he with z | z
        · exact nown c b hc z
        · rw [hc] at z; cases z; exact hb rfl
end

/-! ### kept unless tracked; of the frames at fs (the callers') the slots may change (an exception that passes writes there); of the records at ex (iterators) nothing is said -/
structure Un (fs ex : List Addr) (H H' : Hp) (h h' : Heap) : Prop where
  keep : ∀ b o, h.get? b = some o → H b = none → b ∉ fs → b ∉ ex → h'.get? b = some o
  slot : ∀ b o, h.get? b = some o → H b = none → b ∈ fs → b ∉ ex → ∃ sl, h'.get? b = some { o with slots := sl }
  free : ∀ b o, h.get? b = some o → H b = none → b ∉ ex → H' b = none
  there : ∀ b o, h.get? b = some o → b ∉ ex → ∃ o', h'.get? b = some o'
  tups : ∀ b xs, H b = some (.tup xs) → H' b = some (.tup xs)
  frzs : ∀ b o u, H b = some (.frz o u) → H' b = some (.frz o u)
  tbls : ∀ b ps, H b = some (.tbl ps) → ∃ more, H' b = some (.tbl (ps ++ more))
section
variable {fs fs' ex ex' : List Addr} {H H1 H2 : Hp} {h h1 h2 h' : Heap} {a x e : Addr} {o : HO}
theorem Un.any (u : Un fs ex H H1 h h1) {b : Addr} {ob : Obj} (q : h.get? b = some ob) (n : H b = none) (hx : b ∉ ex) : ∃ sl, h1.get? b = some { ob with slots := sl } := by
  by_cases hb : b ∈ fs
  · exact u.slot b ob q n hb hx
  · exact ⟨ob.slots, u.keep b ob q n hb hx⟩
theorem Un.kept (k : ∀ b u, h.get? b = some u → h'.get? b = some u) : Un fs ex H H h h' :=
  ⟨fun b ob q _ _ _ => k b ob q, fun b ob q _ _ _ => ⟨ob.slots, k b ob q⟩, fun _ _ _ n _ => n, fun b ob q _ => ⟨ob, k b ob q⟩, fun _ _ q => q, fun _ _ _ q => q, fun _ ps q => ⟨#[], by rw [q]; simp⟩⟩
theorem Un.refl : Un fs ex H H h h := Un.kept fun _ _ q => q
theorem Un.laid (k : ∀ b u, h.get? b = some u → h'.get? b = some u) (hp : h.objs.size ≤ a) (hn : H a = none) : Un fs ex H (upd H a o) h h' where
  keep := fun b u q _ _ _ => k b u q
  slot := fun b u q _ _ _ => ⟨u.slots, k b u q⟩
  free := fun b u q n _ => by rw [upd_ne (Nat.ne_of_lt (Nat.lt_of_lt_of_le (Heap.lt_size q) hp))]; exact n
  there := fun b u q _ => ⟨u, k b u q⟩
  tups := fun b xs q => by rw [upd_ne (ne_of_none q hn)]; exact q
  frzs := fun b u xs q => by rw [upd_ne (ne_of_none q hn)]; exact q
  tbls := fun b ps q => ⟨#[], by rw [upd_ne (ne_of_none q hn), q]; simp⟩
theorem Un.write (mu : Mut (H x)) (he : e = x ∨ H e = some (.own x)) (k : ∀ b u, b ≠ e → h.get? b = some u → h'.get? b = some u) (heo : ∃ u, h'.get? e = some u) : Un fs ex H (upd H x o) h h' := by
  have hx : ∀ b, H b = none → b ≠ x := fun b n z => by subst z; rw [n] at mu; exact mu
  have hb : ∀ b, H b = none → b ≠ e := fun b n z => by
    subst z
    rcases he with r | r
    · exact hx b n r
    · rw [n] at r; cases r
  have hm : ∀ b u, H b = some u → ¬ Mut (some u) → b ≠ x := fun b u q nm z => by subst z; rw [q] at mu; exact nm mu
  refine ⟨fun b u q n _ _ => k b u (hb b n) q, fun b u q n _ _ => ⟨u.slots, k b u (hb b n) q⟩, fun b u q n _ => by rw [upd_ne (hx b n)]; exact n, fun b u q _ => ?_,
    fun b xs q => by rw [upd_ne (hm b _ q fun z => z)]; exact q, fun b u xs q => by rw [upd_ne (hm b _ q fun z => z)]; exact q, fun b ps q => ⟨#[], by rw [upd_ne (hm b _ q fun z => z), q]; simp⟩⟩
  by_cases hbe : b = e
  · subst hbe; exact heo
  · exact ⟨u, k b u hbe q⟩
end

/-! ### the heap without what is tracked -/
def trk (h : Heap) (H : Hp) : List Addr := (List.range h.objs.size).filter fun a => (H a).isSome
def hidT (h : Heap) (H : Hp) : Heap := PySem.W.hideAll h (trk h H)
theorem hidT_size (h : Heap) (H : Hp) : (hidT h H).objs.size = h.objs.size := PySem.W.hideAll_size _ _
theorem hidT_get {h : Heap} {H : Hp} {b : Addr} {o : Obj} (e : h.get? b = some o) (n : H b = none) : (hidT h H).get? b = some o :=
  PySem.W.hideAll_get _ e fun hm => by
    have q : (H b).isSome = true := (List.mem_filter.mp hm).2
    rw [n] at q; simp at q
theorem of_hidT {h : Heap} {H : Hp} {b : Addr} {o : Obj} (e : (hidT h H).get? b = some o) : h.get? b = some o ∧ H b = none := by
  have e' : h.get? b = some o := PySem.W.of_hideAll (trk h H) e
  refine ⟨e', ?_⟩
  cases q : H b with
  | none => rfl
  | some x =>
    have hm : b ∈ trk h H := List.mem_filter.mpr ⟨List.mem_range.mpr (Heap.lt_size e'), by simp [q]⟩
    have z : (hidT h H).get? b = none := PySem.W.hideAll_none (trk h H) hm
    rw [z] at e; cases e

/-! ### OpenK's ledger, filled with every new object but one -/
end L2

namespace L2
open PySem PySem.Spec PyProof.Rows

structure Mod (K : PySem.W.Frag) (mg : Str → Option Value) (base : Heap) : Prop where
  kin : K.In base
  glob : base.Ns mainGlobals mg
  blt : ∃ mb, base.Ns builtinsNs mb ∧ ∀ x : Str, x ≠ "__name__" → mb x = bootBuiltins x
  nolimit : base.NoLimit

structure Cx where
  prog : Program
  w : World
  K : PySem.W.Frag
  mg : Str → Option Value
  base : Heap
  A : Around
  N : List Str
  s₀ : Shared
  H₀ : Hp
  env : Env
  outer : List Env
  stack : List Env
  ex : List Addr
  fn : Str → Bool
  calm : Bool
  pn : List (Addr × Obj)
  xe : Value → Shared → Prop
def frs (l : List Env) : List Addr := l.filterMap (·.frame)
abbrev Cx.fs (X : Cx) : List Addr := frs X.outer

def Vis (sc : Scope) (x : Str) : Prop := sc.names.lookup x = some .local ∨ sc.names.lookup x = some .cell ∨ sc.names.lookup x = some .free
def Loc (sc : Scope) (x : Str) : Prop := sc.names.lookup x = some .local ∨ sc.names.lookup x = some .cell
def Look (env : Env) (h : Heap) (m : Str → Option Value) (x : Str) (u : Value) : Prop :=
  (env.kindOf x = some .local ∧ m x = some u) ∨ ((env.kindOf x = some .cell ∨ env.kindOf x = some .free) ∧ ∃ c, env.cells.lookup x = some c ∧ h.IsCell c (some u))

structure Cx.Ok (X : Cx) : Prop where
  mod : Mod X.K X.mg X.base
  kind : X.env.scope.kind = .function
  glob : X.env.globals = mainGlobals
  blt : X.env.builtins = builtinsNs
  above : X.s₀.heap.objs.size ≤ X.env.locals
  inj : ∀ x y c, X.env.cells.lookup x = some c → X.env.cells.lookup y = some c → x = y
  has : ∀ x, (X.env.kindOf x = some .cell ∨ X.env.kindOf x = some .free) → ∃ c, X.env.cells.lookup x = some c
  cab : ∀ x c, X.fn x = true → X.env.cells.lookup x = some c → X.s₀.heap.objs.size ≤ c
  hd : X.calm = true → X.A.handled = none
  frames : X.A.frames = some X.stack
  stk : X.stack = X.outer ∨ (X.stack = X.env :: X.outer ∧ X.env.frame = some X.env.locals)
  exf : ∀ b ∈ X.ex, b ≠ X.env.locals ∧ ∀ x c, X.env.cells.lookup x = some c → c ≠ b
  bs : ∀ b o, X.base.get? b = some o → X.s₀.heap.get? b = some o ∧ X.H₀ b = none
  bsz : X.base.objs.size ≤ X.s₀.heap.objs.size
  noex : ∀ b o, X.base.get? b = some o → b ∉ X.ex
  exfs : ∀ b ∈ X.ex, b ∉ X.fs
  funs : X.s₀.heap.FunFrames X.base X.outer
  frf : ∀ b ∈ X.fs, X.H₀ b = none

structure Inv (X : Cx) (pins : List (Addr × Obj)) (σ : List (Option V)) (H : Hp) (s : Shared) : Prop where
  ok : X.Ok
  os : s.os = X.s₀.os
  bare : AllBare s.gens
  base : Un X.fs X.ex X.H₀ H X.s₀.heap s.heap
  loc : ∃ m, s.heap.Ns X.env.locals m ∧ ∀ (i : Nat) (x : Str) (v : V), X.N[i]? = some x → σ[i]? = some (some v) → Vis X.env.scope x → ∃ u, RelV v u ∧ Look X.env s.heap m x u
  cell : ∀ x c, X.env.cells.lookup x = some c → ∃ v, s.heap.IsCell c v
  free : H X.env.locals = none
  freeC : ∀ x c, X.env.cells.lookup x = some c → H c = none
  pin : ∀ p ∈ X.pn ++ pins, s.heap.get? p.1 = some p.2 ∧ H p.1 = none ∧ p.1 ≠ X.env.locals ∧ p.1 ∉ X.fs ∧ ∀ v, p.2.data ≠ .cell v
  hok : HOk X.prog X.w H s.heap
  len : σ.length = X.N.length

section
variable {X : Cx} {pins : List (Addr × Obj)} {σ : List (Option V)} {H H' : Hp} {s : Shared} {h' : Heap}

theorem Cx.Ok.nofr (ok : X.Ok) {b : Addr} {o : Obj} (e : X.base.get? b = some o) : b ∉ X.fs := fun hb => by
  have := (ok.funs.mem hb).1
  rw [e] at this; cases this
theorem Inv.bs (I : Inv X pins σ H s) : ∀ b o, X.base.get? b = some o → s.heap.get? b = some o ∧ H b = none := fun b o e =>
  ⟨I.base.keep b o (I.ok.bs b o e).1 (I.ok.bs b o e).2 (I.ok.nofr e) (I.ok.noex b o e), I.base.free b o (I.ok.bs b o e).1 (I.ok.bs b o e).2 (I.ok.noex b o e)⟩
theorem Inv.bk (I : Inv X pins σ H s) : ∀ b o, X.base.get? b = some o → s.heap.get? b = some o := fun b o e => (I.bs b o e).1
theorem Inv.mod (I : Inv X pins σ H s) : Mod X.K X.mg X.base := I.ok.mod
theorem Inv.kIn (I : Inv X pins σ H s) : X.K.In s.heap := I.ok.mod.kin.keeps I.bk
theorem Inv.lt (I : Inv X pins σ H s) : X.env.locals < s.heap.objs.size := let ⟨_, hn, _⟩ := I.loc; hn.lt
theorem Inv.sz (I : Inv X pins σ H s) : X.s₀.heap.objs.size ≤ s.heap.objs.size := Nat.le_trans I.ok.above (Nat.le_of_lt I.lt)
theorem Inv.nofs (I : Inv X pins σ H s) {a : Addr} (h : s.heap.objs.size ≤ a) : a ∉ X.fs := fun hb => by
  obtain ⟨_, o, ho, _⟩ := I.ok.funs.mem hb
  exact absurd (Nat.lt_of_lt_of_le (Heap.lt_size ho) (Nat.le_trans I.sz h)) (Nat.lt_irrefl _)
theorem Inv.cne (I : Inv X pins σ H s) : ∀ x c, X.env.cells.lookup x = some c → c ≠ X.env.locals := fun x c e z => by
  obtain ⟨v, o, ho, hd⟩ := I.cell x c e
  obtain ⟨m, ⟨o', es, ep, ho', hd', _⟩, _⟩ := I.loc
  rw [z, ho'] at ho; cases ho; rw [hd'] at hd; cases hd
theorem Inv.funs (I : Inv X pins σ H s) : s.heap.FunFrames X.base X.outer := by
  have all : ∀ (l : List Env), (∀ b ∈ frs l, b ∈ X.fs) → X.s₀.heap.FunFrames X.base l → s.heap.FunFrames X.base l := by
    intro l
    induction l with
    | nil => intro _ _; trivial
    | cons env r ih =>
      intro hs hl
      obtain ⟨hk, ⟨L, o, hf, hn, ho, hd⟩, hr⟩ := hl
      have hL : L ∈ X.fs := hs L (by unfold frs; rw [List.filterMap_cons, hf]; exact List.mem_cons_self)
      obtain ⟨sl, e⟩ := I.base.slot L o ho (I.ok.frf L hL) hL fun z => I.ok.exfs L z hL
      exact ⟨hk, ⟨L, _, hf, hn, e, hd⟩, ih (fun b hb => hs b (by unfold frs; rw [List.filterMap_cons, hf]; exact List.mem_cons_of_mem _ hb)) hr⟩
  exact all X.outer (fun _ hb => hb) I.ok.funs

theorem Inv.stack (I : Inv X pins σ H s) : s.heap.FunFrames X.base X.stack := by
  rcases I.ok.stk with e | ⟨e, hf⟩
  · rw [e]; exact I.funs
  · rw [e]
    obtain ⟨m, hn, _⟩ := I.loc
    refine .cons (by rw [I.ok.kind]; decide) hf hn ?_ I.funs
    exact Heap.get?_none_of_le (Nat.le_trans I.ok.bsz I.ok.above)
theorem Inv.stkSub (I : Inv X pins σ H s) : ∀ b ∈ frs X.stack, b ∈ X.env.locals :: X.fs := fun b hb => by
  rcases I.ok.stk with e | ⟨e, hf⟩
  · rw [e] at hb; exact List.mem_cons_of_mem _ hb
  · rw [e] at hb
    unfold frs at hb
    rw [List.filterMap_cons, hf] at hb
    exact hb
theorem Inv.stkFree (I : Inv X pins σ H s) : ∀ b ∈ frs X.stack, H b = none := fun b hb => by
  rcases List.mem_cons.mp (I.stkSub b hb) with e | hb
  · rw [e]; exact I.free
  · obtain ⟨_, o, ho, _⟩ := I.ok.funs.mem hb
    exact I.base.free b o ho (I.ok.frf b hb) fun z => I.ok.exfs b z hb

theorem Inv.step {g' : Array GenState} {t' : Nat} {d' : Drawn} {ch : List Addr} (I : Inv X pins σ H s)
    (hch : ∀ b ∈ ch, (b ∈ X.ex ∨ X.s₀.heap.objs.size ≤ b) ∧ b ≠ X.env.locals ∧ (∀ x c, X.env.cells.lookup x = some c → c ≠ b) ∧ ∀ p ∈ X.pn ++ pins, p.1 ≠ b)
    (keep : ∀ b o, b ≠ X.env.locals → b ∉ X.fs → b ∉ ch → s.heap.get? b = some o → H b = none → h'.get? b = some o)
    (slot : ∀ b o, b ≠ X.env.locals → b ∈ X.fs → b ∉ ch → s.heap.get? b = some o → H b = none → ∃ sl, h'.get? b = some { o with slots := sl }) (free : ∀ b o, b ∉ ch → s.heap.get? b = some o → H b = none → H' b = none)
    (there : ∀ b o, b ∉ ch → s.heap.get? b = some o → ∃ o', h'.get? b = some o')
    (tups : ∀ b xs, H b = some (.tup xs) → H' b = some (.tup xs)) (frzs : ∀ b o u, H b = some (.frz o u) → H' b = some (.frz o u)) (tbls : ∀ b ps, H b = some (.tbl ps) → ∃ more, H' b = some (.tbl (ps ++ more)))
    (ns : ∀ m, s.heap.Ns X.env.locals m → h'.Ns X.env.locals m) (hok : HOk X.prog X.w H' h') (hg : AllBare g') :
    Inv X pins σ H' { s with heap := h', gens := g', drawn := d', toks := t' } := by
  have neL : ∀ b o, X.s₀.heap.get? b = some o → b ≠ X.env.locals := fun b o e => Nat.ne_of_lt (Nat.lt_of_lt_of_le (Heap.lt_size e) I.ok.above)
  have neC : ∀ b o, X.s₀.heap.get? b = some o → b ∉ X.ex → b ∉ ch := fun b o e hx hb => by
    rcases (hch b hb).1 with z | z
    · exact hx z
    · exact absurd (Nat.lt_of_lt_of_le (Heap.lt_size e) z) (Nat.lt_irrefl _)
  have cellK : ∀ x c, X.env.cells.lookup x = some c → ∀ v, s.heap.IsCell c v → h'.IsCell c v := fun x c e v ⟨o, ho, hd⟩ => by
    have nch : c ∉ ch := fun z => (hch c z).2.2.1 x c e rfl
    by_cases hc : c ∈ X.fs
    · obtain ⟨sl, q⟩ := slot c o (I.cne x c e) hc nch ho (I.freeC x c e)
      exact ⟨_, q, hd⟩
    · exact ⟨o, keep c o (I.cne x c e) hc nch ho (I.freeC x c e), hd⟩
  refine ⟨I.ok, I.os, hg, ⟨fun b o e n hb hx => ?_, fun b o e n hb hx => ?_, fun b o e n hx => ?_, fun b o e hx => ?_, fun b xs e => tups b xs (I.base.tups b xs e), fun b o xs e => frzs b o xs (I.base.frzs b o xs e), fun b ps e => ?_⟩, ?_, fun x c e => ?_, ?_, fun x c e => ?_, fun p hp => ?_, hok, I.len⟩
  · exact keep b o (neL b o e) hb (neC b o e hx) (I.base.keep b o e n hb hx) (I.base.free b o e n hx)
  · obtain ⟨sl, e1⟩ := I.base.slot b o e n hb hx
    obtain ⟨sl', e2⟩ := slot b _ (neL b o e) hb (neC b o e hx) e1 (I.base.free b o e n hx)
    exact ⟨sl', e2⟩
  · obtain ⟨o', e1⟩ := I.base.there b o e hx
    exact free b o' (neC b o e hx) e1 (I.base.free b o e n hx)
  · obtain ⟨o', e1⟩ := I.base.there b o e hx
    exact there b o' (neC b o e hx) e1
  · obtain ⟨m1, e1⟩ := I.base.tbls b ps e
    obtain ⟨m2, e2⟩ := tbls b _ e1
    exact ⟨m1 ++ m2, by rw [e2, Array.append_assoc]⟩
  · obtain ⟨m, hn, hl⟩ := I.loc
    refine ⟨m, ns m hn, fun i x v e1 e2 e3 => ?_⟩
    obtain ⟨u, r, l⟩ := hl i x v e1 e2 e3
    refine ⟨u, r, ?_⟩
    rcases l with l | ⟨k, c, e, z⟩
    · exact .inl l
    · exact .inr ⟨k, c, e, cellK x c e _ z⟩
  · obtain ⟨v, z⟩ := I.cell x c e
    exact ⟨v, cellK x c e v z⟩
  · obtain ⟨m, ⟨o, _, _, ho, _⟩, _⟩ := I.loc
    exact free _ o (fun z => (hch _ z).2.1 rfl) ho I.free
  · obtain ⟨v, o, ho, hd⟩ := I.cell x c e
    exact free c o (fun z => (hch c z).2.2.1 x c e rfl) ho (I.freeC x c e)
  · obtain ⟨e, n, ne, nf, d⟩ := I.pin p hp
    have nch : p.1 ∉ ch := fun z => (hch p.1 z).2.2.2 p hp rfl
    exact ⟨keep p.1 p.2 ne nf nch e n, free p.1 p.2 nch e n, ne, nf, d⟩
theorem Inv.un {t' : Nat} (I : Inv X pins σ H s) (u : Un X.fs [] H H' s.heap h') (hok : HOk X.prog X.w H' h') : Inv X pins σ H' { s with heap := h', toks := t' } := by
  obtain ⟨m, ⟨o, es, ep, ho, r⟩, _⟩ := id I.loc
  obtain ⟨sl, hL⟩ := u.any ho I.free (by simp)
  exact I.step (g' := s.gens) (d' := s.drawn) (ch := []) (fun _ z => nomatch z) (fun b o _ hb _ e n => u.keep b o e n hb (by simp)) (fun b o _ hb _ e n => u.slot b o e n hb (by simp)) (fun b o _ e n => u.free b o e n (by simp)) (fun b o _ e => u.there b o e (by simp)) u.tups u.frzs u.tbls (fun m' hm => by
    obtain ⟨o', es', ep', ho', r'⟩ := hm
    rw [ho] at ho'; cases ho'
    exact ⟨_, es', ep', hL, r'⟩) hok I.bare
theorem Inv.call {g' : Array GenState} {t' : Nat} {d' : Drawn} {ch : List Addr} (I : Inv X pins σ H s) (u : Un (frs X.stack) ch H H' s.heap h') (hok : HOk X.prog X.w H' h') (hg : AllBare g')
    (hch : ∀ b ∈ ch, (b ∈ X.ex ∨ X.s₀.heap.objs.size ≤ b) ∧ b ≠ X.env.locals ∧ (∀ x c, X.env.cells.lookup x = some c → c ≠ b) ∧ ∀ p ∈ X.pn ++ pins, p.1 ≠ b) :
    Inv X pins σ H' { s with heap := h', gens := g', drawn := d', toks := t' } := by
  obtain ⟨m, ⟨o, es, ep, ho, r⟩, _⟩ := id I.loc
  obtain ⟨sl, hL⟩ := u.any ho I.free fun z => (hch _ z).2.1 rfl
  exact I.step (ch := ch) hch (fun b o hL hb hc e n => u.keep b o e n (fun z => (List.mem_cons.mp (I.stkSub b z)).elim hL hb) hc) (fun b o _ _ hc e n => u.any e n hc) (fun b o hc e n => u.free b o e n hc) (fun b o hc e => u.there b o e hc) u.tups u.frzs u.tbls (fun m' hm => by
    obtain ⟨o', es', ep', ho', r'⟩ := hm
    rw [ho] at ho'; cases ho'
    exact ⟨_, es', ep', hL, r'⟩) hok hg
theorem Inv.turned {t' : Nat} {it : Addr} (I : Inv X pins σ H s) (k : ∀ b o, b ≠ it → s.heap.get? b = some o → h'.get? b = some o) (hn : H it = none) (hL : it ≠ X.env.locals)
    (h1 : it ∈ X.ex ∨ X.s₀.heap.objs.size ≤ it) (h2 : ∀ x c, X.env.cells.lookup x = some c → c ≠ it) (h3 : ∀ p ∈ X.pn ++ pins, p.1 ≠ it) : Inv X pins σ H { s with heap := h', toks := t' } := by
  have nit : ∀ b u, H b = some u → b ≠ it := fun b u e z => by rw [z, hn] at e; cases e
  refine I.step (g' := s.gens) (d' := s.drawn) (ch := [it]) (fun b hb => ?_) (fun b o _ _ hc e _ => k b o (fun z => hc (by simp [z])) e) (fun b o _ _ hc e _ => ⟨o.slots, k b o (fun z => hc (by simp [z])) e⟩) (fun _ _ _ _ n => n)
    (fun b o hc e => ⟨o, k b o (fun z => hc (by simp [z])) e⟩) (fun _ _ e => e) (fun _ _ _ e => e) (fun b ps e => ⟨#[], by rw [e]; simp⟩) (fun m hm => ?_) (fun b u e => ?_) I.bare
  · have e : b = it := by simpa using hb
    subst e
    exact ⟨h1, hL, h2, h3⟩
  · obtain ⟨o, es, ep, ho, r⟩ := hm
    exact ⟨o, es, ep, k _ o (Ne.symm hL) ho, r⟩
  · refine (I.hok b u e).stay (fun c v hc q => k c v ?_ q) (fun _ q => q) fun _ _ q => q
    rcases hc with z | z
    · rw [z]; exact nit b u e
    · exact nit c _ z
theorem Inv.tok (I : Inv X pins σ H s) (t : Nat) : Inv X pins σ H { s with toks := t } := I.un (h' := s.heap) (t' := t) Un.refl I.hok
theorem Inv.kept {t' : Nat} (I : Inv X pins σ H s) (k : ∀ b u, s.heap.get? b = some u → h'.get? b = some u) : Inv X pins σ H { s with heap := h', toks := t' } := I.un (Un.kept k) (I.hok.kept k)
theorem Inv.laid {a : Addr} {o : HO} {t' : Nat} (I : Inv X pins σ H s) (k : ∀ b u, s.heap.get? b = some u → h'.get? b = some u) (hp : s.heap.objs.size ≤ a) (new : ObjOk X.prog X.w (upd H a o) h' a o) :
    Inv X pins σ (upd H a o) { s with heap := h', toks := t' } := I.un (Un.laid k hp (I.hok.fresh hp)) (I.hok.laid k hp new)
theorem Inv.write {x e : Addr} {o : HO} {t' : Nat} (I : Inv X pins σ H s) (mu : Mut (H x)) (he : e = x ∨ H e = some (.own x)) (k : ∀ b u, b ≠ e → s.heap.get? b = some u → h'.get? b = some u) (heo : ∃ u, h'.get? e = some u)
    (new : ObjOk X.prog X.w (upd H x o) h' x o) : Inv X pins σ (upd H x o) { s with heap := h', toks := t' } := I.un (Un.write mu he k heo) (I.hok.write mu he k heo new)
theorem Inv.pins_of {pins' : List (Addr × Obj)} (I : Inv X pins σ H s) (h : ∀ p ∈ pins', s.heap.get? p.1 = some p.2 ∧ H p.1 = none ∧ p.1 ≠ X.env.locals ∧ p.1 ∉ X.fs ∧ ∀ v, p.2.data ≠ .cell v) : Inv X pins' σ H s :=
  ⟨I.ok, I.os, I.bare, I.base, I.loc, I.cell, I.free, I.freeC, fun p hp => (List.mem_append.mp hp).elim (fun z => I.pin p (List.mem_append_left _ z)) (h p), I.hok, I.len⟩

theorem nodup_ix {N : List Str} (hN : N.Nodup) {i j : Nat} {x : Str} (a : N[i]? = some x) (b : N[j]? = some x) : i = j := by
  obtain ⟨h1, e1⟩ := List.getElem?_eq_some_iff.mp a
  obtain ⟨h2, e2⟩ := List.getElem?_eq_some_iff.mp b
  exact (List.getElem_inj hN).mp (e1.trans e2.symm)

theorem store_ok2 {M : Model} {A : Around} {E : Value → Shared → Prop} {i : Nat} {x : Str} {v : V} {u : Value} {Q : Unit → Shared → Prop} (I : Inv X pins σ H s) (hN : X.N.Nodup) (hi : X.N[i]? = some x) (hx : Loc X.env.scope x) (r : RelV v u)
    (h : ∀ s', Inv X pins (σ.set i (some v)) H s' → (∃ a, Heap.SameBut a s.heap s'.heap ∧ (a = X.env.locals ∨ X.env.cells.lookup x = some a)) → Q () s') (hf : X.fn x = true ∨ X.env.scope.names.lookup x = some .local := by first | exact .inl rfl | exact .inr rfl | assumption) : wpAny M A (storeName X.env x u) Q E s := by
  obtain ⟨m, hn, hl⟩ := id I.loc
  have hcls : (X.env.scope.kind == .class || (X.env.scope.kind == .module && X.env.locals != X.env.globals)) = false := by rw [I.ok.kind]; rfl
  have hiσ : i < σ.length := by rw [I.len]; exact (List.getElem?_eq_some_iff.mp hi).1
  have cne := I.cne
  have tracked : ∀ {a : Addr} {h' : Heap}, (∃ o, s.heap.get? a = some o ∧ H a = none) → Heap.SameBut a s.heap h' → HOk X.prog X.w H h' := fun {a h'} ha hs b ob e => by
    obtain ⟨_, _, hfree⟩ := ha
    refine (I.hok b ob e).stay (fun c w' hc q => (hs.2 c ?_).trans q) (fun _ q => q) fun _ _ q => q
    rintro rfl
    rcases hc with rfl | hc
    · rw [hfree] at e; cases e
    · rw [hfree] at hc; cases hc
  rcases hx with hk | hk
  · refine wpAny_storeName_local hk hn (fun h' hn' hs => ?_) hcls
    obtain ⟨oL, _, _, hoL, _⟩ := id hn
    refine h _ ⟨I.ok, I.os, I.bare, ⟨fun b o e n hb hx => ?_, fun b o e n hb hx => ?_, I.base.free, fun b o e hx => ?_, I.base.tups, I.base.frzs, I.base.tbls⟩, ⟨_, hn', fun j y v' e1 e2 e3 => ?_⟩, fun y c e => ?_, I.free, I.freeC, fun p hp => ?_, tracked ⟨oL, hoL, I.free⟩ hs, by simpa using I.len⟩ ⟨_, hs, .inl rfl⟩
    · exact (hs.2 b (Nat.ne_of_lt (Nat.lt_of_lt_of_le (Heap.lt_size e) I.ok.above))).trans (I.base.keep b o e n hb hx)
    · obtain ⟨sl, e1⟩ := I.base.slot b o e n hb hx
      exact ⟨sl, (hs.2 b (Nat.ne_of_lt (Nat.lt_of_lt_of_le (Heap.lt_size e) I.ok.above))).trans e1⟩
    · obtain ⟨o', e1⟩ := I.base.there b o e hx
      exact ⟨o', (hs.2 b (Nat.ne_of_lt (Nat.lt_of_lt_of_le (Heap.lt_size e) I.ok.above))).trans e1⟩
    · by_cases hj : j = i
      · subst hj
        rw [hi] at e1; cases e1
        rw [List.getElem?_set_self hiσ] at e2
        cases e2
        exact ⟨u, r, .inl ⟨hk, by simp⟩⟩
      · rw [List.getElem?_set_ne (Ne.symm hj)] at e2
        obtain ⟨u', r', q⟩ := hl j y v' e1 e2 e3
        refine ⟨u', r', ?_⟩
        rcases q with ⟨k, e⟩ | ⟨k, c, e, z⟩
        · refine .inl ⟨k, ?_⟩
          have : y ≠ x := fun e => hj (nodup_ix hN e1 (e ▸ hi))
          simp [this, e]
        · exact .inr ⟨k, c, e, z.sameBut hs (cne y c e)⟩
    · obtain ⟨w', z⟩ := I.cell y c e
      exact ⟨w', z.sameBut hs (cne y c e)⟩
    · obtain ⟨e, n, ne, nf, d⟩ := I.pin p hp
      exact ⟨(hs.2 p.1 ne).trans e, n, ne, nf, d⟩
  · have hfn : X.fn x = true := by
      rcases hf with z | z
      · exact z
      · rw [z] at hk; cases hk
    obtain ⟨c, hc⟩ := I.ok.has x (.inl hk)
    obtain ⟨w', z⟩ := I.cell x c hc
    refine wpAny_storeName_cell I.ok.kind hk hc z (fun h' hc' hs => ?_)
    obtain ⟨oc, hoc, hocd⟩ := id z
    refine h { s with heap := h' } ⟨I.ok, I.os, I.bare, ⟨fun b o e n hb hx => ?_, fun b o e n hb hx => ?_, I.base.free, fun b o e hx => ?_, I.base.tups, I.base.frzs, I.base.tbls⟩, ⟨m, hn.sameBut hs (Ne.symm (cne x c hc)), fun j y v' e1 e2 e3 => ?_⟩, fun y c' e => ?_, I.free, I.freeC, fun p hp => ?_, tracked ⟨oc, hoc, I.freeC x c hc⟩ hs, by simpa using I.len⟩ ⟨c, hs, .inr hc⟩
    · exact (hs.2 b (Nat.ne_of_lt (Nat.lt_of_lt_of_le (Heap.lt_size e) (I.ok.cab x c hfn hc)))).trans (I.base.keep b o e n hb hx)
    · obtain ⟨sl, e1⟩ := I.base.slot b o e n hb hx
      exact ⟨sl, (hs.2 b (Nat.ne_of_lt (Nat.lt_of_lt_of_le (Heap.lt_size e) (I.ok.cab x c hfn hc)))).trans e1⟩
    · obtain ⟨o', e1⟩ := I.base.there b o e hx
      exact ⟨o', (hs.2 b (Nat.ne_of_lt (Nat.lt_of_lt_of_le (Heap.lt_size e) (I.ok.cab x c hfn hc)))).trans e1⟩
    · by_cases hj : j = i
      · subst hj
        rw [hi] at e1; cases e1
        rw [List.getElem?_set_self hiσ] at e2
        cases e2
        exact ⟨u, r, .inr ⟨.inl hk, c, hc, hc'⟩⟩
      · rw [List.getElem?_set_ne (Ne.symm hj)] at e2
        obtain ⟨u', r', q⟩ := hl j y v' e1 e2 e3
        refine ⟨u', r', ?_⟩
        rcases q with q | ⟨k, c', e, z'⟩
        · exact .inl q
        · refine .inr ⟨k, c', e, z'.sameBut hs ?_⟩
          rintro rfl
          exact hj (nodup_ix hN e1 (I.ok.inj _ _ _ e hc ▸ hi))
    · by_cases hcc : c' = c
      · subst hcc; exact ⟨_, hc'⟩
      · obtain ⟨w2, z2⟩ := I.cell y c' e
        exact ⟨w2, z2.sameBut hs hcc⟩
    · obtain ⟨e, n, ne, nf, d⟩ := I.pin p hp
      refine ⟨(hs.2 p.1 ?_).trans e, n, ne, nf, d⟩
      intro q
      rw [q, hoc] at e
      have q' : oc = p.2 := Option.some.inj e
      exact d w' (by rw [← q']; exact hocd)
theorem store_ok {M : Model} {A : Around} {E : Value → Shared → Prop} {i : Nat} {x : Str} {v : V} {u : Value} {Q : Unit → Shared → Prop} (I : Inv X pins σ H s) (hN : X.N.Nodup) (hi : X.N[i]? = some x) (hx : Loc X.env.scope x) (r : RelV v u)
    (h : ∀ s', Inv X pins (σ.set i (some v)) H s' → Q () s') (hf : X.fn x = true ∨ X.env.scope.names.lookup x = some .local := by first | exact .inl rfl | exact .inr rfl | assumption) : wpAny M A (storeName X.env x u) Q E s :=
  store_ok2 I hN hi hx r (fun s' I' _ => h s' I') hf
theorem Inv.call' {s' : Shared} {ch : List Addr} (I : Inv X pins σ H s) (ho : s'.os = s.os) (u : Un (frs X.stack) ch H H' s.heap s'.heap) (hok : HOk X.prog X.w H' s'.heap) (hg : AllBare s'.gens)
    (hch : ∀ b ∈ ch, (b ∈ X.ex ∨ X.s₀.heap.objs.size ≤ b) ∧ b ≠ X.env.locals ∧ (∀ x c, X.env.cells.lookup x = some c → c ≠ b) ∧ ∀ p ∈ X.pn ++ pins, p.1 ≠ b) : Inv X pins σ H' s' := by
  obtain ⟨h', g', d', t', o'⟩ := s'
  have e : o' = s.os := ho
  subst e
  exact I.call (g' := g') (t' := t') (d' := d') u hok hg hch
end

/-! ### the judgements -/
abbrev XK := Value → Option Addr → Hp → Prop
abbrev St := List (Option V)
abbrev VK := V → Hp → Prop
abbrev TE := St → Hp → VK → Prop
abbrev TT := St → Hp → (Bool → Hp → Prop) → Prop
abbrev TA := St → Hp → (List V → Hp → Prop) → Prop
structure Ends where
  nx : St → Hp → Prop
  rt : VK
  bk : St → Hp → Prop := fun _ _ => False
  ct : St → Hp → Prop := fun _ _ => False
abbrev TS := Ends → St → Hp → Prop

def EP (X : Cx) (pins : List (Addr × Obj)) (σ : St) (Q : VK) (u : Value) (s' : Shared) : Prop := ∃ v H', Inv X pins σ H' s' ∧ RelV v u ∧ Q v H'
def TP (X : Cx) (pins : List (Addr × Obj)) (σ : St) (Q : Bool → Hp → Prop) (b : Bool) (s' : Shared) : Prop := ∃ H', Inv X pins σ H' s' ∧ Q b H'
def AP (X : Cx) (pins : List (Addr × Obj)) (σ : St) (Q : List V → Hp → Prop) (us : List Value) (s' : Shared) : Prop := ∃ vs H', Inv X pins σ H' s' ∧ Vals vs us ∧ Q vs H'
def SP (X : Cx) (pins : List (Addr × Obj)) (D : Ends) (f : Flow) (s' : Shared) : Prop :=
  match f with
  | .next => ∃ σ' H', Inv X pins σ' H' s' ∧ D.nx σ' H'
  | .brk => ∃ σ' H', Inv X pins σ' H' s' ∧ D.bk σ' H'
  | .cont => ∃ σ' H', Inv X pins σ' H' s' ∧ D.ct σ' H'
  | .ret u => ∃ v σ' H', Inv X pins σ' H' s' ∧ RelV v u ∧ D.rt v H'

def PE (X : Cx) (e : Expr) (t : TE) : Prop :=
  ∀ (pins : List (Addr × Obj)) (s : Shared) (σ : St) (H : Hp) (Q : VK), Inv X pins σ H s → t σ H Q → wpAny (model X.prog X.w) X.A (eval e X.env) (EP X pins σ Q) X.xe s
def PT (X : Cx) (e : Expr) (t : TT) : Prop :=
  ∀ (pins : List (Addr × Obj)) (s : Shared) (σ : St) (H : Hp) (Q : Bool → Hp → Prop), Inv X pins σ H s → t σ H Q → wpAny (model X.prog X.w) X.A (isTrue e X.env (eval e X.env)) (TP X pins σ Q) X.xe s
def PW (X : Cx) (e : Expr) (t : TT) : Prop :=
  ∀ (whole : Sem Value) (pins : List (Addr × Obj)) (s : Shared) (σ : St) (H : Hp) (Q : Bool → Hp → Prop), Inv X pins σ H s → t σ H Q → wpAny (model X.prog X.w) X.A (isTrue e X.env whole) (TP X pins σ Q) X.xe s
theorem PW.pt {X : Cx} {e : Expr} {t : TT} (h : PW X e t) : PT X e t := h _
def PA (X : Cx) (es : List Expr) (t : TA) : Prop :=
  ∀ (pos : Pos) (pins : List (Addr × Obj)) (s : Shared) (σ : St) (H : Hp) (Q : List V → Hp → Prop), Inv X pins σ H s → t σ H Q → wpAny (model X.prog X.w) X.A (spliced (backTo pos (starEach es X.env))) (AP X pins σ Q) X.xe s
def PS (X : Cx) (st : Stmt) (t : TS) : Prop :=
  ∀ (pins : List (Addr × Obj)) (s : Shared) (σ : St) (H : Hp) (D : Ends), Inv X pins σ H s → t D σ H → wpAny (model X.prog X.w) X.A (exec st X.env) (SP X pins D) X.xe s
def PSs (X : Cx) (st : List Stmt) (t : TS) : Prop :=
  ∀ (pins : List (Addr × Obj)) (s : Shared) (σ : St) (H : Hp) (D : Ends), Inv X pins σ H s → t D σ H → wpAny (model X.prog X.w) X.A (execs st X.env) (SP X pins D) X.xe s
theorem thn {α : Type} {t : Sem α} {Q Q' : α → Shared → Prop} {M : Model} {A : Around} {E : Value → Shared → Prop} {s : Shared} (h : wpAny M A t Q E s) (hQ : ∀ a s, Q a s → Q' a s) : wpAny M A t Q' E s := wpAny_mono h hQ fun _ _ x => x
end L2

namespace L2
open PySem PySem.Spec PyProof.Rows
section
variable {X : Cx}

/-! ### names and constants -/
def tVar (i : Nat) : TE := fun σ H Q => ∃ v, σ[i]? = some (some v) ∧ Q v H
def tC (v : V) : TE := fun _ H Q => Q v H
theorem pe_var {i : Nat} {x : Str} {pos : Pos} (hN : X.N[i]? = some x) (hv : Vis X.env.scope x) (hd : (x == ("__debug__" : Str)) = false := by decide) (hcd : (x == ("__classdict__" : Str)) = false := by decide) : PE X (.Name x pos) (tVar i) := by
  intro pins s σ H Q I h
  obtain ⟨v, e, h⟩ := h
  obtain ⟨m, hn, hl⟩ := I.loc
  obtain ⟨u, r, l⟩ := hl i x v hN e hv
  have fin : EP X pins σ Q u s := ⟨v, H, I, r, h⟩
  rcases l with ⟨hk, hm⟩ | ⟨hk, c, hc, hcell⟩
  · exact wpAny_Name (wpAny_loadName_local I.ok.kind hk hn hm fin) hd
  · rcases hk with hk | hk
    · exact wpAny_Name (wpAny_loadName_cell I.ok.kind hk hc hcell fin) hd
    · exact wpAny_Name (wpAny_loadName_free I.ok.kind hk hc hcell fin hcd) hd
theorem pe_int {i j pos} : PE X (.Constant (.int i) j pos) (tC (.int i)) := fun _ _ _ H _ I h => wpAny_Constant_int ⟨.int i, H, I.tok _, ⟨_, rfl⟩, h⟩
theorem pe_bl {b j pos} : PE X (.Constant (.bool b) j pos) (tC (.bl b)) := fun _ _ _ H _ I h => Constant_bool ⟨.bl b, H, I, rfl, h⟩
theorem pe_non {j pos} : PE X (.Constant .none j pos) (tC .non) := fun _ _ _ H _ I h => Constant_none ⟨.non, H, I, rfl, h⟩
theorem pe_str {x j pos} : PE X (.Constant (.str x) j pos) (tC (.str x)) := fun _ _ _ H _ I h => Calls.Constant_str ⟨.str x, H, I.tok _, ⟨_, rfl⟩, h⟩

def Gl (X : Cx) (x : Str) : Prop := X.env.kindOf x = some .globalImplicit
theorem ld_glob {E : Value → Shared → Prop} {pins : List (Addr × Obj)} {s : Shared} {σ : St} {H : Hp} {x : Str} {u : Value} {pos : Pos} {Q : Value → Shared → Prop} (I : Inv X pins σ H s) (hg : Gl X x) (hm : X.mg x = some u) (h : Q u s)
    (hd : (x == ("__debug__" : Str)) = false := by decide) : wpAny (model X.prog X.w) X.A (eval (.Name x pos) X.env) Q E s :=
  Calls.Name_function_global I.ok.kind hg (Calls.loadGlobal_global (by rw [I.ok.glob]; exact I.mod.glob.keeps I.bk) hm h) hd
theorem ld_blt {E : Value → Shared → Prop} {pins : List (Addr × Obj)} {s : Shared} {σ : St} {H : Hp} {x : Str} {u : Value} {pos : Pos} {Q : Value → Shared → Prop} (I : Inv X pins σ H s) (hg : Gl X x) (hm : X.mg x = none) (hv : bootBuiltins x = some u) (h : Q u s)
    (hn : x ≠ "__name__" := by decide) (hd : (x == ("__debug__" : Str)) = false := by decide) : wpAny (model X.prog X.w) X.A (eval (.Name x pos) X.env) Q E s := by
  obtain ⟨mb, h1, h2⟩ := I.mod.blt
  exact Calls.Name_function_global I.ok.kind hg (Calls.loadGlobal_builtin (by rw [I.ok.glob]; exact I.mod.glob.keeps I.bk) hm (by rw [I.ok.blt]; exact h1.keeps I.bk) ((h2 x hn).trans hv) h) hd
theorem pe_glob {x : Str} {v : V} {u : Value} {pos : Pos} (hg : Gl X x) (hm : X.mg x = some u) (r : RelV v u) (hd : (x == ("__debug__" : Str)) = false := by decide) : PE X (.Name x pos) (tC v) :=
  fun _ _ _ H _ I h => ld_glob I hg hm ⟨v, H, I, r, h⟩ hd
theorem pe_bltn {x : Str} {v : V} {u : Value} {pos : Pos} (hg : Gl X x) (hm : X.mg x = none) (hv : bootBuiltins x = some u) (r : RelV v u) (hn : x ≠ "__name__" := by decide) (hd : (x == ("__debug__" : Str)) = false := by decide) : PE X (.Name x pos) (tC v) :=
  fun _ _ _ H _ I h => ld_blt I hg hm hv ⟨v, H, I, r, h⟩ hn hd

/-! ### arithmetic -/
variable {a b : Expr} {ta tb : TE} {pos : Pos}
/-! ### comparisons -/
def PC (X : Cx) (op : CmpOp) (a b : Expr) (t : TE) : Prop :=
  ∀ (pins : List (Addr × Obj)) (s : Shared) (σ : St) (H : Hp) (Q : VK), Inv X pins σ H s → t σ H Q →
    wpAny (model X.prog X.w) X.A (eval a X.env) (fun v s₁ => wpAny (model X.prog X.w) X.A (eval b X.env) (fun u s₂ => wpAny (model X.prog X.w) X.A (compareOp op v u) (EP X pins σ Q) X.xe s₂) X.xe s₁) X.xe s
def tB (t : TE) : TT := fun σ H Q => t σ H fun x H1 => ∃ c, x = .bl c ∧ Q c H1
theorem pt_cmp {op : CmpOp} {t : TE} (h : PC X op a b t) (h1 : behindInMarks op b = false := by first | exact nobehind _ (by decide) (by decide) | rfl) : PT X (.Compare a [op] [b] pos) (tB t) := by
  intro pins s σ H Q I hw
  refine wpAny_isTrue_Compare1 (thn (h pins s σ H _ I hw) fun v s1 h1 => thn h1 fun u s2 h2 => thn h2 fun c s3 ⟨x, H1, I1, r1, q1⟩ => ?_) h1
  obtain ⟨d, rfl, q⟩ := q1
  cases r1
  exact wpAny_truthy_bool ⟨H1, I1, q⟩
theorem pt_val {e : Expr} {t : TE} (h : PE X e t) (he : ∀ whole, isTrue e X.env whole = (do let v ← whole; standAt e.pos; holding [v] (truthy v)) := by intro _; rfl) : PT X e (tB t) := by
  intro pins s σ H Q I hw
  refine isTrue_plain (thn (h pins s σ H _ I hw) fun v s1 ⟨x, H1, I1, r1, q1⟩ => ?_) (he _)
  obtain ⟨d, rfl, q⟩ := q1
  cases r1
  exact wpAny_truthy_bool ⟨H1, I1, q⟩

/-! ### and, or, not -/
variable {tA tB' : TT} {rest : List Expr}
def tAnd (t u : TT) : TT := fun σ H Q => t σ H fun c H1 => if c = true then u σ H1 Q else Q false H1
def tOr (t u : TT) : TT := fun σ H Q => t σ H fun c H1 => if c = true then Q true H1 else u σ H1 Q
def tNot (t : TT) : TT := fun σ H Q => t σ H fun c H1 => Q (!c) H1
theorem pw_and1 (ha : PT X a tA) : PW X (.BoolOp .And [a] pos) tA := by
  intro wh pins s σ H Q I h
  refine isTrue_and (thn (ha pins s σ H Q I h) fun c s1 e => ?_)
  cases c with
  | true => exact isTrue_and_nil e
  | false => exact e
theorem pw_or1 (ha : PT X a tA) : PW X (.BoolOp .Or [a] pos) tA := by
  intro wh pins s σ H Q I h
  refine isTrue_or (thn (ha pins s σ H Q I h) fun c s1 e => ?_)
  cases c with
  | false => exact isTrue_or_nil e
  | true => exact e
theorem pw_and (ha : PT X a tA) (hb : PW X (.BoolOp .And (b :: rest) pos) tB') : PW X (.BoolOp .And (a :: b :: rest) pos) (tAnd tA tB') := by
  intro wh pins s σ H Q I h
  refine isTrue_and (thn (ha pins s σ H _ I h) fun c s1 ⟨H1, I1, q1⟩ => ?_)
  cases c with
  | true => exact hb wh pins s1 σ H1 Q I1 q1
  | false => exact ⟨H1, I1, q1⟩
theorem pw_or (ha : PT X a tA) (hb : PW X (.BoolOp .Or (b :: rest) pos) tB') : PW X (.BoolOp .Or (a :: b :: rest) pos) (tOr tA tB') := by
  intro wh pins s σ H Q I h
  refine isTrue_or (thn (ha pins s σ H _ I h) fun c s1 ⟨H1, I1, q1⟩ => ?_)
  cases c with
  | true => exact ⟨H1, I1, q1⟩
  | false => exact hb wh pins s1 σ H1 Q I1 q1
theorem pt_not (ha : PT X a tA) : PT X (.UnaryOp .Not a pos) (tNot tA) := by
  intro pins s σ H Q I h
  exact isTrue_not (ha pins s σ H (fun c H1 => Q (!c) H1) I h)
def tAndV (ta tb : TE) : TE := fun σ H Q => ta σ H fun x H1 => ∃ c, x = .bl c ∧ if c = true then tb σ H1 Q else Q (.bl false) H1
def tNotV (ta : TE) : TE := fun σ H Q => ta σ H fun x H1 => ∃ c, x = .bl c ∧ Q (.bl (!c)) H1
theorem pe_one {op} {t : TE} (h : PE X a t) : PE X (.BoolOp op [a] pos) t := fun pins s σ H Q I hw => BoolOp_one (h pins s σ H Q I hw)
theorem pe_and (ha : PE X a ta) (hb : PE X (.BoolOp .And (b :: rest) pos) tb) : PE X (.BoolOp .And (a :: b :: rest) pos) (tAndV ta tb) := by
  intro pins s σ H Q I h
  refine BoolOp_and (thn (ha pins s σ H _ I h) fun v s1 ⟨x, H1, I1, r1, q1⟩ => ?_)
  obtain ⟨c, rfl, q1⟩ := q1
  cases r1
  refine wpAny_truthy_bool ?_
  cases c with
  | true => exact hb pins s1 σ H1 Q I1 q1
  | false => exact ⟨.bl false, H1, I1, rfl, q1⟩
theorem pe_not (ha : PE X a ta) : PE X (.UnaryOp .Not a pos) (tNotV ta) := by
  intro pins s σ H Q I h
  refine UnaryOp_ (thn (ha pins s σ H _ I h) fun v s1 ⟨x, H1, I1, r1, q1⟩ => ?_)
  obtain ⟨c, rfl, q1⟩ := q1
  cases r1
  exact not_of (wpAny_truthy_bool ⟨.bl (!c), H1, I1, rfl, q1⟩)
def tIf (t : TT) (ta tb : TE) : TE := fun σ H Q => t σ H fun c H1 => if c = true then ta σ H1 Q else tb σ H1 Q
theorem pe_ifExp {c : Expr} (hc : PT X c tA) (ha : PE X a ta) (hb : PE X b tb) : PE X (.IfExp c a b pos) (tIf tA ta tb) := by
  intro pins s σ H Q I h
  refine wpAny_IfExp (thn (hc pins s σ H _ I h) fun d s1 ⟨H1, I1, q1⟩ => ?_)
  cases d with
  | true => exact ha pins s1 σ H1 Q I1 q1
  | false => exact hb pins s1 σ H1 Q I1 q1
end
end L2

namespace L2
open PySem PySem.Spec PyProof.Rows

/-! ### a list, a tuple that is read: tracked, frozen, or an object of the module -/
def SqL (K : PySem.W.Frag) (H : Hp) (a : Addr) (xs : List V) : Prop :=
  Rd H a (.lst xs) ∨
    ∃ (o : Obj) (its : Array Value) (n : Nat), K.lookup a = some o ∧ o.cls = .type "list" ∧ o.dict = none ∧ o.data = .seq its n ∧ its.size ≤ sizeLine ∧ Vals xs its.toList
def SqT (K : PySem.W.Frag) (H : Hp) (a : Addr) (xs : List V) : Prop :=
  Rd H a (.tup xs) ∨
    ∃ (o : Obj) (its : Array Value) (n : Nat), K.lookup a = some o ∧ o.cls = .type "tuple" ∧ o.data = .seq its n ∧ its.size ≤ sizeLine ∧ Vals xs its.toList
def absV : Value → Option V
  | .none => some .non
  | .bool b => some (.bl b)
  | .int i _ => some (.int i)
  | .str x _ => some (.str x)
  | .bytes b _ => some (.byt b)
  | .float b _ => some (.flt b)
  | .ref a => some (.ref a)
  | .type n => some (.ty n)
  | _ => none
theorem RelV.abs {x : V} {u : Value} (r : RelV x u) : absV u = some x := by
  cases x with
  | non => cases r; rfl
  | bl _ => cases r; rfl
  | int _ => obtain ⟨t, rfl⟩ := r; rfl
  | str _ => obtain ⟨t, rfl⟩ := r; rfl
  | byt _ => obtain ⟨t, rfl⟩ := r; rfl
  | flt _ => obtain ⟨t, rfl⟩ := r; rfl
  | ref _ => cases r; rfl
  | ty _ => cases r; rfl
theorem RelV.inj {x y : V} {u : Value} (r : RelV x u) (q : RelV y u) : x = y := Option.some.inj (r.abs.symm.trans q.abs)
theorem Vals.inj : ∀ {xs ys : List V} {us : List Value}, Vals xs us → Vals ys us → xs = ys
  | _, _, _, .nil, .nil => rfl
  | _, _, _, .cons r t, .cons r' t' => by rw [r.inj r', Vals.inj t t']
section
variable {X : Cx} {pins : List (Addr × Obj)} {σ : St} {H : Hp} {s : Shared} {a : Addr} {xs ys : List V}
theorem SqL.of {K : PySem.W.Frag} (h : H a = some (.lst xs)) : SqL K H a xs := .inl (.inl h)
theorem SqT.of {K : PySem.W.Frag} (h : H a = some (.tup xs)) : SqT K H a xs := .inl (.inl h)
theorem Inv.list (I : Inv X pins σ H s) (h : SqL X.K H a xs) : ∃ its : List Value, Vals xs its ∧ PlainL s.heap a its.toArray ∧ xs.length ≤ sizeLine := by
  rcases h with h | ⟨o, its, n, hk, hc, hd, hs, hz, r⟩
  · obtain ⟨z, its, n, r, e⟩ := h.ok I.hok
    exact ⟨its, r, ⟨_, n, e, rfl, rfl, rfl⟩, z⟩
  · refine ⟨its.toList, r, ⟨o, n, I.kIn a o hk, hc, hd, by simpa using hs⟩, ?_⟩
    have e := r.length
    simp only [Array.length_toList] at e
    omega
theorem Inv.tuple (I : Inv X pins σ H s) (h : SqT X.K H a xs) : ∃ its : List Value, Vals xs its ∧ IsTup s.heap a its.toArray ∧ xs.length ≤ sizeLine := by
  rcases h with h | ⟨o, its, n, hk, hc, hs, hz, r⟩
  · obtain ⟨z, its, r, p⟩ := h.ok I.hok
    exact ⟨its, r, p, z⟩
  · refine ⟨its.toList, r, ⟨o, I.kIn a o hk, hc, n, by simpa using hs⟩, ?_⟩
    have e := r.length
    simp only [Array.length_toList] at e
    omega
theorem Inv.list_inj (I : Inv X pins σ H s) (h : SqL X.K H a xs) (h' : SqL X.K H a ys) : xs = ys := by
  obtain ⟨its, r, ⟨o, n, e, _, _, d⟩, _⟩ := I.list h
  obtain ⟨its', r', ⟨o', n', e', _, _, d'⟩, _⟩ := I.list h'
  rw [e] at e'; cases e'
  rw [d] at d'
  injection d' with d1 _
  have : its = its' := by simpa using congrArg Array.toList d1
  subst this
  exact r.inj r'
end

/-! ### another wish about exceptions -/
abbrev Cx.wish (X : Cx) (E : Value → Shared → Prop) : Cx := { X with xe := E }
abbrev Cx.nox (X : Cx) : Cx := X.wish fun _ _ => False
theorem Cx.Ok.wish {X : Cx} (ok : X.Ok) (E : Value → Shared → Prop) : (X.wish E).Ok :=
  ⟨ok.mod, ok.kind, ok.glob, ok.blt, ok.above, ok.inj, ok.has, ok.cab, ok.hd, ok.frames, ok.stk, ok.exf, ok.bs, ok.bsz, ok.noex, ok.exfs, ok.funs, ok.frf⟩
theorem Cx.Ok.unwish {X : Cx} {E : Value → Shared → Prop} (ok : (X.wish E).Ok) : X.Ok :=
  ⟨ok.mod, ok.kind, ok.glob, ok.blt, ok.above, ok.inj, ok.has, ok.cab, ok.hd, ok.frames, ok.stk, ok.exf, ok.bs, ok.bsz, ok.noex, ok.exfs, ok.funs, ok.frf⟩
section
variable {X : Cx} {pins : List (Addr × Obj)} {σ : St} {H : Hp} {s : Shared} {E : Value → Shared → Prop}
theorem Inv.wish (I : Inv X pins σ H s) (E : Value → Shared → Prop) : Inv (X.wish E) pins σ H s := ⟨I.ok.wish E, I.os, I.bare, I.base, I.loc, I.cell, I.free, I.freeC, I.pin, I.hok, I.len⟩
theorem Inv.unwish (I : Inv (X.wish E) pins σ H s) : Inv X pins σ H s := ⟨I.ok.unwish, I.os, I.bare, I.base, I.loc, I.cell, I.free, I.freeC, I.pin, I.hok, I.len⟩
theorem SP.unwish {D : Ends} {f : Flow} {s' : Shared} (h : SP (X.wish E) pins D f s') : SP X pins D f s' := by
  cases f with
  | next => obtain ⟨σ', H', I, q⟩ := h; exact ⟨σ', H', I.unwish, q⟩
  | brk => obtain ⟨σ', H', I, q⟩ := h; exact ⟨σ', H', I.unwish, q⟩
  | cont => obtain ⟨σ', H', I, q⟩ := h; exact ⟨σ', H', I.unwish, q⟩
  | ret u => obtain ⟨v, σ', H', I, r, q⟩ := h; exact ⟨v, σ', H', I.unwish, r, q⟩
theorem PSs.nox {st : List Stmt} {t : TS} (h : PSs X.nox st t) : PSs X st t := fun pins s σ H D I hw =>
  wpAny_mono (h pins s σ H D (I.wish _) hw) (fun _ _ q => q.unwish) fun _ _ z => False.elim z
end

/-! ### blocks and small statements -/
section
variable {X : Cx} {st : Stmt} {rest : List Stmt} {t u : TS} {e : Expr} {te : TE} {pos : Pos}
def tNext : TS := fun D σ H => D.nx σ H
def tSeq (t u : TS) : TS := fun D σ H => t { D with nx := u D } σ H
theorem pss_nil : PSs X [] tNext := fun _ _ σ H _ I h => wpAny_execs_nil ⟨σ, H, I, h⟩
theorem pss_cons (h1 : PS X st t) (h2 : PSs X rest u) : PSs X (st :: rest) (tSeq t u) := by
  intro pins s σ H D I h
  refine wpAny_execs_cons (thn (h1 pins s σ H { D with nx := u D } I h) fun f s1 q => ?_)
  cases f with
  | next =>
    obtain ⟨σ', H', I', q⟩ := q
    exact h2 pins s1 σ' H' D I' q
  | ret v => exact q
  | brk => exact q
  | cont => exact q
theorem pss_one (h1 : PS X st t) : PSs X [st] t := by
  intro pins s σ H D I h
  refine wpAny_execs_cons (thn (h1 pins s σ H D I h) fun f s1 q => ?_)
  cases f with
  | next => exact wpAny_execs_nil q
  | ret v => exact q
  | brk => exact q
  | cont => exact q
theorem Inv.quiet {pins : List (Addr × Obj)} {σ : St} {H : Hp} {s : Shared} (I : Inv X pins σ H s) : interactive X.env = false := by simp [interactive, I.ok.kind]
def tDrop (te : TE) : TS := fun D σ H => te σ H fun _ H1 => D.nx σ H1
theorem ps_expr (he : PE X e te) (hs : swapsWith e none pos.line X.env = pure false := by rfl) : PS X (.Expr e pos) (tDrop te) := by
  intro pins s σ H D I h
  exact wpAny_Expr_any (thn (he pins s σ H _ I h) fun v s1 ⟨x, H1, I1, r1, q1⟩ => ⟨σ, H1, I1, q1⟩) I.quiet hs
def tRet (te : TE) : TS := fun D σ H => te σ H D.rt
theorem ps_ret (he : PE X e te) : PS X (.Return (some e) pos) (tRet te) := by
  intro pins s σ H D I h
  exact wpAny_Return_some (thn (he pins s σ H _ I h) fun v s1 ⟨x, H1, I1, r1, q1⟩ => ⟨x, σ, H1, I1, r1, q1⟩)
def tIfS (c : TT) (t u : TS) : TS := fun D σ H => c σ H fun b H1 => if b = true then t D σ H1 else u D σ H1
theorem ps_if {c : Expr} {a b : List Stmt} {tc : TT} (hc : PT X c tc) (ha : PSs X a t) (hb : PSs X b u) : PS X (.If c a b pos) (tIfS tc t u) := by
  intro pins s σ H D I h
  refine wpAny_If (thn (hc pins s σ H _ I h) fun d s1 ⟨H1, I1, q1⟩ => ?_)
  cases d with
  | true => exact ha pins s1 σ H1 D I1 q1
  | false => exact hb pins s1 σ H1 D I1 q1
end

/-! ### targets -/
abbrev TG := V → St → Hp → (St → Hp → Prop) → Prop
def PG (X : Cx) (target : Expr) (t : TG) : Prop :=
  ∀ (pins : List (Addr × Obj)) (s : Shared) (σ : St) (H : Hp) (v : V) (u : Value) (Q : St → Hp → Prop), Inv X pins σ H s → RelV v u → t v σ H Q →
    wpAny (model X.prog X.w) X.A (assign target X.env u) (fun _ s' => ∃ σ' H', Inv X pins σ' H' s' ∧ Q σ' H') X.xe s
section
variable {X : Cx} {pos : Pos}
def gName (i : Nat) : TG := fun v σ H Q => Q (σ.set i (some v)) H
theorem pg_name {i : Nat} {x : Str} (hN : X.N.Nodup) (hi : X.N[i]? = some x) (hx : Loc X.env.scope x) (hf : X.fn x = true ∨ X.env.scope.names.lookup x = some .local := by first | exact .inl rfl | exact .inr rfl | assumption) : PG X (.Name x pos) (gName i) := by
  intro pins s σ H v u Q I r h
  exact wpAny_assign_Name (store_ok I hN hi hx r (fun s' I' => ⟨_, H, I', h⟩) hf)
def tAsg (te : TE) (g : TG) : TS := fun D σ H => te σ H fun x H1 => g x σ H1 D.nx
theorem ps_set {i : Nat} {x : Str} {e : Expr} {te : TE} {pos' : Pos} (hN : X.N.Nodup) (hi : X.N[i]? = some x) (hx : Loc X.env.scope x) (he : PE X e te) (hs : swapsWith e (some (.Name x pos')) pos.line X.env = pure false := by rfl) (hf : X.fn x = true ∨ X.env.scope.names.lookup x = some .local := by first | exact .inl rfl | exact .inr rfl | assumption) :
    PS X (.Assign [.Name x pos'] e pos) (tAsg te (gName i)) := by
  intro pins s σ H D I h
  refine wpAny_Assign_Name (thn (he pins s σ H _ I h) fun v s1 ⟨y, H1, I1, r1, q1⟩ => ?_) hs
  exact store_ok I1 hN hi hx r1 (fun s2 I2 => ⟨_, H1, I2, q1⟩) hf
end

/-! ### while -/
section
variable {X : Cx} {pos : Pos}
def tWhile (c : TT) (tb : TS) : TS := fun D σ H => ∃ W : Nat → St → Hp → Prop, (∃ m, W m σ H) ∧ ∀ m σ H, W m σ H →
  c σ H fun b H1 => if b = true then ∃ N : St → Hp → Prop, (∀ σ' H', N σ' H' → ∃ m', m' < m ∧ W m' σ' H') ∧ tb { D with nx := N, ct := N, bk := D.nx } σ H1 else D.nx σ H1
theorem ps_while {c : Expr} {body : List Stmt} {tc : TT} {tb : TS} (hp : PassesOwn (model X.prog X.w) X.A X.env X.xe) (hc : PT X c tc) (hb : PSs X body tb) : PS X (.While c body [] pos) (tWhile tc tb) := by
  intro pins s σ H D I h
  obtain ⟨W, ⟨m0, w0⟩, turn⟩ := h
  refine wpAny_While (codeAny_whileLoop (fun n s' => ∃ σ' H', Inv X pins σ' H' s' ∧ W n σ' H') ?_ m0 ⟨σ, H, I, w0⟩)
  rintro n s1 ⟨σ1, H1, I1, w1⟩
  refine wpAny_passesOwn hp (thn (hc pins s1 σ1 H1 _ I1 (turn n σ1 H1 w1)) fun b s2 ⟨H2, I2, q2⟩ => ?_)
  cases b with
  | true =>
    obtain ⟨N, hN, q2⟩ := q2
    rw [if_pos rfl]
    refine wpAny_passesOwn hp (thn (hb pins s2 σ1 H2 _ I2 q2) fun f s3 q3 => ?_)
    cases f with
    | next =>
      obtain ⟨σ3, H3, I3, n3⟩ := q3
      obtain ⟨m', hm, w3⟩ := hN σ3 H3 n3
      exact ⟨m', hm, σ3, H3, I3, w3⟩
    | cont =>
      obtain ⟨σ3, H3, I3, n3⟩ := q3
      obtain ⟨m', hm, w3⟩ := hN σ3 H3 n3
      exact ⟨m', hm, σ3, H3, I3, w3⟩
    | brk => exact q3
    | ret v => exact q3
  | false =>
    rw [if_neg Bool.false_ne_true]
    exact wpAny_execs_nil ⟨σ1, H2, I2, q2⟩
end

/-! ### what a loop or a comprehension walks -/
structure It where
  go : Nat → Hp → Prop
  yld : Nat → Hp → V → Hp → Prop
  stop : Nat → Hp → Prop
def FpOk (X : Cx) (pins : List (Addr × Obj)) (H : Hp) (b : Addr) : Prop :=
  H b = none ∧ b ≠ X.env.locals ∧ b ∉ X.fs ∧ (b ∈ X.ex ∨ X.s₀.heap.objs.size ≤ b) ∧ (∀ x c, X.env.cells.lookup x = some c → c ≠ b) ∧ ∀ p ∈ X.pn ++ pins, p.1 ≠ b
theorem Inv.fpOk {X : Cx} {pins : List (Addr × Obj)} {σ : St} {H H' : Hp} {s : Shared} {b : Addr} (I : Inv X pins σ H s) (hb : s.heap.objs.size ≤ b) (hn : H' b = none) : FpOk X pins H' b := by
  refine ⟨hn, Nat.ne_of_gt (Nat.lt_of_lt_of_le I.lt hb), I.nofs hb, .inr (Nat.le_trans I.sz hb), fun x c e z => ?_, fun p hp z => ?_⟩
  · obtain ⟨v, q⟩ := I.cell x c e
    exact absurd (Nat.lt_of_lt_of_le q.lt (by rw [z]; exact hb)) (Nat.lt_irrefl _)
  · exact absurd (Nat.lt_of_lt_of_le (Heap.lt_size (I.pin p hp).1) (by rw [z]; exact hb)) (Nat.lt_irrefl _)
structure Turn (P : Program) (w : World) (K : PySem.W.Frag) (tg : Expr) (J : It) (fp : List Addr) (it : Addr) (tn : Nat → Heap → Prop) : Prop where
  mem : it ∈ fp
  obj : ∀ i h, tn i h → ∀ b ∈ fp, ∃ o, h.get? b = some o ∧ ∀ v, o.data ≠ .cell v
  keep : ∀ i h h', tn i h → (∀ b ∈ fp, ∀ o, h.get? b = some o → h'.get? b = some o) → tn i h'
  item : ∀ (X : Cx), X.prog = P → X.w = w → X.K = K → X.calm = true → ∀ (i : Nat) (pins : List (Addr × Obj)) (s : Shared) (σ : St) (H : Hp) (E : Value → Shared → Prop), Inv X pins σ H s → (∀ b ∈ fp, FpOk X pins H b) → tn i s.heap → J.go i H →
    wpAny (model P w) X.A (pyNext (.ref it)) (fun r s1 => ∃ u, r = some u ∧
      wpAny (model P w) X.A (letOwnedTupleGo tg (.ref it) u) (fun _ s2 => ∃ x H', Inv X pins σ H' s2 ∧ RelV x u ∧ J.yld i H x H' ∧ tn (i + 1) s2.heap ∧ ∀ b ∈ fp, H' b = none) E s1) E s
  done : ∀ (X : Cx), X.prog = P → X.w = w → X.K = K → X.calm = true → ∀ (i : Nat) (pins : List (Addr × Obj)) (s : Shared) (σ : St) (H : Hp) (E : Value → Shared → Prop), Inv X pins σ H s → (∀ b ∈ fp, FpOk X pins H b) → tn i s.heap → J.stop i H →
    wpAny (model P w) X.A (pyNext (.ref it)) (fun r s1 => r = none ∧ Inv X pins σ H s1) E s
  self : ∀ (A : Around) (i : Nat) (s : Shared) (Q : Value → Shared → Prop) (E : Value → Shared → Prop), tn i s.heap → Q (.ref it) s → wpAny (model P w) A (pyIter (.ref it)) Q E s
abbrev TI := St → Hp → (It → Hp → Prop) → Prop
def PIE (X : Cx) (pins : List (Addr × Obj)) (σ : St) (tg : Expr) (R : It → Hp → Prop) (itv : Value) (s2 : Shared) : Prop :=
  ∃ (it : Addr) (fp : List Addr) (tn : Nat → Heap → Prop) (J : It) (H' : Hp), itv = .ref it ∧ Inv X pins σ H' s2 ∧ Turn X.prog X.w X.K tg J fp it tn ∧ tn 0 s2.heap ∧ (∀ b ∈ fp, FpOk X pins H' b) ∧ R J H'
def PI (X : Cx) (tg iter : Expr) (wi : TI) : Prop :=
  ∀ (pins : List (Addr × Obj)) (s : Shared) (σ : St) (H : Hp) (R : It → Hp → Prop), Inv X pins σ H s → wi σ H R →
    wpAny (model X.prog X.w) X.A (eval iter X.env) (fun v s1 => wpAny (model X.prog X.w) X.A (pyIter v) (PIE X pins σ tg R) X.xe s1) X.xe s

theorem go_of {M : Model} {A : Around} {E : Value → Shared → Prop} {s : Shared} {tg : Expr} {it : Addr} {u : Value} {o : Obj} {n : String} {vs : Array Value} {Q : Unit → Shared → Prop} (ho : s.heap.get? it = some o) (hc : o.cls = .type n) (hd : o.data = .fields vs)
    (hn : ["enumerate", "zip", "dict_itemiterator", "dict_reverseitemiterator", "odict_iterator", "itertools.zip_longest", "itertools.pairwise"].contains n = false) (hQ : Q () s) : wpAny M A (letOwnedTupleGo tg (.ref it) u) Q E s := by
  unfold letOwnedTupleGo
  cases tg <;> first
    | exact wpAny_pure hQ
    | (cases u <;> first
        | exact wpAny_pure hQ
        | (refine wpAny_bind (wpAny_load ho ?_)
           rw [hc, hd]
           show wpAny M A (if (["enumerate", "zip", "dict_itemiterator", "dict_reverseitemiterator", "odict_iterator", "itertools.zip_longest", "itertools.pairwise"].contains n && vs[0]? == some (rawInt _)) = true then _ else _) Q E s
           rw [if_neg (by intro h; rw [hn, Bool.false_and] at h; cases h)]
           exact wpAny_pure hQ))

def Itl (K : PySem.W.Frag) (a : Addr) : It :=
  ⟨fun i H => ∃ xs x, SqL K H a xs ∧ xs[i]? = some x, fun i H x H' => H' = H ∧ ∀ xs, SqL K H a xs → xs[i]? = some x, fun i H => ∃ xs, SqL K H a xs ∧ xs.length ≤ i⟩
def Itr (lo : Int) (n : Nat) : It := ⟨fun i _ => i < n, fun i H x H' => H' = H ∧ x = .int (lo + i), fun i _ => n ≤ i⟩
theorem turn_list {P : Program} {w : World} {K : PySem.W.Frag} {tg : Expr} (a it : Addr) : Turn P w K tg (Itl K a) [it] it (fun i h => h.IsListIter it a i) where
  mem := by simp
  obj := fun i h st b hb => by
    have e : b = it := by simpa using hb
    subst e
    obtain ⟨o, e, c, d⟩ := st
    exact ⟨o, e, fun v z => by rw [d] at z; cases z⟩
  keep := fun i h h' st k => st.at fun o e => k it (by simp) o e
  item := by
    intro X hP hw hK hc i pins s σ H E I hf st hg
    subst hP hw hK
    obtain ⟨xs, x, hq, hx⟩ := hg
    obtain ⟨its, rv, p, hz⟩ := I.list hq
    obtain ⟨u, hu, ru⟩ := rv.get hx
    obtain ⟨f0, f1, f2, f3, f4, f5⟩ := hf it (by simp)
    refine wpAny_pyNext_list_item st p.isList (x := u) (by simpa using hu) fun h' st' sb => ?_
    have I1 : Inv X pins σ H { s with heap := h' } := I.turned (t' := s.toks) (fun b o hb e => (sb.2 b hb).trans e) f0 f1 f3 f4 f5
    obtain ⟨o, e, c, d⟩ := id st'
    exact ⟨u, rfl, go_of (s := { s with heap := h' }) e c d (by decide) ⟨x, H, I1, ru, ⟨rfl, fun ys hy => by rw [I.list_inj hy hq]; exact hx⟩, st', fun b hb => (hf b hb).1⟩⟩
  done := by
    intro X hP hw hK hc i pins s σ H E I hf st hg
    subst hP hw hK
    obtain ⟨xs, hq, hx⟩ := hg
    obtain ⟨its, rv, p, hz⟩ := I.list hq
    obtain ⟨f0, f1, f2, f3, f4, f5⟩ := hf it (by simp)
    have hl := rv.length
    exact wpAny_pyNext_list_end (I.ok.hd hc) st p.isList (by simp; omega) fun h' eb => ⟨rfl, I.turned (t' := s.toks) (fun b o hb e => eb b o hb e) f0 f1 f3 f4 f5⟩
  self := fun _ _ _ _ _ st h => wpAny_pyIter_listiter st h
theorem turn_range {P : Program} {w : World} {K : PySem.W.Frag} {tg : Expr} (it : Addr) (lo : Int) (n : Nat) : Turn P w K tg (Itr lo n) [it] it (fun i h => IsRangeIter h it (lo + (i : Nat) * 1) ((n : Int) - (i : Nat)) 1) where
  mem := by simp
  obj := fun i h st b hb => by
    have e : b = it := by simpa using hb
    subst e
    exact ⟨_, st, fun v z => by
      have z' : Data.fields _ = Data.cell v := z
      cases z'⟩
  keep := fun i h h' st k => k it (by simp) _ st
  item := by
    intro X hP hw hK hc i pins s σ H E I hf st hg
    subst hP hw hK
    obtain ⟨f0, f1, f2, f3, f4, f5⟩ := hf it (by simp)
    have W := Walks.range (prog := X.prog) (w := X.w) (I.ok.hd hc) it lo 1 n
    refine W.item i s _ _ hg st fun v h' tk hv st' kk => ?_
    obtain ⟨t, rfl⟩ := hv
    have I1 : Inv X pins σ H { s with heap := h', toks := tk } := I.turned (fun b o hb e => kk b o (by simpa using hb) e) f0 f1 f3 f4 f5
    refine ⟨_, rfl, go_of (s := { s with heap := h', toks := tk }) (n := "range_iterator") st' rfl rfl (by decide) ⟨.int (lo + i), H, I1, ⟨t, ?_⟩, ⟨rfl, rfl⟩, st', fun b hb => (hf b hb).1⟩⟩
    rw [Int.mul_one]
  done := by
    intro X hP hw hK hc i pins s σ H E I hf st hg
    subst hP hw hK
    obtain ⟨f0, f1, f2, f3, f4, f5⟩ := hf it (by simp)
    exact wpAny_pyNext_range_end (I.ok.hd hc) st (by have : n ≤ i := hg; omega) fun h' eb => ⟨rfl, I.turned (t' := s.toks) (fun b o hb e => eb b o hb e) f0 f1 f3 f4 f5⟩
  self := fun _ _ _ _ _ st h => wpAny_pyIter_rangeiter st h
end L2

namespace L2
open PySem PySem.Spec PyProof.Rows
section
variable {X : Cx} {tg : Expr}
def iList (K : PySem.W.Frag) (tl : TE) : TI := fun σ H R => tl σ H fun x H1 => ∃ a, x = .ref a ∧ (∃ xs, SqL K H1 a xs) ∧ R (Itl K a) H1
theorem pi_list {l : Expr} {tl : TE} (hl : PE X l tl) : PI X tg l (iList X.K tl) := by
  intro pins s σ H R I h
  refine thn (hl pins s σ H _ I h) fun v s1 ⟨x, H1, I1, r1, q1⟩ => ?_
  obtain ⟨a, e, ⟨xs, hq⟩, q⟩ := q1
  subst e
  cases r1
  obtain ⟨its, rv, p, hz⟩ := I1.list hq
  refine wpAny_pyIter_list p.isList ?_
  refine ⟨s1.heap.objs.size, [s1.heap.objs.size], _, _, H1, rfl, I1.kept (t' := s1.toks) fun b o e => Heap.get?_push_of_some _ e, turn_list a _, ⟨_, Heap.get?_push_size _ rfl, rfl, rfl⟩, fun b hb => ?_, q⟩
  have e : b = s1.heap.objs.size := by simpa using hb
  subst e
  exact I1.fpOk (Nat.le_refl _) (I1.hok.fresh (Nat.le_refl _))
theorem range_it {pins : List (Addr × Obj)} {σ : St} {H : Hp} {s : Shared} {R : It → Hp → Prop} {E : Value → Shared → Prop} {lo hi : Int} {t u v : Tok} {tk : Nat} (I : Inv X pins σ H s) (h1 : -(2 ^ 62) ≤ lo) (h2 : lo < 2 ^ 62) (h3 : -(2 ^ 62) ≤ hi) (h4 : hi < 2 ^ 62)
    (q : R (Itr lo (hi - lo).toNat) H) : wpAny (model X.prog X.w) X.A (pyIter (.ref s.heap.objs.size)) (PIE X pins σ tg R) E { s with heap := s.heap.push { cls := .type "range", data := .fields #[.int lo t, .int hi u, .int 1 v] }, toks := tk } := by
  refine wpAny_pyIter_range (IsRange.new ..) (small_one h1 h2 h3 h4) ?_
  have I1 : Inv X pins σ H { s with heap := s.heap.push { cls := .type "range", data := .fields #[.int lo t, .int hi u, .int 1 v] }, toks := tk } := I.kept fun b o e => Heap.get?_push_of_some _ e
  refine ⟨(s.heap.push { cls := .type "range", data := .fields #[.int lo t, .int hi u, .int 1 v] }).objs.size, [(s.heap.push { cls := .type "range", data := .fields #[.int lo t, .int hi u, .int 1 v] }).objs.size], _, _, H, rfl,
    I1.kept (t' := tk) fun b o e => Heap.get?_push_of_some _ e, turn_range _ lo (hi - lo).toNat, ?_, fun b hb => ?_, q⟩
  · have e1 : lo + ((0 : Nat) : Int) * 1 = lo := by simp
    have e2 : (((hi - lo).toNat : Nat) : Int) - ((0 : Nat) : Int) = Builtin.Range.rangeSize lo hi 1 := by rw [rangeSize_one]; split <;> omega
    show IsRangeIter _ _ (lo + ((0 : Nat) : Int) * 1) ((((hi - lo).toNat : Nat) : Int) - ((0 : Nat) : Int)) 1
    rw [e1, e2]
    exact Heap.get?_push_size _ rfl
  · have e : b = (s.heap.push { cls := .type "range", data := .fields #[.int lo t, .int hi u, .int 1 v] }).objs.size := by simpa using hb
    subst e
    exact I1.fpOk (Nat.le_refl _) (I1.hok.fresh (Nat.le_refl _))
def iRng1 (ta : TA) : TI := fun σ H R => ta σ H fun vs H1 => ∃ j : Int, vs = [.int j] ∧ -(2 ^ 62) ≤ j ∧ j < 2 ^ 62 ∧ R (Itr 0 j.toNat) H1
def iRng2 (ta : TA) : TI := fun σ H R => ta σ H fun vs H1 => ∃ i j : Int, vs = [.int i, .int j] ∧ (-(2 ^ 62) ≤ i ∧ i < 2 ^ 62 ∧ -(2 ^ 62) ≤ j ∧ j < 2 ^ 62) ∧ R (Itr i (j - i).toNat) H1
theorem pi_range1 {a : Expr} {ta : TA} {p pos : Pos} (hg : Gl X "range") (hm : X.mg "range" = none) (ha : PA X [a] ta) (hs : starEach [a] X.env = [(false, eval a X.env)] := by rfl) : PI X tg (.Call (.Name "range" p) [a] [] pos) (iRng1 ta) := by
  intro pins s σ H R I h
  refine Call_ (ld_blt I hg hm boot_range (PyProof.Rows.callWith_type1 (thn (ha pos pins s σ H _ I h) fun us s1 ⟨vs, H1, I1, r1, q1⟩ => ?_) hs rfl))
  obtain ⟨j, e, q1, q2, q⟩ := q1
  subst e
  cases r1 with
  | cons r rr =>
    cases rr
    obtain ⟨t, rfl⟩ := r
    exact call_range_1 (range_it I1 (by omega) (by omega) q1 q2 (by simpa using q))
theorem pi_range2 {a b : Expr} {ta : TA} {p pos : Pos} (hg : Gl X "range") (hm : X.mg "range" = none) (ha : PA X [a, b] ta) (hs : starEach [a, b] X.env = [(false, eval a X.env), (false, eval b X.env)] := by rfl) (hs2 : starEach [b] X.env = [(false, eval b X.env)] := by rfl) :
    PI X tg (.Call (.Name "range" p) [a, b] [] pos) (iRng2 ta) := by
  intro pins s σ H R I h
  refine Call_ (ld_blt I hg hm boot_range (PyProof.Rows.callWith_type1 (thn (ha pos pins s σ H _ I h) fun us s1 ⟨vs, H1, I1, r1, q1⟩ => ?_) (by rw [hs, hs2]) (by rw [hs2]; rfl)))
  obtain ⟨i, j, e, ⟨q1, q2, q3, q4⟩, q⟩ := q1
  subst e
  cases r1 with
  | cons r rr =>
    cases rr with
    | cons r' rr =>
      cases rr
      obtain ⟨t, rfl⟩ := r
      obtain ⟨t', rfl⟩ := r'
      exact call_range_2 (range_it I1 q1 q2 q3 q4 q)

/-! ### for -/
def tFor (wi : TI) (g : TG) (tb : TS) : TS := fun D σ H => wi σ H fun J H1 => ∃ W : Nat → Nat → St → Hp → Prop, (∃ m, W 0 m σ H1) ∧ ∀ i m σ H, W i m σ H →
  (J.stop i H ∧ D.nx σ H) ∨ (J.go i H ∧ ∃ N : St → Hp → Prop, (∀ σ' H', N σ' H' → ∃ m', m' < m ∧ W (i + 1) m' σ' H') ∧ ∀ x H', J.yld i H x H' → g x σ H' fun σ2 H2 => tb { D with nx := N, ct := N, bk := D.nx } σ2 H2)
def pinsAt (fp : List Addr) (h : Heap) : List (Addr × Obj) := fp.filterMap fun b => (h.get? b).map fun o => (b, o)
theorem mem_pinsAt {fp : List Addr} {h : Heap} {b : Addr} {o : Obj} (hb : b ∈ fp) (e : h.get? b = some o) : (b, o) ∈ pinsAt fp h := List.mem_filterMap.mpr ⟨b, hb, by rw [e]; rfl⟩
theorem of_pinsAt {fp : List Addr} {h : Heap} {p : Addr × Obj} (hp : p ∈ pinsAt fp h) : p.1 ∈ fp ∧ h.get? p.1 = some p.2 := by
  obtain ⟨b, hb, e⟩ := List.mem_filterMap.mp hp
  cases q : h.get? b with
  | none => rw [q] at e; cases e
  | some o =>
    rw [q] at e
    have e' : (b, o) = p := Option.some.inj e
    subst e'
    exact ⟨hb, q⟩
theorem Inv.pinned {pins : List (Addr × Obj)} {σ : St} {H : Hp} {s : Shared} {fp : List Addr} (I : Inv X pins σ H s) (hf : ∀ b ∈ fp, FpOk X pins H b) (ho : ∀ b ∈ fp, ∃ o, s.heap.get? b = some o ∧ ∀ v, o.data ≠ .cell v) : Inv X (pins ++ pinsAt fp s.heap) σ H s :=
  I.pins_of fun p hp => (List.mem_append.mp hp).elim (fun z => I.pin p (List.mem_append_right _ z)) fun z => by
    obtain ⟨hb, e⟩ := of_pinsAt z
    obtain ⟨f0, f1, f2, _⟩ := hf p.1 hb
    obtain ⟨o, e', d⟩ := ho p.1 hb
    rw [e] at e'; cases e'
    exact ⟨e, f0, f1, f2, d⟩
theorem Inv.unpinned {pins pl : List (Addr × Obj)} {σ : St} {H : Hp} {s : Shared} (I : Inv X (pins ++ pl) σ H s) : Inv X pins σ H s := I.pins_of fun p hp => I.pin p (List.mem_append_right _ (List.mem_append_left _ hp))
theorem ps_for {iter : Expr} {body : List Stmt} {wi : TI} {g : TG} {tb : TS} {pos : Pos} (hp : PassesOwn (model X.prog X.w) X.A X.env X.xe) (hc : X.calm = true) (hi : PI X tg iter wi) (hg : PG X tg g) (hb : PSs X body tb)
    (hs : ∀ x, foldedSetIterable iter X.env x = pure x := by intro _; rfl) : PS X (.For tg iter body [] pos) (tFor wi g tb) := by
  intro pins s σ H D I h
  refine wpAny_For (thn (hi pins s σ H _ I h) fun v s1 h1 => thn h1 fun itv s2 h2 => ?_) hs
  obtain ⟨it, fp, tn, J, H2, e, I2, T, st2, f2, W, ⟨m0, w0⟩, turn⟩ := h2
  subst e
  -- what stays true of the iterator's objects through the loop
  have stat : ∀ {H' : Hp}, (∀ b ∈ fp, H' b = none) → ∀ b ∈ fp, FpOk X pins H' b := fun hn b hb => ⟨hn b hb, (f2 b hb).2⟩
  refine codeAny_forLoop_any (fun n s' => ∃ i σ' H', Inv X pins σ' H' s' ∧ tn i s'.heap ∧ (∀ b ∈ fp, H' b = none) ∧ W i n σ' H') ?_ m0 ⟨0, σ, H2, I2, st2, fun b hb => (f2 b hb).1, w0⟩
  rintro n s3 ⟨i, σ3, H3, I3, st3, fr3, w3⟩
  rcases turn i n σ3 H3 w3 with ⟨stop, qn⟩ | ⟨go, N, hN, step⟩
  · refine wpAny_passesOwn hp (thn (T.done X rfl rfl rfl hc i pins s3 σ3 H3 X.xe I3 (stat fr3) st3 stop) fun r s4 ⟨hr, I4⟩ => ?_)
    subst hr
    exact wpAny_execs_nil ⟨σ3, H3, I4, qn⟩
  · refine wpAny_passesOwn hp (thn (T.item X rfl rfl rfl hc i pins s3 σ3 H3 X.xe I3 (stat fr3) st3 go) fun r s4 ⟨u, hr, h4⟩ => ?_)
    subst hr
    refine wpAny_passesOwn hp (thn h4 fun _ s5 ⟨x, H5, I5, r5, y5, st5, fr5⟩ => ?_)
    have I5' := I5.pinned (stat fr5) (T.obj _ _ st5)
    refine wpAny_passesOwn hp (thn (hg _ s5 σ3 H5 x u _ I5' r5 (step x H5 y5)) fun _ s6 ⟨σ6, H6, I6, q6⟩ => ?_)
    refine wpAny_passesOwn hp (thn (hb _ s6 σ6 H6 _ I6 q6) fun f s7 q7 => ?_)
    have again : ∀ {σ7 : St} {H7 : Hp}, Inv X (pins ++ pinsAt fp s5.heap) σ7 H7 s7 → N σ7 H7 → ∃ m, m < n ∧ ∃ i σ' H', Inv X pins σ' H' s7 ∧ tn i s7.heap ∧ (∀ b ∈ fp, H' b = none) ∧ W i m σ' H' := fun {σ7 H7} I7 n7 => by
      obtain ⟨m', hm, w7⟩ := hN σ7 H7 n7
      refine ⟨m', hm, i + 1, σ7, H7, I7.unpinned, T.keep _ _ _ st5 fun b hb o e => (I7.pin (b, o) (List.mem_append_right _ (List.mem_append_right _ (mem_pinsAt hb e)))).1, fun b hb => ?_, w7⟩
      obtain ⟨o, e, d⟩ := T.obj _ _ st5 b hb
      exact (I7.pin (b, o) (List.mem_append_right _ (List.mem_append_right _ (mem_pinsAt hb e)))).2.1
    cases f with
    | next => obtain ⟨σ7, H7, I7, n7⟩ := q7; exact again I7 n7
    | cont => obtain ⟨σ7, H7, I7, n7⟩ := q7; exact again I7 n7
    | brk => obtain ⟨σ7, H7, I7, q7⟩ := q7; exact ⟨σ7, H7, I7.unpinned, q7⟩
    | ret v => obtain ⟨x7, σ7, H7, I7, r7, q7⟩ := q7; exact ⟨x7, σ7, H7, I7.unpinned, r7, q7⟩
end

/-! ### the forms one uses -/
theorem for_list {K : PySem.W.Frag} {a : Addr} {xs : List V} {g : TG} {tb : TS} {D : Ends} {σ : St} {H : Hp} (Pv : Nat → St → Hp → Prop) (h0 : Pv 0 σ H) (hl : ∀ i σ H, i ≤ xs.length → Pv i σ H → SqL K H a xs)
    (hs : ∀ i x σ H, xs[i]? = some x → Pv i σ H → g x σ H fun σ2 H2 => tb { D with nx := Pv (i + 1), ct := Pv (i + 1), bk := D.nx } σ2 H2) (hd : ∀ σ H, Pv xs.length σ H → D.nx σ H) :
    ∃ W : Nat → Nat → St → Hp → Prop, (∃ m, W 0 m σ H) ∧ ∀ i m σ H, W i m σ H →
      ((Itl K a).stop i H ∧ D.nx σ H) ∨ ((Itl K a).go i H ∧ ∃ N : St → Hp → Prop, (∀ σ' H', N σ' H' → ∃ m', m' < m ∧ W (i + 1) m' σ' H') ∧ ∀ x H', (Itl K a).yld i H x H' → g x σ H' fun σ2 H2 => tb { D with nx := N, ct := N, bk := D.nx } σ2 H2) := by
  refine ⟨fun i m σ H => m = xs.length - i ∧ i ≤ xs.length ∧ Pv i σ H, ⟨xs.length, by simp, Nat.zero_le _, h0⟩, ?_⟩
  rintro i m σ H ⟨rfl, hi, p⟩
  have q := hl i σ H hi p
  by_cases hlt : i < xs.length
  · refine .inr ⟨⟨xs, xs[i], q, by simp [hlt]⟩, Pv (i + 1), fun σ' H' p' => ⟨xs.length - (i + 1), by omega, rfl, hlt, p'⟩, fun x H' y => ?_⟩
    obtain ⟨e, y⟩ := y
    subst e
    exact hs i x σ _ (y xs q) p
  · have e : i = xs.length := by omega
    subst e
    exact .inl ⟨⟨xs, q, Nat.le_refl _⟩, hd σ H p⟩
theorem for_range {lo : Int} {n : Nat} {g : TG} {tb : TS} {D : Ends} {σ : St} {H : Hp} (Pv : Nat → St → Hp → Prop) (h0 : Pv 0 σ H)
    (hs : ∀ i σ H, i < n → Pv i σ H → g (.int (lo + i)) σ H fun σ2 H2 => tb { D with nx := Pv (i + 1), ct := Pv (i + 1), bk := D.nx } σ2 H2) (hd : ∀ σ H, Pv n σ H → D.nx σ H) :
    ∃ W : Nat → Nat → St → Hp → Prop, (∃ m, W 0 m σ H) ∧ ∀ i m σ H, W i m σ H →
      ((Itr lo n).stop i H ∧ D.nx σ H) ∨ ((Itr lo n).go i H ∧ ∃ N : St → Hp → Prop, (∀ σ' H', N σ' H' → ∃ m', m' < m ∧ W (i + 1) m' σ' H') ∧ ∀ x H', (Itr lo n).yld i H x H' → g x σ H' fun σ2 H2 => tb { D with nx := N, ct := N, bk := D.nx } σ2 H2) := by
  refine ⟨fun i m σ H => m = n - i ∧ i ≤ n ∧ Pv i σ H, ⟨n, by simp, Nat.zero_le _, h0⟩, ?_⟩
  rintro i m σ H ⟨rfl, hi, p⟩
  by_cases hlt : i < n
  · refine .inr ⟨hlt, Pv (i + 1), fun σ' H' p' => ⟨n - (i + 1), by omega, rfl, hlt, p'⟩, fun x H' y => ?_⟩
    obtain ⟨e, y⟩ := y
    subst e y
    exact hs i σ _ hlt p
  · have e : i = n := by omega
    subst e
    exact .inl ⟨Nat.le_refl _, hd σ H p⟩
end L2

namespace L2
open PySem PySem.Spec PyProof.Rows

abbrev R2 := V → V → Hp → VK → Prop
def OpR (X : Cx) (f : Value → Value → Sem Value) (r : R2) : Prop :=
  ∀ (pins : List (Addr × Obj)) (s : Shared) (σ : St) (H : Hp) (x y : V) (v u : Value) (Q : VK), Inv X pins σ H s → RelV x v → RelV y u → r x y H Q →
    wpAny (model X.prog X.w) X.A (f v u) (EP X pins σ Q) X.xe s
def UnR (X : Cx) (f : Value → Sem Value) (r : V → Hp → VK → Prop) : Prop :=
  ∀ (pins : List (Addr × Obj)) (s : Shared) (σ : St) (H : Hp) (x : V) (v : Value) (Q : VK), Inv X pins σ H s → RelV x v → r x H Q →
    wpAny (model X.prog X.w) X.A (f v) (EP X pins σ Q) X.xe s
def CallR (X : Cx) (f : Value) (r : List V → Hp → VK → Prop) : Prop :=
  ∀ (pins : List (Addr × Obj)) (s : Shared) (σ : St) (H : Hp) (xs : List V) (us : List Value) (Q : VK), Inv X pins σ H s → Vals xs us → r xs H Q →
    wpAny (model X.prog X.w) X.A (call f us) (EP X pins σ Q) X.xe s
def TruR (X : Cx) (r : V → Hp → (Bool → Hp → Prop) → Prop) : Prop :=
  ∀ (pins : List (Addr × Obj)) (s : Shared) (σ : St) (H : Hp) (x : V) (v : Value) (Q : Bool → Hp → Prop), Inv X pins σ H s → RelV x v → r x H Q →
    wpAny (model X.prog X.w) X.A (truthy v) (TP X pins σ Q) X.xe s

def tOp (r : R2) (ta tb : TE) : TE := fun σ H Q => ta σ H fun x H1 => tb σ H1 fun y H2 => r x y H2 Q
def tUn (r : V → Hp → VK → Prop) (ta : TE) : TE := fun σ H Q => ta σ H fun x H1 => r x H1 Q
def rI (C : Int → Int → Prop) (g : Int → Int → V) : R2 := fun x y H Q => ∃ i j, x = .int i ∧ y = .int j ∧ C i j ∧ Q (g i j) H
def rI0 (g : Int → Int → V) : R2 := fun x y H Q => ∃ i j, x = .int i ∧ y = .int j ∧ Q (g i j) H
def rU (g : Int → V) : V → Hp → VK → Prop := fun x H Q => ∃ i, x = .int i ∧ Q (g i) H

section
variable {X : Cx} {a b c : Expr} {ta tb tc : TE} {pos : Pos}

theorem binT (ha : PE X a ta) (hb : PE X b tb) {pins : List (Addr × Obj)} {s : Shared} {σ : St} {H : Hp} {R : V → V → Hp → Prop} (I : Inv X pins σ H s)
    (h : ta σ H fun x H1 => tb σ H1 fun y H2 => R x y H2) {Q : Value → Shared → Prop} {f : Value → Value → Sem Value}
    (hf : ∀ v u s2 x y H2, Inv X pins σ H2 s2 → RelV x v → RelV y u → R x y H2 → wpAny (model X.prog X.w) X.A (f v u) Q X.xe s2) :
    wpAny (model X.prog X.w) X.A (eval a X.env) (fun v s₁ => wpAny (model X.prog X.w) X.A (eval b X.env) (fun u s₂ => wpAny (model X.prog X.w) X.A (f v u) Q X.xe s₂) X.xe s₁) X.xe s := by
  refine thn (ha pins s σ H _ I h) fun v s1 ⟨x, H1, I1, r1, q1⟩ => ?_
  refine thn (hb pins s1 σ H1 _ I1 q1) fun u s2 ⟨y, H2, I2, r2, q2⟩ => ?_
  exact hf v u s2 x y H2 I2 r1 r2 q2

theorem pe_op {op : Operator} {r : R2} (ho : OpR X (binaryOp op) r) (ha : PE X a ta) (hb : PE X b tb) : PE X (.BinOp a op b pos) (tOp r ta tb) := by
  intro pins s σ H Q I h
  exact wpAny_BinOp (binT ha hb I h fun v u s2 x y H2 I2 rx ry q => ho pins s2 σ H2 x y v u Q I2 rx ry q)
theorem pe_un {op : UnaryOp} {r : V → Hp → VK → Prop} (ho : UnR X (unaryOp op) r) (ha : PE X a ta) : PE X (.UnaryOp op a pos) (tUn r ta) := by
  intro pins s σ H Q I h
  exact UnaryOp_ (thn (ha pins s σ H _ I h) fun v s1 ⟨x, H1, I1, r1, q1⟩ => ho pins s1 σ H1 x v Q I1 r1 q1)
/-! ### ints -/
theorem opI {f : Value → Value → Sem Value} {C : Int → Int → Prop} {g : Int → Int → Int}
    (rule : ∀ (i j : Int) (t u : Tok) (s : Shared) (Q : Value → Shared → Prop) (E : Value → Shared → Prop), C i j → Q (.int (g i j) s.toks) { s with toks := s.toks + 1 } → wpAny (model X.prog X.w) X.A (f (.int i t) (.int j u)) Q E s) :
    OpR X f (rI C fun i j => .int (g i j)) := by
  intro pins s σ H x y v u Q I rx ry h
  obtain ⟨i, j, rfl, rfl, hc, q⟩ := h
  obtain ⟨t, rfl⟩ := rx
  obtain ⟨t', rfl⟩ := ry
  exact rule i j t t' s _ _ hc ⟨.int (g i j), H, I.tok _, ⟨_, rfl⟩, q⟩
theorem opI0 {f : Value → Value → Sem Value} {g : Int → Int → Int}
    (rule : ∀ (i j : Int) (t u : Tok) (s : Shared) (Q : Value → Shared → Prop) (E : Value → Shared → Prop), Q (.int (g i j) s.toks) { s with toks := s.toks + 1 } → wpAny (model X.prog X.w) X.A (f (.int i t) (.int j u)) Q E s) :
    OpR X f (rI0 fun i j => .int (g i j)) := by
  intro pins s σ H x y v u Q I rx ry h
  obtain ⟨i, j, rfl, rfl, q⟩ := h
  obtain ⟨t, rfl⟩ := rx
  obtain ⟨t', rfl⟩ := ry
  exact rule i j t t' s _ _ ⟨.int (g i j), H, I.tok _, ⟨_, rfl⟩, q⟩
theorem opB0 {f : Value → Value → Sem Value} {g : Int → Int → Bool}
    (rule : ∀ (i j : Int) (t u : Tok) (s : Shared) (Q : Value → Shared → Prop) (E : Value → Shared → Prop), Q (.bool (g i j)) s → wpAny (model X.prog X.w) X.A (f (.int i t) (.int j u)) Q E s) :
    OpR X f (rI0 fun i j => .bl (g i j)) := by
  intro pins s σ H x y v u Q I rx ry h
  obtain ⟨i, j, rfl, rfl, q⟩ := h
  obtain ⟨t, rfl⟩ := rx
  obtain ⟨t', rfl⟩ := ry
  exact rule i j t t' s _ _ ⟨.bl (g i j), H, I, rfl, q⟩

def CDiv (i j : Int) : Prop := 0 < j ∧ j < 1073741824
def CMul (i j : Int) : Prop := (-(2 ^ 64) < i ∧ i < 2 ^ 64) ∨ (-(2 ^ 64) < j ∧ j < 2 ^ 64)
theorem CMul.ok {i j : Int} (h : CMul i j) : IntMulOk i j := by
  rcases h with ⟨h1, h2⟩ | ⟨h1, h2⟩
  · exact .of_left (intBits_le_64 h1 h2)
  · exact .of_right (intBits_le_64 h1 h2)
theorem op_add : OpR X (binaryOp .Add) (rI0 fun i j => .int (i + j)) := opI0 fun _ _ _ _ _ _ _ q => add_int q
theorem op_sub : OpR X (binaryOp .Sub) (rI0 fun i j => .int (i - j)) := opI0 fun _ _ _ _ _ _ _ q => sub_int q
theorem op_mul : OpR X (binaryOp .Mult) (rI CMul fun i j => .int (i * j)) := opI fun _ _ _ _ _ _ _ hc q => mul_int q hc.ok
theorem op_fdiv : OpR X (binaryOp .FloorDiv) (rI CDiv fun i j => .int (i / j)) := opI fun i j _ _ _ _ _ hc q => by
  have h1 : (0 : Int) < j := hc.1
  have h2 : j < 1073741824 := hc.2
  exact floordiv_int (by omega) (by rw [Int.fdiv_eq_ediv_of_nonneg i (by omega)]; exact q) (.inl (PyProof.noPylong_small (by omega)))
theorem op_mod : OpR X (binaryOp .Mod) (rI (fun _ j => 0 < j) fun i j => .int (i % j)) := opI fun i j _ _ _ _ _ hc q => by
  have h1 : (0 : Int) < j := hc
  exact mod_int' (by omega) (by rw [Int.fmod_eq_emod_of_nonneg i (by omega)]; exact q)
theorem unI {f : Value → Sem Value} {g : Int → Int}
    (rule : ∀ (i : Int) (t : Tok) (s : Shared) (Q : Value → Shared → Prop) (E : Value → Shared → Prop), Q (.int (g i) s.toks) { s with toks := s.toks + 1 } → wpAny (model X.prog X.w) X.A (f (.int i t)) Q E s) :
    UnR X f (rU fun i => .int (g i)) := by
  intro pins s σ H x v Q I rx h
  obtain ⟨i, rfl, q⟩ := h
  obtain ⟨t, rfl⟩ := rx
  exact rule i t s _ _ ⟨.int (g i), H, I.tok _, ⟨_, rfl⟩, q⟩
theorem un_neg : UnR X (unaryOp .USub) (rU fun i => .int (-i)) := unI fun _ _ _ _ _ q => neg_int q
/-! ### bools among ints: n += (a < b) -/
end

/-! ### comparisons -/
def scal : V → V → Bool
  | .non, .non => true | .non, .int _ => true | .int _, .non => true | .non, .bl _ => true | .bl _, .non => true | .non, .str _ => true | .str _, .non => true
  | .int _, .int _ => true | .bl _, .bl _ => true | .str _, .str _ => true | .byt _, .byt _ => true
  | .int _, .str _ => true | .str _, .int _ => true | .bl _, .str _ => true | .str _, .bl _ => true
  | _, _ => false
def rEq : R2 := fun x y H Q => scal x y = true ∧ Q (.bl (decide (x = y))) H
def rNe : R2 := fun x y H Q => scal x y = true ∧ Q (.bl (!decide (x = y))) H

theorem dec_int {i j : Int} : decide (V.int i = V.int j) = (i == j) := by
  rw [Bool.eq_iff_iff]
  simp
theorem dec_bl {i j : Bool} : decide (V.bl i = V.bl j) = (i == j) := by
  rw [Bool.eq_iff_iff]
  simp
theorem dec_str {i j : Str} : decide (V.str i = V.str j) = (i == j) := by
  rw [Bool.eq_iff_iff]
  simp
theorem dec_byt {i j : Array UInt8} : decide (V.byt i = V.byt j) = (i.toList == j.toList) := by
  rw [Bool.eq_iff_iff]
  cases i
  cases j
  simp

section
variable {X : Cx} {a b c : Expr} {ta tb tc : TE} {pos : Pos}
theorem fin_bl {pins : List (Addr × Obj)} {σ : St} {H : Hp} {s : Shared} {Q : VK} {k k' : Bool} (I : Inv X pins σ H s) (q : Q (.bl k) H) (e : k = k') : EP X pins σ Q (.bool k') s := by
  subst e
  exact ⟨.bl k, H, I, rfl, q⟩
theorem op_eq : OpR X (compareOp .Eq) rEq := by
  intro pins s σ H x y v u Q I rx ry h
  obtain ⟨hs, q⟩ := h
  cases x with
  | non =>
    cases rx
    cases y with
    | non => cases ry; exact PySem.EqNone.eq_none_none (fin_bl I q (by simp))
    | bl j => cases ry; exact PySem.EqNone.eq_none_bool (fin_bl I q (by simp))
    | int j => obtain ⟨t', rfl⟩ := ry; exact PySem.EqNone.eq_none_int (fin_bl I q (by simp))
    | str j => obtain ⟨t', rfl⟩ := ry; exact PySem.EqNone.eq_none_str (fin_bl I q (by simp))
    | _ => exact absurd (show false = true from hs) Bool.false_ne_true
  | bl i =>
    cases rx
    cases y with
    | non => cases ry; exact PySem.EqNone.eq_bool_none (fin_bl I q (by simp))
    | bl j => cases ry; exact eq_bool (fin_bl I q dec_bl)
    | str j => obtain ⟨t', rfl⟩ := ry; exact PySem.EqMixed.eq_bool_str (fin_bl I q (by simp))
    | _ => exact absurd (show false = true from hs) Bool.false_ne_true
  | int i =>
    obtain ⟨t, rfl⟩ := rx
    cases y with
    | non => cases ry; exact PySem.EqNone.eq_int_none (fin_bl I q (by simp))
    | int j => obtain ⟨t', rfl⟩ := ry; exact eq_int (fin_bl I q dec_int)
    | str j => obtain ⟨t', rfl⟩ := ry; exact PySem.EqMixed.eq_int_str (fin_bl I q (by simp))
    | _ => exact absurd (show false = true from hs) Bool.false_ne_true
  | str i =>
    obtain ⟨t, rfl⟩ := rx
    cases y with
    | non => cases ry; exact PySem.EqNone.eq_str_none (fin_bl I q (by simp))
    | bl j => cases ry; exact PySem.EqMixed.eq_str_bool (fin_bl I q (by simp))
    | int j => obtain ⟨t', rfl⟩ := ry; exact PySem.EqMixed.eq_str_int (fin_bl I q (by simp))
    | str j => obtain ⟨t', rfl⟩ := ry; exact eq_str (fin_bl I q dec_str)
    | _ => exact absurd (show false = true from hs) Bool.false_ne_true
  | byt i =>
    obtain ⟨t, rfl⟩ := rx
    cases y with
    | byt j => obtain ⟨t', rfl⟩ := ry; exact PySem.W.eq_bytes (fin_bl I q dec_byt)
    | _ => exact absurd (show false = true from hs) Bool.false_ne_true
  | _ => cases y <;> exact absurd (show false = true from hs) Bool.false_ne_true
theorem op_ne : OpR X (compareOp .NotEq) rNe := by
  intro pins s σ H x y v u Q I rx ry h
  obtain ⟨hs, q⟩ := h
  cases x with
  | non =>
    cases rx
    cases y with
    | non => cases ry; exact PySem.EqNone.ne_none_none (fin_bl I q (by simp))
    | bl j => cases ry; exact PySem.EqNone.ne_none_bool (fin_bl I q (by simp))
    | int j => obtain ⟨t', rfl⟩ := ry; exact PySem.EqNone.ne_none_int (fin_bl I q (by simp))
    | str j => obtain ⟨t', rfl⟩ := ry; exact PySem.EqNone.ne_none_str (fin_bl I q (by simp))
    | _ => exact absurd (show false = true from hs) Bool.false_ne_true
  | bl i =>
    cases rx
    cases y with
    | non => cases ry; exact PySem.EqNone.ne_bool_none (fin_bl I q (by simp))
    | bl j => cases ry; exact ne_bool (fin_bl I q (congrArg not dec_bl))
    | str j => obtain ⟨t', rfl⟩ := ry; exact PySem.EqMixed.ne_bool_str (fin_bl I q (by simp))
    | _ => exact absurd (show false = true from hs) Bool.false_ne_true
  | int i =>
    obtain ⟨t, rfl⟩ := rx
    cases y with
    | non => cases ry; exact PySem.EqNone.ne_int_none (fin_bl I q (by simp))
    | int j => obtain ⟨t', rfl⟩ := ry; exact ne_int (fin_bl I q (congrArg not dec_int))
    | str j => obtain ⟨t', rfl⟩ := ry; exact PySem.EqMixed.ne_int_str (fin_bl I q (by simp))
    | _ => exact absurd (show false = true from hs) Bool.false_ne_true
  | str i =>
    obtain ⟨t, rfl⟩ := rx
    cases y with
    | non => cases ry; exact PySem.EqNone.ne_str_none (fin_bl I q (by simp))
    | bl j => cases ry; exact PySem.EqMixed.ne_str_bool (fin_bl I q (by simp))
    | int j => obtain ⟨t', rfl⟩ := ry; exact PySem.EqMixed.ne_str_int (fin_bl I q (by simp))
    | str j => obtain ⟨t', rfl⟩ := ry; exact ne_str (fin_bl I q (congrArg not dec_str))
    | _ => exact absurd (show false = true from hs) Bool.false_ne_true
  | byt i =>
    obtain ⟨t, rfl⟩ := rx
    cases y with
    | byt j => obtain ⟨t', rfl⟩ := ry; exact PySem.W.ne_bytes (fin_bl I q (congrArg not dec_byt))
    | _ => exact absurd (show false = true from hs) Bool.false_ne_true
  | _ => cases y <;> exact absurd (show false = true from hs) Bool.false_ne_true

theorem op_lt : OpR X (compareOp .Lt) (rI0 fun i j => .bl (decide (i < j))) := opB0 fun _ _ _ _ _ _ _ q => lt_int q
theorem op_le : OpR X (compareOp .LtE) (rI0 fun i j => .bl (decide (i ≤ j))) := opB0 fun _ _ _ _ _ _ _ q => le_int q
theorem op_gt : OpR X (compareOp .Gt) (rI0 fun i j => .bl (decide (j < i))) := opB0 fun _ _ _ _ _ _ _ q => gt_int q
theorem op_ge : OpR X (compareOp .GtE) (rI0 fun i j => .bl (decide (j ≤ i))) := opB0 fun _ _ _ _ _ _ _ q => ge_int q
theorem op_isN : OpR X (compareOp .Is) (fun x y H Q => y = .non ∧ Q (.bl (decide (x = .non))) H) := by
  intro pins s σ H x y v u Q I rx ry h
  obtain ⟨rfl, q⟩ := h
  cases ry
  refine is_none_gen (fin_bl I q ?_)
  cases x <;> first
    | (cases rx; rfl)
    | (obtain ⟨t, rfl⟩ := rx; rfl)
theorem op_notN : OpR X (compareOp .IsNot) (fun x y H Q => y = .non ∧ Q (.bl (!decide (x = .non))) H) := by
  intro pins s σ H x y v u Q I rx ry h
  obtain ⟨rfl, q⟩ := h
  cases ry
  refine isnot_none_gen (fin_bl I q ?_)
  cases x <;> first
    | (cases rx; rfl)
    | (obtain ⟨t, rfl⟩ := rx; rfl)

theorem nomark (b : Expr) {op : CmpOp} (h : op ≠ .In := by decide) (h2 : op ≠ .NotIn := by decide) : behindInMarks op b = false := by
  have e1 : (op == CmpOp.In) = false := by cases op <;> first | rfl | exact absurd rfl h
  have e2 : (op == CmpOp.NotIn) = false := by cases op <;> first | rfl | exact absurd rfl h2
  cases b <;> simp [behindInMarks, e1, e2]
theorem pe_cmpR {op : CmpOp} {r : R2} (ho : OpR X (compareOp op) r) (ha : PE X a ta) (hb : PE X b tb) (hm : behindInMarks op b = false) : PE X (.Compare a [op] [b] pos) (tOp r ta tb) := by
  intro pins s σ H Q I h
  exact wpAny_Compare1 (binT ha hb I h fun v u s2 x y H2 I2 rx ry q => ho pins s2 σ H2 x y v u Q I2 rx ry q) hm
def tTest (t : TE) : TT := fun σ H Q => t σ H fun x H' => ∃ k, x = .bl k ∧ Q k H'
theorem pt_cmpR {op : CmpOp} {r : R2} (ho : OpR X (compareOp op) r) (ha : PE X a ta) (hb : PE X b tb) (hm : behindInMarks op b = false) : PT X (.Compare a [op] [b] pos) (tTest (tOp r ta tb)) := by
  intro pins s σ H Q I h
  refine wpAny_isTrue_Compare1 (thn (ha pins s σ H _ I h) fun v s1 ⟨x, H1, I1, r1, q1⟩ => thn (hb pins s1 σ H1 _ I1 q1) fun u s2 ⟨y, H2, I2, r2, q2⟩ =>
    thn (ho pins s2 σ H2 x y v u _ I2 r1 r2 q2) fun c s3 ⟨z, H3, I3, r3, k, e, q3⟩ => ?_) hm
  subst e
  cases r3
  exact wpAny_truthy_bool ⟨H3, I3, q3⟩
def tChain (r r' : R2) (ta tb tc : TE) : TE := fun σ H Q => ta σ H fun x H1 => tb σ H1 fun y H2 => r x y H2 fun z H3 => ∃ k, z = .bl k ∧
  (if k = true then tc σ H3 fun w' H4 => r' y w' H4 Q else Q (.bl false) H3)
theorem pe_chain {op op' : CmpOp} {r r' : R2} (ho : OpR X (compareOp op) r) (ho' : OpR X (compareOp op') r') (ha : PE X a ta) (hb : PE X b tb) (hc : PE X c tc)
    (hm : lastMarks [op, op'] [b, c] = false := by with_unfolding_all rfl) : PE X (.Compare a [op, op'] [b, c] pos) (tChain r r' ta tb tc) := by
  intro pins s σ H Q I h
  refine Compare_chain (thn (ha pins s σ H _ I h) fun v s1 ⟨x, H1, I1, r1, q1⟩ => chain_link (thn (hb pins s1 σ H1 _ I1 q1) fun u s2 ⟨y, H2, I2, r2, q2⟩ =>
    thn (ho pins s2 σ H2 x y v u _ I2 r1 r2 q2) fun d s3 ⟨z, H3, I3, r3, k, e, q3⟩ => ?_)) hm
  subst e
  cases r3
  refine wpAny_truthy_bool ?_
  cases k with
  | false => exact ite_ff ⟨.bl false, H3, I3, rfl, q3⟩
  | true => exact ite_tt (chain_last (thn (hc pins s3 σ H3 _ I3 q3) fun w' s4 ⟨z', H4, I4, r4, q4⟩ => ho' pins s4 σ H4 y z' u w' Q I4 r2 r4 q4))
theorem pt_chain {op op' : CmpOp} {r r' : R2} (ho : OpR X (compareOp op) r) (ho' : OpR X (compareOp op') r') (ha : PE X a ta) (hb : PE X b tb) (hc : PE X c tc)
    (hm : lastMarks [op, op'] [b, c] = false := by with_unfolding_all rfl) : PT X (.Compare a [op, op'] [b, c] pos) (tTest (tChain r r' ta tb tc)) := by
  intro pins s σ H Q I h
  refine isTrue_chain (thn (ha pins s σ H _ I h) fun v s1 ⟨x, H1, I1, r1, q1⟩ => test_link (thn (hb pins s1 σ H1 _ I1 q1) fun u s2 ⟨y, H2, I2, r2, q2⟩ =>
    thn (ho pins s2 σ H2 x y v u _ I2 r1 r2 q2) fun d s3 ⟨z, H3, I3, r3, k, e, q3⟩ => ?_)) hm
  subst e
  cases r3
  refine wpAny_truthy_bool ?_
  cases k with
  | false =>
    obtain ⟨k', e', q'⟩ := q3
    cases e'
    exact ite_ff ⟨H3, I3, q'⟩
  | true =>
    refine ite_tt (test_last (thn (hc pins s3 σ H3 _ I3 q3) fun w' s4 ⟨z', H4, I4, r4, q4⟩ => thn (ho' pins s4 σ H4 y z' u w' _ I4 r2 r4 q4) fun d' s5 ⟨z2, H5, I5, r5, k2, e2, q5⟩ => ?_))
    subst e2
    cases r5
    exact wpAny_truthy_bool ⟨H5, I5, q5⟩

/-! ### truth -/
def TruV (K : PySem.W.Frag) (x : V) (H : Hp) (k : Bool) : Prop :=
  match x with
  | .non => k = false
  | .bl b => k = b
  | .int i => k = (i != 0)
  | .str y => y.length ≤ sizeLine ∧ k = ((y.length : Int) != 0)
  | .byt y => y.size ≤ sizeLine ∧ k = ((y.size : Int) != 0)
  | .ref p => (∃ xs, SqL K H p xs ∧ k = !xs.isEmpty) ∨ (∃ xs, SqT K H p xs ∧ k = !xs.isEmpty) ∨ ∃ kvs, H p = some (.dK kvs) ∧ k = !kvs.isEmpty
  | _ => False
theorem isEmpty_kv {κ : Type} {kvs : List (κ × V)} {vs : List (κ × Value)} (r : KV kvs vs) : (!vs.isEmpty) = !kvs.isEmpty := by
  cases r <;> rfl
theorem isEmpty_of {xs : List V} {its : List Value} (r : Vals xs its) : (!its.toArray.isEmpty) = !xs.isEmpty := by
  cases r <;> simp
theorem line63 : (sizeLine : Nat) < 2 ^ 63 := by rw [sizeLine_eq]; decide
theorem tru_ok : TruR X (fun x H Q => ∃ k, TruV X.K x H k ∧ Q k H) := by
  intro pins s σ H x v Q I rx h
  obtain ⟨k, e, q⟩ := h
  have hl := line63
  have hs : sizeLine = 16777216 := sizeLine_eq
  cases x with
  | non =>
    cases rx
    have e' : k = false := e
    subst e'
    exact truthy_none ⟨H, I, q⟩
  | bl b =>
    cases rx
    have e' : k = b := e
    subst e'
    exact wpAny_truthy_bool ⟨H, I, q⟩
  | int i =>
    obtain ⟨t, rfl⟩ := rx
    have e' : k = (i != 0) := e
    subst e'
    exact PySem.P.truthy_int ⟨H, I, q⟩
  | str y =>
    obtain ⟨t, rfl⟩ := rx
    obtain ⟨hy, e'⟩ : y.length ≤ sizeLine ∧ k = ((y.length : Int) != 0) := e
    subst e'
    exact PySem.P.truthy_str (by omega) ⟨H, I.tok _, q⟩
  | byt y =>
    obtain ⟨t, rfl⟩ := rx
    obtain ⟨hy, e'⟩ : y.size ≤ sizeLine ∧ k = ((y.size : Int) != 0) := e
    subst e'
    exact PySem.W.truthy_bytes (by omega) ⟨H, I.tok _, q⟩
  | ref p =>
    cases rx
    have e' : (∃ xs, SqL X.K H p xs ∧ k = !xs.isEmpty) ∨ (∃ xs, SqT X.K H p xs ∧ k = !xs.isEmpty) ∨ ∃ kvs, H p = some (.dK kvs) ∧ k = !kvs.isEmpty := e
    rcases e' with ⟨xs, hx, e'⟩ | ⟨xs, hx, e'⟩ | ⟨kvs, hx, e'⟩
    · subst e'
      obtain ⟨its, r, pl, hz⟩ := I.list hx
      have hlen := r.length
      exact wpAny_truthy_list pl.isList (by simp only [List.size_toArray]; omega) ⟨H, I.tok _, by rw [isEmpty_of r]; exact q⟩
    · subst e'
      obtain ⟨its, r, pl, hz⟩ := I.tuple hx
      have hlen := r.length
      exact truthy_tuple pl (by simp only [List.size_toArray]; omega) ⟨H, I.tok _, by rw [isEmpty_of r]; exact q⟩
    · subst e'
      obtain ⟨hz, hS, vs, r, m⟩ : kvs.length ≤ sizeLine ∧ (p == sysModules) = false ∧ ∃ vs, KV kvs vs ∧ s.heap.DictOf (mixKind X.prog X.w) p vs := I.hok p _ hx
      have hlen : kvs.length = vs.length := Paired.length r
      exact wpAny_truthy_dict hS m (by omega) ⟨H, I.tok _, by rw [isEmpty_kv r]; exact q⟩
  | _ => exact (show False from e).elim
theorem pt_truth (ha : PE X a ta) (he : ∀ whole, isTrue a X.env whole = (do let v ← whole; standAt a.pos; holding [v] (truthy v))) :
    PT X a (fun σ H Q => ta σ H fun x H' => ∃ k, TruV X.K x H' k ∧ Q k H') := by
  intro pins s σ H Q I h
  exact isTrue_plain (thn (ha pins s σ H _ I h) fun v s1 ⟨x, H1, I1, r1, q1⟩ => tru_ok pins s1 σ H1 x v Q I1 r1 q1) (he _)

/-! ### strs and bytes -/
theorem op_add_str : OpR X (binaryOp .Add) (fun x y H Q => ∃ i j, x = .str i ∧ y = .str j ∧ i.length + j.length ≤ sizeLine ∧ Q (.str (i ++ j)) H) := by
  intro pins s σ H x y v u Q I rx ry h
  obtain ⟨i, j, rfl, rfl, hz, q⟩ := h
  obtain ⟨t, rfl⟩ := rx
  obtain ⟨t', rfl⟩ := ry
  exact add_str (fun t' tk => ⟨.str (i ++ j), H, I.tok _, ⟨_, rfl⟩, q⟩) hz
/-! ### scalar builtins, by CallR -/
theorem vals1 {x : V} {us : List Value} (r : Vals [x] us) : ∃ u, us = [u] ∧ RelV x u := by
  cases r with
  | cons r1 r2 => cases r2; exact ⟨_, rfl, r1⟩
end
end L2

namespace L2
open PySem PySem.Spec PyProof.Rows

/-! ### an instance, its attributes a map -/
structure ObjM (h : Heap) (x dx C : Addr) (mA : Str → Option Value) : Prop where
  obj : h.get? x = some (PySem.W.instObj C dx)
  ns : h.Ns1 dx mA
  ne : dx ≠ x

theorem lookIn_ns {h : Heap} {dx : Addr} {mA : Str → Option Value} (n : h.Ns1 dx mA) : ∃ od, h.get? dx = some od ∧ ∀ name, PySem.W.lookIn name od = some (mA name) := by
  obtain ⟨o, es, ep, ho, hd, hk, _, hm⟩ := n
  refine ⟨o, ho, fun name => ?_⟩
  have e := hm name
  unfold nsFind findBy at e
  rw [← Array.find?_toList] at e
  unfold PySem.W.lookIn
  rw [hd]
  dsimp only
  split
  · rename_i y q
    rw [q] at e
    exact congrArg some e
  · rename_i q
    rw [q] at e
    have a : es.toList.any (·.refKey) = false := by
      rw [List.any_eq_false]
      intro y hy
      obtain ⟨z, t, hkey⟩ := hk y (Array.mem_toList_iff.mp hy)
      simp [DictEntry.refKey, hkey]
    have a' : ¬ es.toList.any (·.refKey) = true := by rw [a]; exact Bool.false_ne_true
    rw [if_neg a']
    exact congrArg some e

theorem ObjM.look {h : Heap} {x dx C : Addr} {mA : Str → Option Value} (I : ObjM h x dx C mA) : ∃ od, PySem.W.InstAt h x (PySem.W.instObj C dx) C (some od) ∧ ∀ name, PySem.W.lookIn name od = some (mA name) :=
  let ⟨od, ho, hl⟩ := lookIn_ns I.ns
  ⟨od, ⟨I.obj, rfl, rfl, ho⟩, hl⟩

section
variable {prog : Program} {w : World} {A : Around} {E : Value → Shared → Prop} {s : Shared} {K : PySem.W.Frag} {x dx C f : Addr} {mA : Str → Option Value} {name : Str} {v : Value}

end

/-! ### the attributes as a list of pairs -/
section
variable {P : Program} {w : World} {H H' : Hp} {h h' : Heap} {a C dx : Addr} {fs fs' : List (Str × V)}
theorem ins_get (hok : HOk P w H h) (e : H a = some (.ins C dx fs)) : ∃ mA, ObjM h a dx C mA ∧ (∀ f, RelO (fs.lookup f) (mA f)) ∧ PySem.Within mA (fs.map (·.1)) ∧ fs.length ≤ 1000 ∧ H dx = some (.own a) := by
  obtain ⟨d, z, ne, ob, mA, n, r, q⟩ := (show ObjOk P w H h a (.ins C dx fs) from hok a _ e)
  exact ⟨mA, ⟨ob, n, ne⟩, r, q, z, d⟩
end

/-! ### what of the text a class must have -/
structure Cls (K : PySem.W.Frag) (C : Addr) : Prop where
  pg : PySem.W.plainGet K C Str.empty = true
  hd : PySem.W.hasDictIn K C = true
  po : PySem.W.plainOver K C = true
  sa : PySem.W.findIn K (.ref C) "__setattr__" = some (some (.builtin "object.__setattr__"))
theorem Cls.get {K : PySem.W.Frag} {C : Addr} (c : Cls K C) (f : Str) : PySem.W.plainGet K C f = true := c.pg
section
variable {X : Cx} {pins : List (Addr × Obj)} {σ : St} {H : Hp} {s : Shared} {a C dx : Addr} {fs : List (Str × V)} {f : Str} {v : V} {A : Around} {E : Value → Shared → Prop}

end

/-! ### readings and rules -/
section
variable {X : Cx} {o e value : Expr} {f : Str} {pos pos' tpos : Pos} {ta tv : TE}
end

/-! ### isinstance -/
section
variable {X : Cx} {pins : List (Addr × Obj)} {σ : St} {H : Hp} {s : Shared} {A : Around} {E : Value → Shared → Prop} {Q : Value → Shared → Prop} {c : Value} {b : Bool}
inductive TyOf (K : PySem.W.Frag) (H : Hp) : V → Value → Prop where
  | non : TyOf K H .non (.type "NoneType")
  | bl (x : Bool) : TyOf K H (.bl x) (.type "bool")
  | int (i : Int) : TyOf K H (.int i) (.type "int")
  | str (x : Str) : TyOf K H (.str x) (.type "str")
  | flt (x : UInt64) : TyOf K H (.flt x) (.type "float")
  | lst {a : Addr} {xs : List V} (e : H a = some (.lst xs)) : TyOf K H (.ref a) (.type "list")
  | frz {a : Addr} {o : Obj} {xs : List V} (e : H a = some (.frz o (.lst xs))) : TyOf K H (.ref a) (.type "list")
  | tup {a : Addr} {xs : List V} (e : H a = some (.tup xs)) : TyOf K H (.ref a) (.type "tuple")
  | dK {a : Addr} {kvs : List (Key × V)} (e : H a = some (.dK kvs)) : TyOf K H (.ref a) (.type "dict")
  | dT {a : Addr} {kvs : List (List Key × V)} (e : H a = some (.dT kvs)) : TyOf K H (.ref a) (.type "dict")
  | ins {a C dx : Addr} {fs : List (Str × V)} (e : H a = some (.ins C dx fs)) (cl : Cls K C) (ha : PySem.W.findIn K (.ref C) "__class__" = some (some (.builtin "object.__class__")))
      (hn : PySem.W.specialIn K (.builtin "object.__class__") "__get__" = some (some (.builtin "getset_descriptor.__get__"))) (htk : PySem.W.takesIn K (.builtin "object.__class__") = some true)
      (hm : PySem.W.mroIn K C (.type "object") = some true) : TyOf K H (.ref a) (.ref C)
theorem isinst_ok {x : V} {u t : Value} (I : Inv X pins σ H s) (rx : RelV x u) (ty : TyOf X.K H x t) (e : PySem.W.kitOne X.K t c = some b) (h : ∀ tk, Q (.bool b) { s with toks := tk }) :
    wpAny (model X.prog X.w) A (call (.builtin "isinstance") [u, c]) Q E s := by
  cases ty with
  | non => cases (show u = Value.none from rx); exact PySem.W.kia_one PySem.W.kitx_none I.kIn True.intro e (fun z => nomatch z) h
  | bl y => cases (show u = Value.bool y from rx); exact PySem.W.kia_one PySem.W.kitx_bool I.kIn True.intro e (fun z => nomatch z) h
  | int i => obtain ⟨t, q⟩ := (show ∃ t, u = Value.int i t from rx); cases q; exact PySem.W.kia_one PySem.W.kitx_int I.kIn True.intro e (fun z => nomatch z) h
  | str y => obtain ⟨t, q⟩ := (show ∃ t, u = Value.str y t from rx); cases q; exact PySem.W.kia_one PySem.W.kitx_str I.kIn True.intro e (fun z => nomatch z) h
  | flt y => obtain ⟨t, q⟩ := (show ∃ t, u = Value.float y t from rx); cases q; exact PySem.W.kia_one PySem.W.kitx_float I.kIn True.intro e (fun z => nomatch z) h
  | @lst a xs ea =>
    cases (show u = Value.ref a from rx)
    obtain ⟨_, _, n, _, h1⟩ := (show ObjOk X.prog X.w H s.heap a (.lst xs) from I.hok a _ ea)
    exact PySem.W.kia_one PySem.W.kitx_list I.kIn ⟨_, h1, rfl⟩ e (fun z => nomatch z) h
  | @frz a ob xs ea =>
    cases (show u = Value.ref a from rx)
    obtain ⟨_, _, _, n, _, h1⟩ := (show ObjOk X.prog X.w H s.heap a (.frz ob (.lst xs)) from I.hok a _ ea)
    exact PySem.W.kia_one PySem.W.kitx_list I.kIn ⟨_, h1, rfl⟩ e (fun z => nomatch z) h
  | @tup a xs ea =>
    cases (show u = Value.ref a from rx)
    obtain ⟨_, _, _, p⟩ := (show ObjOk X.prog X.w H s.heap a (.tup xs) from I.hok a _ ea)
    obtain ⟨o, h1, h2, _⟩ := p
    exact PySem.W.kia_one PySem.W.kitx_tuple I.kIn ⟨o, h1, h2⟩ e (fun z => nomatch z) h
  | @dK a kvs ea =>
    cases (show u = Value.ref a from rx)
    obtain ⟨_, _, vs, _, p⟩ := (show ObjOk X.prog X.w H s.heap a (.dK kvs) from I.hok a _ ea)
    obtain ⟨o, es, ep, h1, h2, _⟩ := p
    exact PySem.W.kia_one PySem.W.kitx_dict I.kIn ⟨o, h1, h2.1⟩ e (fun z => nomatch z) h
  | @dT a kvs ea =>
    cases (show u = Value.ref a from rx)
    obtain ⟨_, _, xs, _, o, es, ep, h1, h2, _⟩ := (show ObjOk X.prog X.w H s.heap a (.dT kvs) from I.hok a _ ea)
    exact PySem.W.kia_one PySem.W.kitx_dict I.kIn ⟨o, h1, h2.1⟩ e (fun z => nomatch z) h
  | @ins a C dx fs ea cl ha hn htk hm =>
    cases (show u = Value.ref a from rx)
    obtain ⟨mA, O, _⟩ := ins_get I.hok ea
    obtain ⟨od, J, _⟩ := O.look
    exact PySem.W.kia_one (PySem.W.kitx_own (cl.get _) cl.hd ha hn htk hm) I.kIn J e (fun z => nomatch z) h
end
end L2

namespace L2
open PySem PySem.Spec PyProof.Rows

/-! ### room -/
structure Room (k : Nat) (A : Around) : Prop where
  hd : A.handled = none
  dp : A.depth + 3 * k + 5 < recursionLimit
  un : A.units + 16 * k + 200 < cLine
theorem Room.mono {j k : Nat} {A : Around} (r : Room k A) (h : j ≤ k) : Room j A := ⟨r.hd, by have := r.dp; omega, by have := r.un; omega⟩
theorem Room.deeper {k : Nat} {A : Around} (r : Room (k + 1) A) (env : Env) : Room k (A.deeper env) :=
  ⟨r.hd, by have := r.dp; show A.depth + 1 + 3 * k + 5 < _; omega, by have := r.un; show A.units + 3 + 16 * k + 200 < _; omega⟩
theorem Room.depth {k : Nat} {A : Around} (r : Room k A) : A.depth < recursionLimit := by have := r.dp; omega
theorem Room.units0 {k : Nat} {A : Around} (r : Room k A) : A.units < cLine := by have := r.un; omega

/-! ### argument lists and displays -/
def tNil : TA := fun _ H Q => Q [] H
def tCons (ta : TE) (tr : TA) : TA := fun σ H Q => ta σ H fun x H1 => tr σ H1 fun xs H2 => Q (x :: xs) H2
section
variable {X : Cx} {e : Expr} {es : List Expr} {te : TE} {t : TA} {pos : Pos}
theorem pa_nil : PA X [] tNil := fun _ _ _ _ H Q I h => Calls.spliced_nil ⟨[], H, I, .nil, h⟩
theorem pa_cons (ha : PE X e te) (hr : PA X es t) (hs : starEach (e :: es) X.env = (false, eval e X.env) :: starEach es X.env := by rfl) : PA X (e :: es) (tCons te t) := by
  intro pos pins s σ H Q I h
  rw [hs]
  show wpAny _ _ (spliced ((false, eval e X.env) :: backTo pos (starEach es X.env))) _ _ s
  refine Calls.spliced_cons (thn (ha pins s σ H _ I h) fun u s1 ⟨x, H1, I1, r1, q1⟩ => ?_)
  exact thn (hr pos pins s1 σ H1 _ I1 q1) fun us s2 ⟨xs, H2, I2, r2, q2⟩ => ⟨x :: xs, H2, I2, .cons r1 r2, q2⟩

def tTup (t : TA) : TE := fun σ H Q => t σ H fun xs H1 => xs.length ≤ sizeLine ∧ ∀ p, H1 p = none → Q (.ref p) (upd H1 p (.tup xs))
def tLst (t : TA) : TE := fun σ H Q => t σ H fun xs H1 => xs.length ≤ sizeLine ∧ ∀ p, H1 p = none → Q (.ref p) (upd H1 p (.lst xs))
theorem pe_tup {x1} (h : PA X es t) : PE X (.Tuple es x1 pos) (tTup t) := by
  intro pins s σ H Q I hq
  refine wpAny_Tuple_spliced (thn (h pos pins s σ H _ I hq) fun us s1 ⟨xs, H1, I1, r, z, q⟩ => ⟨by rw [← r.length]; exact z, ?_⟩)
  have hf : H1 s1.heap.objs.size = none := I1.hok.fresh (Nat.le_refl _)
  refine ⟨.ref s1.heap.objs.size, upd H1 s1.heap.objs.size (.tup xs), I1.laid (t' := s1.toks) (fun b u e => Heap.get?_push_of_some _ e) (Nat.le_refl _) ?_, rfl, q _ hf⟩
  exact ⟨z, us, r, ⟨_, Heap.get?_push_size _ rfl, rfl, _, rfl⟩⟩
theorem pe_lst (h : PA X es t) : PE X (.List es pos) (tLst t) := by
  intro pins s σ H Q I hq
  refine wpAny_List_spliced (thn (h pos pins s σ H _ I hq) fun us s1 ⟨xs, H1, I1, r, z, q⟩ => ⟨by rw [← r.length]; exact z, ?_⟩)
  have hf : H1 s1.heap.objs.size = none := I1.hok.fresh (Nat.le_refl _)
  refine ⟨.ref s1.heap.objs.size, upd H1 s1.heap.objs.size (.lst xs), I1.laid (t' := s1.toks) (fun b u e => Heap.get?_push_of_some _ e) (Nat.le_refl _) ?_, rfl, q _ hf⟩
  exact ⟨z, us, 0, r, Heap.get?_push_size _ rfl⟩
end

/-! ### what a def promises -/
abbrev Sp := List V → Hp → VK → XK → Prop
abbrev CXT := List Env → Hp → Shared → XK → Value → Shared → Prop

structure Env0 (P : Program) (w : World) (K : PySem.W.Frag) (mg : Str → Option Value) (base : Heap) (A : Around) (outer : List Env) (s : Shared) (H : Hp) : Prop where
  frames : A.frames = some outer
  mod : Mod K mg base
  bs : ∀ b o, base.get? b = some o → s.heap.get? b = some o ∧ H b = none
  bsz : base.objs.size ≤ s.heap.objs.size
  funs : s.heap.FunFrames base outer
  frf : ∀ b ∈ frs outer, H b = none
  hok : HOk P w H s.heap
  bare : AllBare s.gens
def CE (outer : List Env) (P : Program) (w : World) (H : Hp) (s : Shared) (Q : VK) (u : Value) (s' : Shared) : Prop :=
  ∃ v H', s'.os = s.os ∧ AllBare s'.gens ∧ Un (frs outer) [] H H' s.heap s'.heap ∧ HOk P w H' s'.heap ∧ RelV v u ∧ Q v H'
def CR (CX : CXT) (outer : List Env) (P : Program) (w : World) (H : Hp) (s : Shared) (Q : VK) (E : XK) (r : Result) (s' : Shared) : Prop :=
  match r with
  | .ok (.ret u) => CE outer P w H s Q u s'
  | .ok _ => False
  | .error e => CX outer H s E e s'
structure FnOk (P : Program) (w : World) (K : PySem.W.Frag) (mg : Str → Option Value) (base : Heap) (CX : CXT) (k : Nat) (f : Addr) (fd : FuncData) (ps : List Str) (sp : Sp) : Prop where
  len : ∀ vs H Q E, sp vs H Q E → vs.length = ps.length
  run : ∀ (A : Around) (outer : List Env) (s : Shared) (H : Hp) (args : Args) (us : List Value) (vs : List V) (Q : VK) (E : XK), Room k A → Env0 P w K mg base A outer s H → BindsTo s fd args (ps.zip us) → Vals vs us → sp vs H Q E →
    codeAny (model P w) A (.call (.ref f) args) (CR CX outer P w H s Q E) s
section
variable {X : Cx} {pins : List (Addr × Obj)} {σ : St} {H : Hp} {s s' : Shared}
theorem Inv.env0 (I : Inv X pins σ H s) : Env0 X.prog X.w X.K X.mg X.base X.A X.stack s H :=
  ⟨I.ok.frames, I.ok.mod, I.bs, Nat.le_trans I.ok.bsz I.sz, I.stack, I.stkFree, I.hok, I.bare⟩
theorem Inv.after {Q : VK} {u : Value} (I : Inv X pins σ H s) (h : CE X.stack X.prog X.w H s Q u s') : EP X pins σ Q u s' := by
  obtain ⟨v, H', os, bare, un, hok, r, q⟩ := h
  obtain ⟨hh, g, d, t, os'⟩ := s'
  obtain rfl : os' = s.os := os
  exact ⟨v, H', I.call (h' := hh) (g' := g) (d' := d) (t' := t) (ch := []) un hok bare (fun b z => absurd z (by simp)), r, q⟩
end

/-! ### calls -/
def tCall (sp : Sp) (dvs : List V) (E : XK) (t : TA) : TE := fun σ H Q => t σ H fun vs H1 => sp (vs ++ dvs) H1 Q E
def Binds (K : PySem.W.Frag) (fd : FuncData) (ps : List Str) (ds : List Value) : Prop :=
  ∀ (s : Shared) (us : List Value), K.In s.heap → (us ++ ds).length = ps.length → BindsTo s fd ⟨us, []⟩ (ps.zip (us ++ ds))
theorem Binds.all {K : PySem.W.Frag} {fd : FuncData} {ps : List Str} (h : ∀ us : List Value, us.length = ps.length → bindArgs fd ⟨us, []⟩ = pure (ps.zip us)) : Binds K fd ps [] := fun s us _ hl => by
  rw [List.append_nil] at hl ⊢
  exact .of_eq (h us hl)

def Passes (CX : CXT) (X : Cx) (E : XK) : Prop := ∀ (pins : List (Addr × Obj)) (σ : St) (H : Hp) (s : Shared) (e : Value) (s' : Shared), Inv X pins σ H s → CX X.stack H s E e s' → X.xe e s'

section
variable {X : Cx} {CX : CXT} {k : Nat} {f C : Addr} {fd : FuncData} {ps : List Str} {sp : Sp} {dvs : List V} {ds : List Value} {E : XK} {x m : Str} {p pos apos : Pos} {e o : Expr} {es : List Expr} {ta : TE} {t : TA}

theorem run_fn {pins : List (Addr × Obj)} {σ : St} {H : Hp} {s : Shared} {Q : VK} {us : List Value} {vs : List V} (F : FnOk X.prog X.w X.K X.mg X.base CX k f fd ps sp) (hr : Room k X.A) (hb : Binds X.K fd ps ds) (hd : Vals dvs ds) (hx : Passes CX X E)
    (I : Inv X pins σ H s) (r : Vals vs us) (h : sp (vs ++ dvs) H Q E) : wpAny (model X.prog X.w) X.A (call (.ref f) us) (EP X pins σ Q) X.xe s := by
  have r2 : Vals (vs ++ dvs) (us ++ ds) := r.append hd
  have hl : (us ++ ds).length = ps.length := by rw [← r2.length]; exact F.len _ _ _ _ h
  refine wpAny_call (codeAny_mono (F.run X.A X.stack s H ⟨us, []⟩ (us ++ ds) (vs ++ dvs) Q E hr I.env0 (hb s us I.kIn hl) r2 h) fun r s' hq => ?_)
  cases r with
  | error e => exact hx pins σ H s e s' I hq
  | ok fl =>
    cases fl with
    | ret u => exact I.after hq
    | next => exact False.elim hq
    | brk => exact False.elim hq
    | cont => exact False.elim hq

theorem pe_call (F : FnOk X.prog X.w X.K X.mg X.base CX k f fd ps sp) (hr : Room k X.A) (hg : Gl X x) (hm : X.mg x = some (.ref f)) (hk : PySem.W.keepIn X.K (.ref f) = true) (hb : Binds X.K fd ps ds) (hd : Vals dvs ds) (hx : Passes CX X E)
    (ha : PA X (e :: es) t) (hdb : (x == ("__debug__" : Str)) = false := by decide) (he : starEach (e :: es) X.env = (false, eval e X.env) :: starEach es X.env := by rfl) (hpl : (backTo pos (starEach es X.env)).any (·.1) = false := by rfl) :
    PE X (.Call (.Name x p) (e :: es) [] pos) (tCall sp dvs E t) := by
  intro pins s σ H Q I h
  refine wpAny_Call_Name_kw (ld_glob I hg hm ?_ hdb)
  refine PySem.W.callWith_K (h₀ := X.base) I.ok.mod.kin hk (thn (ha pos pins s σ H _ I h) fun us s1 ⟨vs, H1, I1, r, q⟩ => ⟨I1.kIn, ?_⟩) he hpl
  exact run_fn F hr hb hd hx I1 r q
end

/-! ### keywords -/
section
variable {X : Cx} {CX : CXT} {k : Nat} {f C : Addr} {fd : FuncData} {ps ks : List Str} {sp : Sp} {E : XK} {x m : Str} {p pos apos kpos : Pos} {e o : Expr} {es : List Expr} {kws : List Keyword} {te ta : TE} {t tk : TA} {nm : Option Str}
variable {g : List Value → List Value → List Value} {gV : List V → List V → List V}
end

/-! ### a def's body keeps its promise -/
structure FnScope (N P : List Str) (sc : Scope) : Prop where
  kind : sc.kind = .function
  co : sc.isCoroutine = false
  gen : sc.isGenerator = false
  nd : N.Nodup
  pre : N.take P.length = P
  par : ∀ x ∈ P, sc.names.lookup x = some .local ∨ sc.names.lookup x = some .cell
  nofree : ∀ y ∈ sc.names, y.2 ≠ .free

theorem bindL_out {kindOf : Str → Option NameKind} {x : Str} : ∀ {binds : List (Str × Value)} {m : Str → Option Value}, (∀ v, (x, v) ∉ binds) → bindL kindOf binds m x = m x
  | [], _, _ => rfl
  | (n, v) :: r, m, h => by
    unfold bindL
    rw [bindL_out fun w hw => h w (List.mem_cons_of_mem _ hw)]
    split
    · have : x ≠ n := by rintro rfl; exact h v List.mem_cons_self
      simp [this]
    · rfl
theorem bindC_out {kindOf : Str → Option NameKind} {x : Str} : ∀ {binds : List (Str × Value)} {m : Str → Option Value}, (∀ v, (x, v) ∉ binds) → bindC kindOf binds m x = m x
  | [], _, _ => rfl
  | (n, v) :: r, m, h => by
    unfold bindC
    rw [bindC_out fun w hw => h w (List.mem_cons_of_mem _ hw)]
    split
    · rfl
    · have : x ≠ n := by rintro rfl; exact h v List.mem_cons_self
      simp [this]
theorem bindL_get {kindOf : Str → Option NameKind} {x : Str} {v : Value} : ∀ {P : List Str} {vs : List Value} {i : Nat} {m : Str → Option Value}, P.Nodup → P[i]? = some x → vs[i]? = some v → kindOf x = some .local →
    bindL kindOf (P.zip vs) m x = some v
  | [], _, _, _, _, h, _, _ => by simp at h
  | _ :: _, [], _, _, _, _, h, _ => by simp at h
  | p :: P, w :: vs, 0, m, nd, h1, h2, hk => by
    simp at h1 h2; subst h1; subst h2
    show bindL kindOf ((p, w) :: P.zip vs) m p = _
    unfold bindL
    rw [bindL_out fun v hv => (List.nodup_cons.mp nd).1 (List.of_mem_zip hv).1, if_pos hk]
    simp
  | p :: P, w :: vs, i + 1, m, nd, h1, h2, hk => by
    show bindL kindOf ((p, w) :: P.zip vs) m x = _
    unfold bindL
    exact bindL_get (i := i) (List.nodup_cons.mp nd).2 (by simpa using h1) (by simpa using h2) hk
theorem bindC_get {kindOf : Str → Option NameKind} {x : Str} {v : Value} : ∀ {P : List Str} {vs : List Value} {i : Nat} {m : Str → Option Value}, P.Nodup → P[i]? = some x → vs[i]? = some v → kindOf x ≠ some .local →
    bindC kindOf (P.zip vs) m x = some v
  | [], _, _, _, _, h, _, _ => by simp at h
  | _ :: _, [], _, _, _, _, h, _ => by simp at h
  | p :: P, w :: vs, 0, m, nd, h1, h2, hk => by
    simp at h1 h2; subst h1; subst h2
    show bindC kindOf ((p, w) :: P.zip vs) m p = _
    unfold bindC
    rw [bindC_out fun v hv => (List.nodup_cons.mp nd).1 (List.of_mem_zip hv).1, if_neg hk]
    simp
  | p :: P, w :: vs, i + 1, m, nd, h1, h2, hk => by
    show bindC kindOf ((p, w) :: P.zip vs) m x = _
    unfold bindC
    exact bindC_get (i := i) (List.nodup_cons.mp nd).2 (by simpa using h1) (by simpa using h2) hk

def start (N : List Str) (vs : List V) : St := vs.map some ++ List.replicate (N.length - vs.length) none

def cxOf (CX : CXT) (P : Program) (w : World) (K : PySem.W.Frag) (mg : Str → Option Value) (base : Heap) (N : List Str) (qual : Str) (scope : Scope) (f : Addr) (cd : Value) (A : Around) (outer : List Env) (s : Shared) (H : Hp) (E : XK) : Cx where
  prog := P
  w := w
  K := K
  mg := mg
  base := base
  A := A.deeper (envOfC qual scope s.heap.objs.size f cd)
  N := N
  s₀ := s
  H₀ := H
  env := envOfC qual scope s.heap.objs.size f cd
  outer := outer
  stack := envOfC qual scope s.heap.objs.size f cd :: outer
  ex := []
  calm := true
  fn := fun _ => true
  pn := []
  xe := fun e s' => wpAny (model P w) (A.deeper (envOfC qual scope s.heap.objs.size f cd)) (leaving (envOfC qual scope s.heap.objs.size f cd) e) (fun _ s'' => CX outer H s E e s'') (fun e' s'' => CX outer H s E e' s'') s'

theorem cell_has {sc : Scope} {n : Nat} {x : Str} (h : sc.names.lookup x = some .cell) : ∃ c, (cellsFrom n sc.names []).lookup x = some c := by
  have q := PySem.W.cellsFrom_some sc.names n [] (.inl h)
  exact Option.isSome_iff_exists.mp q

theorem inv_start {CX : CXT} {P : Program} {w : World} {K : PySem.W.Frag} {mg : Str → Option Value} {base : Heap} {N ps : List Str} {qual : Str} {scope : Scope} {f : Addr} {cd : Value} {A : Around} {outer : List Env} {s s1 : Shared} {H : Hp} {E : XK} {us : List Value} {vs : List V}
    (S : FnScope N ps scope) (hd : A.handled = none) (e0 : Env0 P w K mg base A outer s H) (hl : vs.length = ps.length) (r : Vals vs us)
    (x : InCallC s s.heap.objs.size (bindL (envOfC qual scope s.heap.objs.size f cd).kindOf (ps.zip us) fun _ => none) (cellsFrom (s.heap.objs.size + 1) scope.names []) (bindC (envOfC qual scope s.heap.objs.size f cd).kindOf (ps.zip us) fun _ => none) s1) :
    Inv (cxOf CX P w K mg base N qual scope f cd A outer s H E) [] (start N vs) H s1 := by
  have hpl : ps.length ≤ N.length := by have := congrArg List.length S.pre; rw [List.length_take] at this; omega
  obtain ⟨h1, tk, rfl, hk⟩ := x.done
  have noA : ∀ b : Addr, b ∉ (cxOf CX P w K mg base N qual scope f cd A outer s H E).ex := fun b z => absurd (show b ∈ ([] : List Addr) from z) (by simp)
  refine ⟨⟨e0.mod, S.kind, rfl, rfl, Nat.le_refl _, fun y z c h1 h2 => ?_, fun y hy => ?_, fun y c _ h => ?_, fun _ => hd, Around.frames_deeper e0.frames, .inr ⟨rfl, rfl⟩, fun b z => absurd z (noA b), e0.bs, e0.bsz, fun b _ _ => noA b, fun b z => absurd z (noA b), e0.funs, e0.frf⟩,
    rfl, e0.bare, Un.kept hk, ⟨_, x.toInCall.ns, fun i y v h1 h2 h3 => ?_⟩, fun y c h => ⟨_, x.cell y c h⟩, e0.hok.fresh (Nat.le_refl _), fun y c h => ?_, fun p hp => absurd (show p ∈ ([] : List (Addr × Obj)) from hp) (by simp), e0.hok.kept hk, ?_⟩
  · exact name_of_addr x.apart (PySem.mem_of_lookup h1) (PySem.mem_of_lookup h2)
  · have hy : scope.names.lookup y = some .cell ∨ scope.names.lookup y = some .free := hy
    rcases hy with hy | hy
    · exact cell_has hy
    · exact absurd rfl (S.nofree _ (PySem.mem_of_lookup hy))
  · exact Nat.le_of_lt (x.above y c (PySem.mem_of_lookup h))
  · have hi : i < vs.length := by
      unfold start at h2
      by_cases hi : i < vs.length
      · exact hi
      · rw [List.getElem?_append_right (by simpa using hi)] at h2
        rw [List.getElem?_replicate] at h2
        split at h2 <;> cases h2
    have ha : vs[i]? = some v := by
      unfold start at h2
      rw [List.getElem?_append_left (by simpa using hi), List.getElem?_map] at h2
      cases e : vs[i]? with
      | none => rw [e] at h2; cases h2
      | some a => rw [e] at h2; cases h2; rfl
    obtain ⟨u, hu, rv⟩ := r.get ha
    have hp : ps[i]? = some y := by
      rw [← S.pre, List.getElem?_take_of_lt (by omega)]; exact h1
    have ndP : ps.Nodup := by rw [← S.pre]; exact S.nd.sublist (List.take_sublist _ _)
    refine ⟨u, rv, ?_⟩
    rcases S.par y (List.mem_of_getElem? hp) with k | k
    · exact .inl ⟨k, bindL_get ndP hp hu k⟩
    · obtain ⟨c, e⟩ := cell_has (n := s.heap.objs.size + 1) k
      refine .inr ⟨.inl k, c, e, ?_⟩
      have q := x.cell y c e
      rw [bindC_get ndP hp hu (by show scope.names.lookup y ≠ _; rw [k]; decide)] at q
      exact q
  · exact e0.hok.fresh (Nat.le_of_lt (x.above y c (PySem.mem_of_lookup h)))
  · unfold start
    show _ = N.length
    rw [List.length_append, List.length_map, List.length_replicate]
    omega

theorem fn_of {CX : CXT} {P : Program} {w : World} {K : PySem.W.Frag} {mg : Str → Option Value} {base : Heap} {k : Nat} {f : Addr} {name qual : Str} {params : Arguments} {body : List Stmt} {scope : Scope} {dV kV doc pm cdv ct oc : Value} {an od : Option Addr}
    {osl : Array (Option Value)} {N ps : List Str} {sp : Sp} (lk : K.lookup f = some ⟨oc, od, .func (PySem.W.fnOf name qual params body scope dV kV doc pm an cdv ct), osl⟩) (hcd : PySem.W.codeIn K cdv qual = true) (S : FnScope N ps scope)
    (len : ∀ vs H Q E, sp vs H Q E → vs.length = ps.length)
    (hbody : ∀ (A : Around) (outer : List Env) (s : Shared) (H : Hp) (vs : List V) (Q : VK) (E : XK), Room k (A.deeper (envOfC qual scope s.heap.objs.size f cdv)) → sp vs H Q E →
      ∃ t, PSs (cxOf CX P w K mg base N qual scope f cdv A outer s H E) body t ∧ t { nx := fun _ H' => Q .non H', rt := Q } (start N vs) H) :
    FnOk P w K mg base CX (k + 1) f (PySem.W.fnOf name qual params body scope dV kV doc pm an cdv ct) ps sp := by
  refine ⟨len, fun A outer s H args us vs Q E hr e0 hb r hsp => ?_⟩
  have hl := len _ _ _ _ hsp
  have KX : K.In s.heap := e0.mod.kin.keeps fun b o e => (e0.bs b o e).1
  have lim : s.heap.NoLimit := e0.mod.nolimit.keeps fun b o e => (e0.bs b o e).1
  have hkind : ∀ y ∈ ps.zip us, scope.names.lookup y.1 = some .local ∨ (scope.names.lookup y.1 = some .cell ∧ ((cellsFrom (s.heap.objs.size + 1) scope.names []).lookup y.1).isSome = true) := fun ⟨n, v⟩ hy => by
    rcases S.par n (List.of_mem_zip hy).1 with q | q
    · exact .inl q
    · exact .inr ⟨q, PySem.W.cellsFrom_some _ _ _ (.inl q)⟩
  refine codeAny_call_function hr.depth (KX _ _ lk) rfl S.co S.gen rfl (PySem.W.codeRec_of KX hcd) (hb _ _ _ _ ?_)
  refine wpAny_newFunctionEnv_cells S.kind hkind fun env he s1 x => ?_
  subst he
  refine ⟨lim.keeps x.toInCall.keep, codeAny_func ?_⟩
  obtain ⟨t, ht, hq⟩ := hbody A outer s H vs Q E (hr.deeper _) hsp
  have I : Inv (cxOf CX P w K mg base N qual scope f cdv A outer s H E) [] (start N vs) H s1 := inv_start S hr.hd e0 hl r x
  refine wpAny_mono (ht [] s1 (start N vs) H _ I hq) (fun fl s' hs => ?_) fun e s' hs => hs
  have fin : ∀ {σ' : St} {H' : Hp} {v : V} {u : Value}, Inv (cxOf CX P w K mg base N qual scope f cdv A outer s H E) [] σ' H' s' → RelV v u → Q v H' → CE outer P w H s Q u s' :=
    fun {σ' H' v u} J rv q => ⟨v, H', J.os, J.bare, J.base, J.hok, rv, q⟩
  cases fl with
  | ret u =>
    obtain ⟨v, σ', H', J, rv, q⟩ := hs
    exact fin J rv q
  | next =>
    obtain ⟨σ', H', J, q⟩ := hs
    exact fin (v := V.non) (u := Value.none) J rfl q
  | brk =>
    obtain ⟨_, _, _, q⟩ := hs
    exact False.elim q
  | cont =>
    obtain ⟨_, _, _, q⟩ := hs
    exact False.elim q
end L2

namespace L2
open PySem PySem.Spec PyProof.Rows
section
variable {X : Cx} {x : Str} {p pos : Pos} {e : Expr} {es : List Expr} {t : TA} {id T : String} {r : List V → Hp → VK → Prop}

def tCB (r : List V → Hp → VK → Prop) (t : TA) : TE := fun σ H Q => t σ H fun vs H1 => r vs H1 Q
theorem pe_callB (hc : CallR X (.builtin id) r) (hg : Gl X x) (hm : X.mg x = none) (hv : bootBuiltins x = some (.builtin id)) (ha : PA X (e :: es) t) (hn : x ≠ "__name__" := by decide) (hdb : (x == ("__debug__" : Str)) = false := by decide)
    (he : starEach (e :: es) X.env = (false, eval e X.env) :: starEach es X.env := by rfl) (hpl : (backTo pos (starEach es X.env)).any (·.1) = false := by rfl) : PE X (.Call (.Name x p) (e :: es) [] pos) (tCB r t) := by
  intro pins s σ H Q I h
  refine wpAny_Call_Name_kw (ld_blt I hg hm hv ?_ hn hdb)
  exact PyProof.Rows.callWith_builtin1 (thn (ha pos pins s σ H _ I h) fun us s1 ⟨vs, H1, I1, r1, q1⟩ => hc pins s1 σ H1 vs us Q I1 r1 q1) he hpl
end
end L2

namespace HT
open PySem PyProof.Rows

section
open PySem.SeqAt
open PySem.AutoSeq1 (wpAny_loadPart')
open PySem.MeetsSeq PySem.MeetsSeq2 PySem.MeetsSeq3

end

section
variable {prog : Program} {w : World} {A : Around} {E : Value → Shared → Prop} {s : Shared}

/-! ### t[a:b], not the whole -/
def sIx (n d : Nat) : Option Int → Nat
  | none => d
  | some v => if v < 0 then (v + (n : Int)).toNat else min v.toNat n
theorem sIx_nat (n d k : Nat) : sIx n d (some (k : Int)) = min k n := by
  show (if (k : Int) < 0 then ((k : Int) + (n : Int)).toNat else min (k : Int).toNat n) = min k n
  rw [if_neg (by omega), Int.toNat_natCast]
end
end HT

namespace L2
open PySem PySem.Spec PyProof.Rows

/-! ### the parts of a slice -/
abbrev TO := St → Hp → (Option Int → Hp → Prop) → Prop
def PO (X : Cx) (e : Option Expr) (t : TO) : Prop :=
  ∀ (pins : List (Addr × Obj)) (s : Shared) (σ : St) (H : Hp) (Q : Option Int → Hp → Prop), Inv X pins σ H s → t σ H Q →
    wpAny (model X.prog X.w) X.A (evalPart e X.env) (fun u s' => ∃ o H', Inv X pins σ H' s' ∧ IsPart u o ∧ Q o H') X.xe s
def tPart (t : TE) : TO := fun σ H Q => t σ H fun x H1 => ∃ i, x = .int i ∧ Q (some i) H1

section
variable {X : Cx} {e : Expr} {te : TE} {lo hi : Option Expr} {tl th : TO} {pos p2 : Pos}

theorem po_some (h : PE X e te) : PO X (some e) (tPart te) := by
  intro pins s σ H Q I hw
  rw [evalPart_some]
  refine thn (h pins s σ H _ I hw) fun u s1 ⟨x, H1, I1, r1, q1⟩ => ?_
  obtain ⟨i, rfl, q⟩ := q1
  obtain ⟨t, rfl⟩ := r1
  exact ⟨some i, H1, I1, .int i t, q⟩

def SlR (X : Cx) (r : V → Option Int → Option Int → Hp → VK → Prop) : Prop :=
  ∀ (pins : List (Addr × Obj)) (s : Shared) (σ : St) (H : Hp) (x : V) (v vl vu : Value) (lo hi : Option Int) (sl : Addr) (Q : VK), Inv X pins σ H s → RelV x v → s.heap.IsSliceOf sl vl vu .none → IsPart vl lo → IsPart vu hi → r x lo hi H Q →
    ∃ T id, typeLookup (.type T) "__getitem__" = pure (some (.builtin id)) ∧ s.TypeIs v T ∧ wpAny (model X.prog X.w) X.A (getItem v (.ref sl)) (EP X pins σ Q) X.xe s
def tSl (r : V → Option Int → Option Int → Hp → VK → Prop) (te : TE) (tl th : TO) : TE := fun σ H Q => te σ H fun x H1 => tl σ H1 fun l H2 => th σ H2 fun u H3 => r x l u H3 Q
theorem pe_slice {r : V → Option Int → Option Int → Hp → VK → Prop} (hr : SlR X r) (he : PE X e te) (hl : PO X lo tl) (hu : PO X hi th) : PE X (.Subscript e (.Slice lo hi none p2) pos) (tSl r te tl th) := by
  intro pins s σ H Q I h
  refine Subscript_ (thn (he pins s σ H _ I h) fun v s1 ⟨x, H1, I1, r1, q1⟩ => ?_)
  refine wpAny_Slice (thn (hl pins s1 σ H1 _ I1 q1) fun vl s2 ⟨l, H2, I2, pl, q2⟩ => thn (hu pins s2 σ H2 _ I2 q2) fun vu s3 ⟨u, H3, I3, pu, q3⟩ => ?_)
  rw [evalPart_none]
  refine wpAny_pure ?_
  have I4 : Inv X pins σ H3 { s3 with heap := s3.heap.push { cls := .type "slice", data := .fields #[vl, vu, .none] } } := I3.kept (t' := s3.toks) fun b ob q => Heap.get?_push_of_some _ q
  obtain ⟨T, id, hT, ht, hg⟩ := hr pins { s3 with heap := s3.heap.push { cls := .type "slice", data := .fields #[vl, vu, .none] } } σ H3 x v vl vu l u s3.heap.objs.size Q I4 r1 (Heap.IsSliceOf.new ..) pl pu q3
  show wpAny (model X.prog X.w) X.A (subscriptTail e (.Slice lo hi none p2) v (.ref s3.heap.objs.size)) (EP X pins σ Q) X.xe { s3 with heap := s3.heap.push { cls := .type "slice", data := .fields #[vl, vu, .none] } }
  exact tail_any (ops := [.ref s3.heap.objs.size, v]) ht hT hg (by with_unfolding_all rfl)

def cutV (xs : List V) (lo hi : Option Int) : List V := (xs.drop (HT.sIx xs.length 0 lo)).take (HT.sIx xs.length xs.length hi - HT.sIx xs.length 0 lo)
theorem cutV_length (xs : List V) (lo hi : Option Int) : (cutV xs lo hi).length ≤ xs.length := by
  unfold cutV
  rw [List.length_take, List.length_drop]
  omega
/-! ### t < u, t + u -/
end
end L2

namespace L2
open PySem PySem.Spec PyProof.Rows

/-! ### places -/
def ixN (n : Nat) (i : Int) : Option Nat := if 0 ≤ i then (if i < n then some i.toNat else none) else if -(n : Int) ≤ i then some (i + n).toNat else none
def atI {α : Type} (xs : List α) (i : Int) : Option α := (ixN xs.length i).bind fun j => xs[j]?
theorem ixN_seq {n : Nat} {i : Int} {j : Nat} (h : ixN n i = some j) : seqIndex? i n = some j ∧ j < n ∧ -(n : Int) ≤ i ∧ i < n := by
  unfold ixN at h
  by_cases h0 : 0 ≤ i
  · rw [if_pos h0] at h
    by_cases h1 : i < n
    · rw [if_pos h1] at h
      have e : i.toNat = j := Option.some.inj h
      exact ⟨by rw [seqIndex_of h0 h1, e], by omega, by omega, h1⟩
    · rw [if_neg h1] at h; cases h
  · rw [if_neg h0] at h
    by_cases h1 : -(n : Int) ≤ i
    · rw [if_pos h1] at h
      have e : (i + n).toNat = j := Option.some.inj h
      exact ⟨by rw [seqIndex_neg (by omega) h1, e], by omega, h1, by omega⟩
    · rw [if_neg h1] at h; cases h
theorem atI_get {α : Type} {xs : List α} {i : Int} {v : α} (h : atI xs i = some v) : ∃ j, seqIndex? i xs.length = some j ∧ xs[j]? = some v ∧ j < xs.length ∧ -(xs.length : Int) ≤ i ∧ i < xs.length := by
  unfold atI at h
  cases e : ixN xs.length i with
  | none => rw [e] at h; cases h
  | some j =>
    rw [e] at h
    obtain ⟨h1, h2, h3, h4⟩ := ixN_seq e
    exact ⟨j, h1, h, h2, h3, h4⟩
theorem atI_nat {α : Type} {xs : List α} {j : Nat} {v : α} (h : xs[j]? = some v) : atI xs (j : Int) = some v := by
  have hj : j < xs.length := (List.getElem?_eq_some_iff.mp h).1
  have e : ixN xs.length (j : Int) = some j := by
    unfold ixN
    rw [if_pos (by omega), if_pos (by omega)]; simp
  unfold atI; rw [e]; exact h
/-! ### what may be subscripted -/
def PlainIx (b : Expr) : Prop := ∀ o i, subscripted b false o i = operate [o, i] (getItem o i)
def IxR (X : Cx) (r : R2) : Prop :=
  ∀ (value slice : Expr) (pins : List (Addr × Obj)) (s : Shared) (σ : St) (H : Hp) (x y : V) (v u : Value) (Q : VK), Inv X pins σ H s → RelV x v → RelV y u → r x y H Q →
    subscripted slice false v u = operate [v, u] (getItem v u) → wpAny (model X.prog X.w) X.A (subscriptTail value slice v u) (EP X pins σ Q) X.xe s
def MtR (X : Cx) (id : String) (r : V → List V → Hp → VK → Prop) : Prop :=
  ∀ (pins : List (Addr × Obj)) (s : Shared) (σ : St) (H : Hp) (x : V) (xs : List V) (v : Value) (us : List Value) (Q : VK), Inv X pins σ H s → RelV x v → Vals xs us → r x xs H Q →
    wpAny (model X.prog X.w) X.A (call (.builtin id) (v :: us)) (EP X pins σ Q) X.xe s
section
variable {X : Cx} {a b : Expr} {ta tb : TE} {pos : Pos}
theorem pe_ix {r : R2} (hr : IxR X r) (ha : PE X a ta) (hb : PE X b tb) (hs : PlainIx b) : PE X (.Subscript a b pos) (tOp r ta tb) := by
  intro pins s σ H Q I h
  exact Subscript_ (binT ha hb I h fun v u s2 x y H2 I2 rx ry q => hr a b pins s2 σ H2 x y v u Q I2 rx ry q (hs _ _))

def rIxL (K : PySem.W.Frag) : R2 := fun x y H Q => ∃ p xs i v, x = .ref p ∧ y = .int i ∧ SqL K H p xs ∧ atI xs i = some v ∧ Q v H
def rIxT (K : PySem.W.Frag) : R2 := fun x y H Q => ∃ p xs i v, x = .ref p ∧ y = .int i ∧ SqT K H p xs ∧ atI xs i = some v ∧ Q v H
def rIxS : R2 := fun x y H Q => ∃ z i c, x = .str z ∧ y = .int i ∧ z.length ≤ sizeLine ∧ atI z.cps.toList i = some c ∧ Q (.str ⟨#[c]⟩) H
theorem ix_list : IxR X (rIxL X.K) := by
  intro value slice pins s σ H x y v u Q I rx ry h hs
  obtain ⟨p, xs, i, z, rfl, rfl, hq, he, q⟩ := h
  cases rx
  obtain ⟨t, rfl⟩ := ry
  obtain ⟨its, r, pl, hz⟩ := I.list hq
  obtain ⟨j, h1, h2, h3, h4, h5⟩ := atI_get he
  obtain ⟨w, ew, rw'⟩ := r.get h2
  have hl := r.length
  have hn := line63
  have fin : EP X pins σ Q w s := ⟨z, H, I, rw', q⟩
  by_cases h0 : 0 ≤ i
  · have hj : i.toNat = j := by
      rw [seqIndex_of h0 h5] at h1
      exact Option.some.inj h1
    exact item_listR pl.isList h0 (by omega) (by rw [hj]; simpa using ew) fin hs
  · have hj : (i + (its.toArray.size : Int)).toNat = j := by
      rw [seqIndex_neg (by omega) h4] at h1
      rw [List.size_toArray, ← hl]
      exact Option.some.inj h1
    exact subscriptTail_builtinR (x := w) pl.isList.typeIs slot_list_getitem.lookup
      (wpAny_getItem_list_neg (Q := fun r s' => r = w ∧ EP X pins σ Q r s') pl.isList (by omega) (by rw [List.size_toArray] <;> omega) (by omega) (by rw [hj]; simpa using ew) ⟨rfl, fin⟩) hs
theorem ix_tup : IxR X (rIxT X.K) := by
  intro value slice pins s σ H x y v u Q I rx ry h hs
  obtain ⟨p, xs, i, z, rfl, rfl, hq, he, q⟩ := h
  cases rx
  obtain ⟨t, rfl⟩ := ry
  obtain ⟨its, r, pl, hz⟩ := I.tuple hq
  obtain ⟨j, h1, h2, h3, h4, h5⟩ := atI_get he
  obtain ⟨w, ew, rw'⟩ := r.get h2
  have hl := r.length
  have hn := line63
  have fin : EP X pins σ Q w s := ⟨z, H, I, rw', q⟩
  exact subscriptTail_builtinR (x := w) pl.typeIs slot_tuple_getitem.lookup
    (getItem_tuple (j := j) (Q := fun r s' => r = w ∧ EP X pins σ Q r s') pl (by omega) (by omega) (by rw [List.size_toArray, ← hl]; exact h1) (by simpa using ew) ⟨rfl, fin⟩) hs
theorem ix_str : IxR X rIxS := by
  intro value slice pins s σ H x y v u Q I rx ry h hs
  obtain ⟨z, i, c, rfl, rfl, hz, he, q⟩ := h
  obtain ⟨t, rfl⟩ := rx
  obtain ⟨t', rfl⟩ := ry
  obtain ⟨j, h1, h2, h3, h4, h5⟩ := atI_get he
  have hl : z.cps.toList.length = z.length := by simp [Str.length]
  rw [hl] at h1 h4 h5
  have hn := line63
  exact tail_any (typeIs_str s z t) slot_str_getitem.lookup (getItem_str (c := c) (by
    have e1 : decide (i < -(2 ^ 63 : Int)) = false := decide_eq_false (by omega)
    have e2 : decide (i ≥ 2 ^ 63) = false := decide_eq_false (by omega)
    rw [e1, e2, Bool.or_false]) (by rw [h1]; simpa using h2) ⟨.str ⟨#[c]⟩, H, I.tok _, ⟨_, rfl⟩, q⟩) hs
/-! ### xs[i] = v, any sign -/
/-! ### slices -/
theorem slice_bounds (lo hi : Option Int) (n : Nat) : (sliceBounds lo hi none n).1 = ((HT.sIx n 0 lo : Nat) : Int) ∧ (sliceBounds lo hi none n).2.1 = ((HT.sIx n n hi : Nat) : Int) ∧ (sliceBounds lo hi none n).2.2 = 1 := by
  refine ⟨?_, ?_, rfl⟩
  · cases lo with
    | none => simp [sliceBounds, HT.sIx]
    | some i =>
      simp only [sliceBounds, HT.sIx, Option.getD_none, show (1 : Int) > 0 by decide, if_true]
      by_cases h : i < 0
      · simp only [h, if_true] <;> omega
      · simp only [h, if_false] <;> omega
  · cases hi with
    | none => simp [sliceBounds, HT.sIx]
    | some i =>
      simp only [sliceBounds, HT.sIx, Option.getD_none, show (1 : Int) > 0 by decide, if_true]
      by_cases h : i < 0
      · simp only [h, if_true] <;> omega
      · simp only [h, if_false] <;> omega
theorem slicePick_cut (its : List Value) (lo hi : Option Int) : slicePick its.toArray lo hi none = ((its.drop (HT.sIx its.length 0 lo)).take (HT.sIx its.length its.length hi - HT.sIx its.length 0 lo)).toArray := by
  obtain ⟨h1, h2, h3⟩ := slice_bounds lo hi its.toArray.size
  unfold slicePick
  rw [h1, h2, h3]
  simp only [sliceRange_one, pick_run, List.size_toArray] <;> rfl
def rSlL (K : PySem.W.Frag) : V → Option Int → Option Int → Hp → VK → Prop := fun x lo hi H Q => ∃ a xs, x = .ref a ∧ SqL K H a xs ∧ ∀ p, H p = none → Q (.ref p) (upd H p (.lst (cutV xs lo hi)))
theorem sl_list : SlR X (rSlL X.K) := by
  intro pins s σ H x v vl vu lo hi sl Q I rx hs pl pu h
  obtain ⟨a, xs, rfl, hx, q⟩ := h
  cases rx
  obtain ⟨its, r, ht, hz⟩ := I.list hx
  have hlen := r.length
  refine ⟨"list", _, slot_list_getitem.lookup, ht.isList.typeIs, ?_⟩
  refine wpAny_getItem_list_slice ht.isList hs pl pu .none (by simp) ?_ (by rw [List.size_toArray] <;> omega)
  rw [slicePick_cut, ← hlen]
  refine ⟨.ref s.heap.objs.size, _, I.laid (t' := s.toks) (o := .lst (cutV xs lo hi)) (fun b ob q => Heap.get?_push_of_some _ q) (Nat.le_refl _) ?_, rfl, q _ (I.hok.fresh (Nat.le_refl _))⟩
  exact ⟨Nat.le_trans (cutV_length xs lo hi) hz, _, 0, (r.drop (HT.sIx xs.length 0 lo)).take (HT.sIx xs.length xs.length hi - HT.sIx xs.length 0 lo), Heap.get?_push_size _ rfl⟩

/-! ### in, not in: flat items -/
def flatV : V → Bool
  | .non => true
  | .bl _ => true
  | .int _ => true
  | .str _ => true
  | _ => false
def eqV : V → V → Bool
  | .non, .non => true
  | .bl a, .bl b => a == b
  | .bl a, .int b => (if a then 1 else 0) == b
  | .int a, .bl b => a == (if b then 1 else 0)
  | .int a, .int b => a == b
  | .str a, .str b => a == b
  | _, _ => false
theorem eqAt_V {A : Around} {s : Shared} {y x : V} {u v : Value} (ry : RelV y u) (rx : RelV x v) (fy : flatV y = true) (fx : flatV x = true) : SeqAt.EqAt A s u v (eqV y x) := by
  cases y with
  | non =>
    cases ry
    cases x with
    | non => cases rx; exact SeqAt.EqAt.same _
    | bl b => cases rx; exact SeqAt.EqAt.none_bool b
    | int b => obtain ⟨t, rfl⟩ := rx; exact SeqAt.EqAt.none_int b t
    | str b => obtain ⟨t, rfl⟩ := rx; exact SeqAt.EqAt.none_str b t
    | _ => exact absurd (show false = true from fx) Bool.false_ne_true
  | bl a =>
    cases ry
    cases x with
    | non => cases rx; exact SeqAt.EqAt.bool_none a
    | bl b => cases rx; exact SeqAt.EqAt.bool_bool a b
    | int b => obtain ⟨t, rfl⟩ := rx; exact SeqAt.EqAt.bool_int a b t
    | str b => obtain ⟨t, rfl⟩ := rx; exact SeqAt.EqAt.bool_str a b t
    | _ => exact absurd (show false = true from fx) Bool.false_ne_true
  | int a =>
    obtain ⟨t', rfl⟩ := ry
    cases x with
    | non => cases rx; exact SeqAt.EqAt.int_none a t'
    | bl b => cases rx; exact SeqAt.EqAt.int_bool a t' b
    | int b => obtain ⟨t, rfl⟩ := rx; exact SeqAt.EqAt.int_int a t' b t
    | str b => obtain ⟨t, rfl⟩ := rx; exact SeqAt.EqAt.int_str a t' b t
    | _ => exact absurd (show false = true from fx) Bool.false_ne_true
  | str a =>
    obtain ⟨t', rfl⟩ := ry
    cases x with
    | non => cases rx; exact SeqAt.EqAt.str_none a t'
    | bl b => cases rx; exact SeqAt.EqAt.str_bool a t' b
    | int b => obtain ⟨t, rfl⟩ := rx; exact SeqAt.EqAt.str_int a t' b t
    | str b => obtain ⟨t, rfl⟩ := rx; exact SeqAt.EqAt.str_str a t' b t
    | _ => exact absurd (show false = true from fx) Bool.false_ne_true
  | _ => exact absurd (show false = true from fy) Bool.false_ne_true
def eqU (x : V) (u : Value) : Bool := match u with
  | .none => eqV .non x
  | .bool b => eqV (.bl b) x
  | .int i _ => eqV (.int i) x
  | .str z _ => eqV (.str z) x
  | _ => false
theorem eqU_of {x y : V} {u : Value} (r : RelV y u) (f : flatV y = true) : eqU x u = eqV y x := by
  cases y with
  | non => cases r; rfl
  | bl b => cases r; rfl
  | int i => obtain ⟨t, rfl⟩ := r; rfl
  | str z => obtain ⟨t, rfl⟩ := r; rfl
  | _ => exact absurd (show false = true from f) Bool.false_ne_true
theorem any_eqU {x : V} : ∀ {xs : List V} {us : List Value}, Vals xs us → xs.all flatV = true → us.any (eqU x) = xs.any fun y => eqV y x
  | _, _, .nil, _ => rfl
  | y :: xs, u :: us, .cons r t, f => by
    rw [List.all_cons, Bool.and_eq_true] at f
    rw [List.any_cons, List.any_cons, eqU_of r f.1, any_eqU t f.2]
theorem mem_eqAt {A : Around} {s : Shared} {x : V} {v : Value} (rx : RelV x v) (fx : flatV x = true) : ∀ {xs : List V} {us : List Value}, Vals xs us → xs.all flatV = true → ∀ u ∈ us, SeqAt.EqAt A s u v (eqU x u)
  | _, _, .nil, _ => fun u hu => by cases hu
  | y :: xs, u :: us, .cons r t, f => fun u' hu => by
    rw [List.all_cons, Bool.and_eq_true] at f
    rcases List.mem_cons.mp hu with rfl | hu
    · rw [eqU_of r f.1]; exact eqAt_V r rx f.1 fx
    · exact mem_eqAt rx fx t f.2 u' hu
def inV (x : V) (xs : List V) : Bool := xs.any fun y => eqV y x
def rIn (K : PySem.W.Frag) (neg : Bool) : R2 := fun x y H Q => ∃ p xs, y = .ref p ∧ (SqL K H p xs ∨ SqT K H p xs) ∧ flatV x = true ∧ xs.all flatV = true ∧ Q (.bl (if neg then !inV x xs else inV x xs)) H
theorem op_in_seq : OpR X (compareOp .In) (rIn X.K false) := by
  intro pins s σ H x y v u Q I rx ry h
  obtain ⟨p, xs, rfl, hq, fx, fs, q⟩ := h
  cases ry
  rcases hq with hq | hq
  · obtain ⟨its, r, pl, hz⟩ := I.list hq
    refine SeqAt.in_listAt (eqU x) pl.isList (fun w hw => mem_eqAt rx fx r fs w (by simpa using hw)) ⟨.bl _, H, I, rfl, ?_⟩
    rw [show its.toArray.any (eqU x) = its.any (eqU x) by simp, any_eqU r fs]
    exact q
  · obtain ⟨its, r, pl, hz⟩ := I.tuple hq
    refine SeqAt.in_tupleAt (eqU x) pl (fun w hw => mem_eqAt rx fx r fs w (by simpa using hw)) ⟨.bl _, H, I, rfl, ?_⟩
    rw [show its.toArray.any (eqU x) = its.any (eqU x) by simp, any_eqU r fs]
    exact q
/-! ### len, list(x), tuple(x) of any list or tuple that is read -/
theorem call_len_seq : CallR X (.builtin "len") (fun xs H Q => ∃ p ys, xs = [.ref p] ∧ (SqL X.K H p ys ∨ SqT X.K H p ys) ∧ Q (.int ys.length) H) := by
  intro pins s σ H xs us Q I r h
  obtain ⟨p, ys, rfl, hq, q⟩ := h
  obtain ⟨u, rfl, rx⟩ := vals1 r
  cases rx
  have hn := line63
  rcases hq with hq | hq
  · obtain ⟨its, r', pl, hz⟩ := I.list hq
    have hlen := r'.length
    exact Calls.call_len_list pl.isList (by simp only [List.size_toArray] <;> omega) ⟨.int ys.length, H, I.tok _, ⟨s.toks + 1, by rw [List.size_toArray, hlen]⟩, q⟩
  · obtain ⟨its, r', pl, hz⟩ := I.tuple hq
    have hlen := r'.length
    exact len_tuple pl (by simp only [List.size_toArray] <;> omega) ⟨.int ys.length, H, I.tok _, ⟨s.toks + 1, by rw [List.size_toArray, hlen]⟩, q⟩
theorem call_len_str : CallR X (.builtin "len") (fun xs H Q => ∃ z, xs = [.str z] ∧ z.length ≤ sizeLine ∧ Q (.int z.length) H) := by
  intro pins s σ H xs us Q I r h
  obtain ⟨z, rfl, hz, q⟩ := h
  obtain ⟨u, rfl, t, rfl⟩ := vals1 r
  have hn := line63
  exact len_str (by omega) ⟨.int z.length, H, I.tok _, ⟨_, rfl⟩, q⟩
/-! ### the call of a builtin's method: o.m(..) -/
def tyV (K : PySem.W.Frag) (T : String) (x : V) (H : Hp) : Prop := match x with
  | .str _ => T = "str"
  | .int _ => T = "int"
  | .ref p => (T = "list" ∧ ∃ xs, SqL K H p xs) ∨ (T = "tuple" ∧ ∃ o, K.lookup p = some o ∧ o.cls = .type "tuple" ∧ o.dict = none) ∨
      (T = "dict" ∧ ((∃ kvs, H p = some (.dK kvs)) ∨ ∃ kvs, H p = some (.dT kvs))) ∨ (T = "set" ∧ ∃ S n, H p = some (.set S n))
  | _ => False
theorem tyV_is {pins : List (Addr × Obj)} {σ : St} {H : Hp} {s : Shared} {T : String} {x : V} {v : Value} (I : Inv X pins σ H s) (r : RelV x v) (ty : tyV X.K T x H) :
    s.TypeIs v T ∧ ∀ a, v = .ref a → ∃ ob, s.heap.get? a = some ob ∧ ob.dict = none := by
  cases x with
  | str z =>
    obtain ⟨t, rfl⟩ := r
    cases (show T = "str" from ty)
    exact ⟨typeIs_str s z t, fun _ e => nomatch e⟩
  | int i =>
    obtain ⟨t, rfl⟩ := r
    cases (show T = "int" from ty)
    exact ⟨typeIs_int s i t, fun _ e => nomatch e⟩
  | ref p =>
    cases r
    rcases ty with ⟨rfl, xs, hq⟩ | ⟨rfl, o, hk, hc, hd⟩ | ⟨rfl, hk⟩ | ⟨rfl, S, n, hk⟩
    · obtain ⟨its, _, pl, _⟩ := I.list hq
      refine ⟨pl.isList.typeIs, fun a e => ?_⟩
      cases e
      obtain ⟨o, n, e, c, hd, _⟩ := pl
      exact ⟨o, e, hd⟩
    · refine ⟨⟨o, I.kIn p o hk, hc⟩, fun a e => ?_⟩
      cases e
      exact ⟨o, I.kIn _ o hk, hd⟩
    · have z : ∃ o, s.heap.get? p = some o ∧ o.ExactDict := by
        rcases hk with ⟨kvs, hk⟩ | ⟨kvs, hk⟩
        · obtain ⟨_, _, _, _, o, _, _, e, ex, _⟩ := I.hok p _ hk
          exact ⟨o, e, ex⟩
        · obtain ⟨_, _, _, _, o, _, _, e, ex, _⟩ := I.hok p _ hk
          exact ⟨o, e, ex⟩
      obtain ⟨o, e, ex⟩ := z
      refine ⟨⟨o, e, ex.1⟩, fun a e2 => ?_⟩
      cases e2
      exact ⟨o, e, ex.2.1⟩
    · obtain ⟨o, _, _, _, e, ex, _⟩ := I.hok p _ hk
      refine ⟨⟨o, e, ex.1⟩, fun a e2 => ?_⟩
      cases e2
      exact ⟨o, e, ex.2.1⟩
  | _ => exact False.elim ty
def tBM0 (K : PySem.W.Frag) (T : String) (r : V → List V → Hp → VK → Prop) (to : TE) : TE := fun σ H Q => to σ H fun x H1 => tyV K T x H1 ∧ r x [] H1 Q
def tBM (K : PySem.W.Frag) (T : String) (r : V → List V → Hp → VK → Prop) (to : TE) (t : TA) : TE := fun σ H Q => to σ H fun x H1 => tyV K T x H1 ∧ t σ H1 fun xs H2 => r x xs H2 Q
variable {o e : Expr} {es : List Expr} {to : TE} {t : TA} {name : Str} {apos cpos : Pos} {T id : String} {r : V → List V → Hp → VK → Prop}
theorem pe_bm0 (pa : PlainAttrs T) (slot : Slot T name id) (hty : typeOf (.builtin id) = pure (.type "method_descriptor")) (hm : MtR X id r) (ho : PE X o to)
    (hbase : attributeBase o name X.env (eval o X.env) = eval o X.env := by rfl) (hline : (apos.endLine == cpos.line) = true := by rfl) : PE X (.Call (.Attribute o name apos) [] [] cpos) (tBM0 X.K T r to) := by
  intro pins s σ H Q I h
  refine wpAny_Call_method0_late hbase hline (thn (ho pins s σ H _ I h) fun v s1 ⟨x, H1, I1, r1, ty, q1⟩ => ?_)
  obtain ⟨h1, h2⟩ := tyV_is I1 r1 ty
  exact ⟨T, id, pa, slot, hty, h1, h2, Calls.callWith_builtin rfl (PySem.evalArgs_none (hm pins s1 σ H1 x [] v [] Q I1 r1 .nil q1))⟩
theorem pe_bm (pa : PlainAttrs T) (slot : Slot T name id) (hty : typeOf (.builtin id) = pure (.type "method_descriptor")) (hm : MtR X id r) (ho : PE X o to) (ha : PA X (e :: es) t)
    (hbase : attributeBase o name X.env (eval o X.env) = eval o X.env := by rfl)
    (hfew : ((backTo cpos (starEach (e :: es) X.env)).all (fun x => !x.1) && (backToKw cpos (keywordEach [] X.env)).all (fun x => x.1.isSome)
      && decide ((e :: es).length + ([] : List Keyword).length + (if ([] : List Keyword).isEmpty then 0 else 1) < 30)) = true := by rfl)
    (hline : (apos.endLine == cpos.line) = true := by rfl) (hs : starEach (e :: es) X.env = (false, eval e X.env) :: starEach es X.env := by rfl) (hplain : (backTo cpos (starEach es X.env)).any (·.1) = false := by rfl) :
    PE X (.Call (.Attribute o name apos) (e :: es) [] cpos) (tBM X.K T r to t) := by
  intro pins s σ H Q I h
  refine wpAny_Call_method_late hbase hfew hline rfl (thn (ho pins s σ H _ I h) fun v s1 ⟨x, H1, I1, r1, ty, q1⟩ => ?_)
  obtain ⟨h1, h2⟩ := tyV_is I1 r1 ty
  refine ⟨T, id, pa, slot, hty, h1, h2, ?_⟩
  have hA := ha cpos pins s1 σ H1 _ I1 q1
  rw [hs] at hA ⊢
  refine Calls.callWith_builtin (by show (false || (backTo cpos (starEach es X.env)).any (·.1)) = false; rw [hplain] <;> rfl) (Calls.evalArgs_plain ?_)
  exact thn hA fun us s2 ⟨vs, H2, I2, r2, q2⟩ => hm pins s2 σ H2 x vs v us Q I2 r1 r2 q2
/- xs.append(e), list.index on a module's tuple .. are MtR facts of 06m -/
end
end L2

namespace L2
open PySem PySem.Spec PyProof.Rows

def MtM (X : Cx) (id : String) (r : V → List V → Hp → VK → Prop) : Prop :=
  ∀ (pins : List (Addr × Obj)) (s : Shared) (σ : St) (H : Hp) (x : V) (xs : List V) (v : Value) (us : List Value) (Q : VK), Inv X pins σ H s → RelV x v → Vals xs us → r x xs H Q →
    wpAny (model X.prog X.w) X.A (call (.builtin id) (v :: us)) (EP X pins σ Q) X.xe s

/-! ### lists of values -/
theorem Vals.one : ∀ {x : V} {us : List Value}, Vals [x] us → ∃ u, us = [u] ∧ RelV x u
  | _, _, .cons r .nil => ⟨_, rfl, r⟩
theorem Vals.two : ∀ {x y : V} {us : List Value}, Vals [x, y] us → ∃ u v, us = [u, v] ∧ RelV x u ∧ RelV y v
  | _, _, _, .cons r (.cons q .nil) => ⟨_, _, rfl, r, q⟩
theorem Vals.zero : ∀ {us : List Value}, Vals [] us → us = []
  | _, .nil => rfl
theorem Vals.dropLast {xs : List V} {us : List Value} (h : Vals xs us) : Vals xs.dropLast us.dropLast := by
  induction h with
  | nil => exact .nil
  | cons r t ih =>
    cases t with
    | nil => exact .nil
    | cons q t' => exact .cons r ih
theorem erase_last {α : Type} (l : List α) : l.eraseIdx (l.length - 1) = l.dropLast := by
  induction l with
  | nil => rfl
  | cons a r ih =>
    cases r with
    | nil => rfl
    | cons b r =>
      have e : (a :: b :: r).length - 1 = ((b :: r).length - 1) + 1 := by
        have h1 : (a :: b :: r).length = r.length + 2 := rfl
        have h2 : (b :: r).length = r.length + 1 := rfl
        omega
      rw [e, List.eraseIdx_cons_succ, ih]
      all_goals rfl
section
variable {X : Cx} {pins : List (Addr × Obj)} {σ : St} {H : Hp} {s : Shared} {l b : Addr} {xs ys zs : List V}

/-! ### the two steps: a tracked list is rewritten, a new list is laid -/
theorem Inv.lset {its its' : List Value} {n : Nat} {f : Array Value → Array Value} {t' : Nat} (I : Inv X pins σ H s) (hH : H l = some (.lst xs))
    (e : s.heap.get? l = some { cls := .type "list", data := .seq its.toArray n }) (hf : f its.toArray = its'.toArray) (hv : Vals ys its') (hz : ys.length ≤ sizeLine) :
    Inv X pins σ (upd H l (.lst ys)) { s with heap := s.heap.update l (Obj.mapSeq f), toks := t' } := by
  have q := PySem.IsL.update e f
  rw [hf] at q
  refine I.write (x := l) (e := l) (by rw [hH]; exact trivial) (.inl rfl) (fun b' u hb hu => (Heap.get?_update_other s.heap (Obj.mapSeq f) (Ne.symm hb)).trans hu) ⟨_, q⟩ ?_
  exact ⟨hz, its', _, hv, q⟩
theorem Inv.lnew {its : List Value} {t' : Nat} (I : Inv X pins σ H s) (hv : Vals ys its) (hz : ys.length ≤ sizeLine) :
    Inv X pins σ (upd H s.heap.objs.size (.lst ys)) { s with heap := s.heap.push { cls := .type "list", data := .seq its.toArray }, toks := t' } :=
  I.laid (fun _ _ q => Heap.get?_push_of_some _ q) (Nat.le_refl _) ⟨hz, its, 0, hv, Heap.get?_push_size _ rfl⟩
theorem Inv.lstM (I : Inv X pins σ H s) (hH : H l = some (.lst xs)) : xs.length ≤ sizeLine ∧ ∃ (its : List Value) (n : Nat), Vals xs its ∧ xs.length = its.length ∧ s.heap.get? l = some { cls := .type "list", data := .seq its.toArray n } := by
  obtain ⟨z, its, n, r, e⟩ := I.hok l _ hH
  exact ⟨z, its, n, r, r.length, e⟩

end

section
variable {X : Cx}

/-! ### methods -/
def rAppend : V → List V → Hp → VK → Prop := fun x vs H Q => ∃ l xs y, x = .ref l ∧ vs = [y] ∧ H l = some (.lst xs) ∧ xs.length < sizeLine ∧ Q .non (upd H l (.lst (xs ++ [y])))
theorem mt_append : MtM X "list.append" rAppend := by
  intro pins s σ H x vs v us Q I rx rv h
  obtain ⟨l, xs, y, rfl, rfl, hH, hz, q⟩ := h
  cases rx
  obtain ⟨u, rfl, ru⟩ := rv.one
  obtain ⟨z, its, n, r, hl, e⟩ := I.lstM hH
  refine call_meets F.slot_list_append ⟨_, e, rfl⟩ F.entry_list_append (F.args_list_append_2 _ _) (PySem.list_append l its.toArray n u (by rw [List.size_toArray]; omega)) ⟨e, ?_⟩
  refine ⟨.non, _, I.lset (its' := its ++ [u]) hH e (by simp) (r.append (.cons ru .nil)) ?_, rfl, q⟩
  rw [List.length_append, List.length_singleton]
  omega

def rPop : V → List V → Hp → VK → Prop := fun x vs H Q => ∃ l xs y, x = .ref l ∧ vs = [] ∧ H l = some (.lst xs) ∧ xs[xs.length - 1]? = some y ∧ Q y (upd H l (.lst xs.dropLast))
theorem mt_pop : MtM X "list.pop" rPop := by
  intro pins s σ H x vs v us Q I rx rv h
  obtain ⟨l, xs, y, rfl, rfl, hH, hy, q⟩ := h
  cases rx
  have hus := rv.zero
  subst hus
  obtain ⟨z, its, n, r, hl, e⟩ := I.lstM hH
  obtain ⟨u, hu, ru⟩ := r.get hy
  have hy' : its.toArray[its.toArray.size - 1]? = some u := by
    show its.toArray[its.length - 1]? = some u
    rw [← Array.getElem?_toList, ← hl]
    exact hu
  refine call_meets F.slot_list_pop ⟨_, e, rfl⟩ F.entry_list_pop (F.args_list_pop_1 _) (MeetsSeq.list_pop_last l its.toArray n u hy' (by rw [List.size_toArray]; omega)) ⟨e, ?_⟩
  refine ⟨y, _, I.lset (its' := its.dropLast) hH e ?_ r.dropLast ?_, ru, q⟩
  · show its.toArray.eraseIdxIfInBounds (its.toArray.size - 1) = its.dropLast.toArray
    rw [List.size_toArray, List.eraseIdxIfInBounds_toArray, erase_last]
  · rw [List.length_dropLast]
    omega

/-! ### list + list, list += list, list * int -/
/-! ### del xs[i] -/
end

/-! ### xs[a:b] = ys -/
section
variable {prog : Program} {w : World} {A : Around} {E : Value → Shared → Prop} {s : Shared}
set_option maxRecDepth 100000 in
end

section
variable {X : Cx}
end
end L2

namespace Att
open PySem PySem.W PySem.Calls PyProof.Rows

/-! ### the script -/
theorem ints_of_wellAll {P : Params} {h : Heap} : ∀ (ns : List Int) (vs : List Value), WellAll P h vs (ns.map WData.int) → IntsAre vs ns := by
  intro ns
  induction ns with
  | nil =>
    intro vs w
    rw [List.map_nil] at w
    cases w
    exact .nil
  | cons n ns ih =>
    intro vs w
    rw [List.map_cons] at w
    cases w with
    | cons a b =>
      cases a
      exact .cons _ _ (ih _ b)

theorem script_of {l : OpenLaw} {n : Nat} (hn : l.most = some n) {P : Params} {h : Heap} {args : List WData} {vals : List Value}
    (hpre : l.row.toRowW.claim.pre args = true) (hwl : WellAll P h vals args) :
    ∃ a vs ns, vals = [Value.ref a] ∧ args = [WData.list (ns.map WData.int)] ∧ h.get? a = some { cls := .type "list", data := .seq vs.toArray } ∧ IntsAre vs ns ∧ ns.length ≤ n := by
  have hsh : WShape.hasAll [] args [.list .int] = true := (pre_splitW hpre).1
  have hc : l.pre.holds [] { args := args } = true := (pre_splitW hpre).2
  obtain ⟨d, r, rfl, h1, h2⟩ := hasAllW_cons hsh
  obtain rfl := hasAllW_nil h2
  obtain ⟨xs, rfl, h3⟩ := hasW_list h1
  obtain ⟨ns, rfl⟩ := items_int h3
  have hlen : ns.length ≤ n := by
    unfold OpenLaw.pre at hc
    have h4 : (WTm.not (.lt (.lit (.int (n : Int))) (.len (.arg 0)))).holds [] { args := [.list (ns.map .int)] } = true := by
      have h4 := (holds_andW hc).1
      rw [hn] at h4
      exact h4
    have h5 := condW_of h4 (w_not (w_lt w_lit (w_len_list (w_arg rfl))))
    rw [List.length_map] at h5
    refine Nat.le_of_not_lt fun q => ?_
    have q' : (n : Int) < ((ns.length : Nat) : Int) := by omega
    first
      | (rw [decide_eq_true q'] at h5; exact absurd h5 (by decide))
      | (simp at h5; omega)
  cases hwl with
  | cons w1 w2 =>
    cases w2
    cases w1 with
    | list ho hall => exact ⟨_, _, ns, rfl, rfl, ho, ints_of_wellAll ns _ hall, hlen⟩

theorem post_true (l : OpenLaw) (args : List WData) : l.row.toRowW.claim.post args (.bool true) args = true :=
  postW_of (r := l.row.toRowW) (X := (true == true))
    (show WShape.has [] (.bool true) .bool = true by first | rfl | decide | simp [WShape.has, WShape.arms, WShape.armsAll])
    (show (WTm.eq .res (.lit (.bool true))).value [] { args := args, res := some (.bool true), after := args } = some (.bool (true == true)) from w_eq_bool (w_res rfl) w_lit) rfl

/-! ### the attachment: holds_open's last premise (the goal 'hc' behind k_head) from a wpAny of the law's body -/
theorem attach_call {l : OpenLaw} {n : Nat} {q : Program} {loose : List Str} {XP : (Str → Option Value) → Heap → Prop} {YP : World → Heap → Prop} {d : DefRec}
    (hn : l.most = some n) (hdf : d.params.defaults = [])
    (call : ∀ (w : World) (s₀ s₁ : Shared) (mg mb : Str → Option Value) (fa : Addr) (o : Obj) (pm cd doc : Value) (a : Addr) (vs : List Value) (ns : List Int),
      Ground q loose [] XP w s₀ mg mb s₁.heap → YP w s₁.heap →
      s₁.heap.get? fa = some o → o.data = .func (docDef d.name d.params d.body d.scope pm cd doc) → s₁.heap.CodeRec cd d.name → mg d.name = some (.ref fa) →
      s₁.heap.get? a = some { cls := .type "list", data := .seq vs.toArray } → IntsAre vs ns → ns.length ≤ n → s₁.gens = #[] →
      codeAny (model l.prog w) callerA (.call (.ref fa) ⟨[.ref a], []⟩) (fun r s' => r = .ok (.ret (.bool true)) ∧ OldK s₁.heap s'.heap ∧ s'.os = s₁.os ∧ AllBare s'.gens) s₁) :
    WalkO q loose XP YP l.row.toRowW d [] (fun f vs => PySem.call f vs) := by
  intro w s₀ s₁ mg mb G Y fa o pm cd doc dV kV ho hd hcd hD hmg hg args vals as hpre hlay hrd hwl hlo
  obtain rfl : dV = .none := Dflts.none hD hdf
  obtain rfl : kV = .none := Dflts.noKw hD
  obtain ⟨a, vs, ns, rfl, rfl, hobj, hints, hlen⟩ := script_of hn hpre hwl
  refine enter_call (codeAny_mono (call w s₀ s₁ mg mb fa o pm cd doc a vs ns G Y ho (fd_plain hd) hcd hmg hobj hints hlen hg) fun r s' hq => ?_)
  obtain ⟨rfl, h2, h3, h4⟩ := hq
  exact ⟨.inl ⟨.bool true, .bool true, [], rfl, fun _ => rfl, .bool true, post_true l _, fun _ => ⟨List.Pairwise.nil, fun _ hm => (nomatch hm)⟩⟩, h2, h3, h4⟩

/-! ### rules over ANY heap (no ledger) from facts about the written part K: the library's own take a ledger (News) for what they write -/
section
variable {prog : Program} {w : World} {A : Around} {E : Value → Shared → Prop} {s : Shared} {K : Frag}

/-! the whole heap as the ledger: makes every rule that writes through a ledger a rule over any heap -/
end
end Att

namespace L2
open PySem PySem.Spec PyProof.Rows

theorem vals_ints : ∀ {vs : List Value} {ns : List Int}, IntsAre vs ns → Vals (ns.map V.int) vs
  | _, _, .nil => .nil
  | _, _, .cons n t h => .cons ⟨t, rfl⟩ (vals_ints h)

def Only (H : Hp) : Prop := ∀ b, H b = none ∨ ∃ o xs, H b = some (.frz o (.lst xs))

theorem law_call {P : Program} {w : World} {K : PySem.W.Frag} {mg mb : Str → Option Value} {CX : CXT} {k : Nat} {fa a : Addr} {fd : FuncData} {x : Str} {sp : Sp} {s₁ : Shared} {vs : List Value} {ns : List Int}
    (KX : K.In s₁.heap) (hns : s₁.heap.Ns mainGlobals mg) (hb : s₁.heap.Ns builtinsNs mb) (hbb : ∀ x : Str, x ≠ "__name__" → mb x = bootBuiltins x) (hlim : s₁.heap.NoLimit) (hg : s₁.gens = #[])
    (ha : s₁.heap.get? a = some { cls := .type "list", data := .seq vs.toArray }) (hi : IntsAre vs ns) (hl : ns.length ≤ sizeLine) (hr : Room k callerA)
    (F : ∀ base : Heap, K.In base → base.Ns mainGlobals mg → FnOk P w K mg base CX k fa fd [x] sp) (hbind : ∀ (s : Shared) (u : Value), BindsTo s fd ⟨[u], []⟩ [(x, u)])
    (hsp : ∀ H : Hp, Only H → SqL K H a (ns.map V.int) → sp [.ref a] H (fun v _ => v = .bl true) fun _ _ _ => False)
    (hCX : ∀ H e s', CX [] H s₁ (fun _ _ _ => False) e s' → False) :
    codeAny (model P w) callerA (.call (.ref fa) ⟨[.ref a], []⟩) (fun r s' => r = .ok (.ret (.bool true)) ∧ OldK s₁.heap s'.heap ∧ s'.os = s₁.os ∧ AllBare s'.gens) s₁ := by
  have rv := vals_ints hi
  have lenV := hi.length
  -- from an abstract heap in which nothing but the script may be tracked
  have core : ∀ H : Hp, Only H → SqL K H a (ns.map V.int) → HOk P w H s₁.heap → (∀ b, H b ≠ none → b = a) → (H a ≠ none → K.lookup a = none) →
      codeAny (model P w) callerA (.call (.ref fa) ⟨[.ref a], []⟩) (fun r s' => r = .ok (.ret (.bool true)) ∧ OldK s₁.heap s'.heap ∧ s'.os = s₁.os ∧ AllBare s'.gens) s₁ := by
    intro H hO hS hok hA hK
    have base_of : ∀ {b : Addr} {o : Obj}, s₁.heap.get? b = some o → H b = none → (hidT s₁.heap H).get? b = some o := fun e n => hidT_get e n
    have noA : ∀ {b : Addr} {o : Obj} {es : Array DictEntry} {ep : Nat}, s₁.heap.get? b = some o → o.data = .dict es ep → H b = none := fun {b o es ep} e d => by
      cases q : H b with
      | none => rfl
      | some u =>
        have e' : b = a := hA b (by rw [q]; simp)
        subst e'
        rw [ha] at e; cases e
        have d' : Data.seq vs.toArray _ = Data.dict es ep := d
        cases d'
    have nsK : ∀ {b : Addr} {m : Str → Option Value}, s₁.heap.Ns b m → (hidT s₁.heap H).Ns b m := fun {b m} ⟨o, es, ep, e, d, r⟩ => ⟨o, es, ep, base_of e (noA e d), d, r⟩
    have hKb : K.In (hidT s₁.heap H) := fun b o e => base_of (KX b o e) (by
      cases q : H b with
      | none => rfl
      | some u =>
        have e' : b = a := hA b (by rw [q]; simp)
        subst e'
        rw [hK (by rw [q]; simp)] at e; cases e)
    have hM : Mod K mg (hidT s₁.heap H) := ⟨hKb, nsK hns, ⟨mb, nsK hb, hbb⟩, let ⟨mc, h1, h2⟩ := hlim; ⟨mc, nsK h1, h2⟩⟩
    have e0 : Env0 P w K mg (hidT s₁.heap H) callerA [] s₁ H := ⟨rfl, hM, fun b o e => of_hidT e, Nat.le_of_eq (hidT_size _ _), trivial, fun b hb => absurd (show b ∈ ([] : List Addr) from hb) (by simp), hok, .of_eq hg⟩
    refine codeAny_mono ((F _ hKb (nsK hns)).run callerA [] s₁ H ⟨[.ref a], []⟩ [.ref a] [.ref a] _ _ hr e0 (hbind s₁ (.ref a)) (.cons rfl .nil) (hsp H hO hS)) fun r s' h => ?_
    cases r with
    | error e => exact (hCX H e s' h).elim
    | ok fl =>
      cases fl with
      | next => exact False.elim h
      | brk => exact False.elim h
      | cont => exact False.elim h
      | ret u =>
        obtain ⟨v, H', os, bare, un, hok', r', q⟩ := h
        have q' : v = .bl true := q
        subst q'
        obtain rfl : u = Value.bool true := r'
        refine ⟨rfl, OldK.of_keep fun b o e => ?_, os, bare⟩
        cases q : H b with
        | none => exact un.keep b o e q (by intro z; exact absurd (show b ∈ ([] : List Addr) from z) (by simp)) (by simp)
        | some u =>
          rcases hO b with z | ⟨ob, xs, z⟩
          · rw [q] at z; cases z
          · have z2 := un.frzs b ob _ z
            obtain ⟨e1, _⟩ := hok b _ z
            obtain ⟨e2, _⟩ := hok' b _ z2
            rw [e] at e1; cases e1
            exact e2
  cases hk : K.lookup a with
  | some o =>
    -- the script is one of the module's own objects
    have e := KX a o hk
    rw [ha] at e
    cases e
    refine core (fun _ => none) (fun _ => .inl rfl) (.inr ⟨_, vs.toArray, _, hk, rfl, rfl, rfl, by rw [List.size_toArray, lenV]; exact hl, by simpa using rv⟩) (fun b u z => by have z' : (none : Option HO) = some u := z; cases z') (fun b z => absurd rfl z) fun z => absurd rfl z
  | none =>
    refine core (fun b => if b = a then some (.frz { cls := .type "list", data := .seq vs.toArray } (.lst (ns.map V.int))) else none) (fun b => ?_) (.inl (.inr ⟨{ cls := .type "list", data := .seq vs.toArray }, if_pos rfl⟩)) (fun b u z => ?_) (fun b z => ?_) fun _ => hk
    · by_cases hb : b = a
      · exact .inr ⟨_, _, if_pos hb⟩
      · exact .inl (if_neg hb)
    · by_cases hb : b = a
      · have z' := (if_pos hb).symm.trans z
        cases z'
        subst hb
        exact ⟨ha, by rw [List.length_map]; exact hl, vs, _, rv, ha⟩
      · have z' := (if_neg hb).symm.trans z
        cases z'
    · by_cases hb : b = a
      · exact hb
      · exact absurd (if_neg hb) z
end L2

namespace L2
open PySem PySem.Spec PyProof.Rows

theorem walk_of {l : PySem.W.OpenLaw} {n k : Nat} {q : Program} {loose : List Str} {XP : (Str → Option Value) → Heap → Prop} {YP : World → Heap → Prop} {d : DefRec} {K : Params → PySem.W.Frag} {CX : World → CXT} {sp : World → Sp} {x : Str}
    (hn : l.most = some n) (hn2 : n ≤ sizeLine) (hdf : d.params.defaults = []) (hr : Room k callerA)
    (hY : ∀ (w : World) (h : Heap), YP w h → (K w.params).In h)
    (F : ∀ (w : World) (mg : Str → Option Value) (fa : Addr) (h : Heap), (K w.params).In h → h.Ns mainGlobals mg → mg d.name = some (.ref fa) →
      ∃ fd : FuncData, (∀ (s : Shared) (u : Value), BindsTo s fd ⟨[u], []⟩ [(x, u)]) ∧
        ∀ base : Heap, (K w.params).In base → base.Ns mainGlobals mg → FnOk l.prog w (K w.params) mg base (CX w) k fa fd [x] (sp w))
    (hsp : ∀ (w : World) (H : Hp) (a : Addr) (ns : List Int), ns.length ≤ n → Only H → SqL (K w.params) H a (ns.map V.int) → sp w [.ref a] H (fun v _ => v = .bl true) fun _ _ _ => False)
    (hCX : ∀ (w : World) (H : Hp) (s : Shared) (e : Value) (s' : Shared), CX w [] H s (fun _ _ _ => False) e s' → False) :
    PySem.W.WalkO q loose XP YP l.row.toRowW d [] (fun f vs => PySem.call f vs) := by
  refine Att.attach_call hn hdf fun w s₀ s₁ mg mb fa o pm cd doc a vs ns G Y ho hd hcd hmg hobj hints hlen hg => ?_
  have KX := hY w _ Y
  obtain ⟨fd, hb, hF⟩ := F w mg fa _ KX G.T.g hmg
  exact law_call KX G.T.g G.T.b G.T.builtins G.T.nolimit hg hobj hints (Nat.le_trans hlen hn2) hr hF hb (fun H hO hS => hsp w H a ns hlen hO hS) fun H e s' => hCX w H s₁ e s'
end L2

/- THE LAST THEOREM (shape; LID, My.* are yours):
   My.Adr: a structure of the addresses that your layer names (classes, functions); My.Txt K t: a structure (Prop) of the equations over K;
   My.txt_mk : {K} {implicit addresses ..} (e1 : nsIn K mainGlobals "law" = some (some (.ref f))) (e2 : K.lookup f = some ⟨oc, od, .func (fnOf "law" "law" params body scope dV kV doc pm an cdv ct), sl⟩) (e3 : codeIn K cdv "law" = true) .. : ∃ t, My.Txt K t

set_option maxRecDepth 100000 in
set_option maxHeartbeats 0 in
theorem PySem.Challenge.cw_LID_holds : PySem.Challenge.rw_LID.Holds := by
  w_on; o_law; k_head; (case hw => w_witness2)
  k_fill
  refine L2.walk_of (l := PySem.Challenge.rw_LID) (n := 63) (k := 40) (x := "script") (CX := fun w => ..) (sp := fun _ => My.sp_law) rfl (by decide) rfl ⟨rfl, by decide, by decide⟩ (fun w h Y => PySem.W.kIn_of Y) ?F ?S ?C
  case F =>
    intro w mg fa h KX G hmg
    have T : ∃ t, My.Txt (L2.KOf KX) t := by
      dsimp only [L2.KOf]                          -- K must stand as «<heap const> w.params» for k_is
      refine' My.txt_mk ?e1 ?e2 ?e3 ..
      (case e1 => PySem.W.k_is)                    -- in the order: a name -> its address -> its object -> its parts
      (case e2 => PySem.W.k_is)
      ..
    obtain ⟨t, T⟩ := T
    have e0 := hmg.symm.trans (PySem.W.mg_of KX G T.law)
    cases e0                                       -- fa is the law's own address
    exact ⟨_, fun s u => .of_eq rfl, fun base kb nb => My.law_fn T kb nb⟩     -- if «.of_eq rfl» comes too early: refine' ⟨_, ?b, fun base kb nb => My.law_fn T kb nb⟩; exact fun s u => .of_eq rfl
  case S => exact fun w H a ns hl hO hS => ..
  case C => exact ..
(the tactic k_is has no namespace: write k_is) -/

/-! SHORT WORDS over the layer: a def of the text, its body, what a loop and a test want. -/
namespace L2
open PySem PySem.Spec PyProof.Rows

/-! ### the text by places -/
def defArgs (s : Stmt) : Arguments := match s with
  | .FunctionDef _ a _ _ _ _ _ _ _ _ => a
  | _ => { posonlyargs := [], args := [], vararg := none, kwonlyargs := [], kw_defaults := [], kwarg := none, defaults := [] }
def defBody (s : Stmt) : List Stmt := match s with
  | .FunctionDef _ _ b _ _ _ _ _ _ _ => b
  | _ => []
def defScope (s : Stmt) : Scope := match s with
  | .FunctionDef _ _ _ _ _ _ sc _ _ _ => sc
  | _ => { kind := .function, names := [], isGenerator := false, isCoroutine := false }

/-! ### no exception leaves a def -/
abbrev CX0 : CXT := fun _ _ _ _ _ _ => False
abbrev E0 : XK := fun _ _ _ => False
theorem pass0 {X : Cx} : Passes CX0 X E0 := fun _ _ _ _ _ _ _ h => h.elim

/-! ### a def (or method) of the text as it stands behind the top -/
structure Fun (K : PySem.W.Frag) (x qual : Str) (st : Stmt) (f : Addr) (fd : FuncData) : Prop where
  ex : ∃ (oc : Value) (od : Option Addr) (kV doc pm : Value) (an : Option Addr) (cdv ct : Value) (osl : Array (Option Value)),
    fd = PySem.W.fnOf x qual (defArgs st) (defBody st) (defScope st) .none kV doc pm an cdv ct ∧ K.lookup f = some ⟨oc, od, .func fd, osl⟩ ∧ PySem.W.codeIn K cdv qual = true
  kp : PySem.W.keepIn K (.ref f) = true
section
variable {P : Program} {w : World} {K : PySem.W.Frag} {mg : Str → Option Value} {base : Heap}
theorem Fun.ok {x qual : Str} {st : Stmt} {f : Addr} {fd : FuncData} {N ps : List Str} {k : Nat} {sp : Sp} (F : Fun K x qual st f fd) (S : FnScope N ps (defScope st)) (len : ∀ vs H Q E, sp vs H Q E → vs.length = ps.length)
    (hbody : ∀ (cdv : Value) (A : Around) (outer : List Env) (s : Shared) (H : Hp) (vs : List V) (Q : VK) (E : XK), Room k (A.deeper (envOfC qual (defScope st) s.heap.objs.size f cdv)) → sp vs H Q E →
      ∃ t, PSs (cxOf CX0 P w K mg base N qual (defScope st) f cdv A outer s H E).nox (defBody st) t ∧ t { nx := fun _ H' => Q .non H', rt := Q } (start N vs) H) : FnOk P w K mg base CX0 (k + 1) f fd ps sp := by
  obtain ⟨oc, od, kV, doc, pm, an, cdv, ct, osl, rfl, lk, hcd⟩ := F.ex
  refine fn_of lk hcd S len fun A outer s H vs Q E hr hsp => ?_
  obtain ⟨t, h, q⟩ := hbody cdv A outer s H vs Q E hr hsp
  exact ⟨t, h.nox, q⟩
theorem Fun.binds {x qual : Str} {st : Stmt} {f : Addr} {fd : FuncData} {ps : List Str} (F : Fun K x qual st f fd)
    (h : ∀ (kV doc pm : Value) (an : Option Addr) (cdv ct : Value) (us : List Value), us.length = ps.length → bindArgs (PySem.W.fnOf x qual (defArgs st) (defBody st) (defScope st) .none kV doc pm an cdv ct) ⟨us, []⟩ = pure (ps.zip us)) : Binds K fd ps [] := by
  obtain ⟨oc, od, kV, doc, pm, an, cdv, ct, osl, rfl, lk, hcd⟩ := F.ex
  exact .all (h kV doc pm an cdv ct)
theorem fun_mk {x qual : Str} {st : Stmt} {f : Addr} {oc : Value} {od an : Option Addr} {osl : Array (Option Value)} {kV doc pm cdv ct : Value} (l : K.lookup f = some ⟨oc, od, .func (PySem.W.fnOf x qual (defArgs st) (defBody st) (defScope st) .none kV doc pm an cdv ct), osl⟩)
    (c : PySem.W.codeIn K cdv qual = true) (k : PySem.W.keepIn K (.ref f) = true) : Fun K x qual st f (PySem.W.fnOf x qual (defArgs st) (defBody st) (defScope st) .none kV doc pm an cdv ct) := ⟨⟨oc, od, kV, doc, pm, an, cdv, ct, osl, rfl, l, c⟩, k⟩
end
/-! ### expressions in short: the name that stands in the i-th slot -/
section
variable {X : Cx}
theorem pv (i : Nat) {x : Str} {pos : Pos} (hN : X.N[i]? = some x := by rfl) (hv : Vis X.env.scope x := by first | exact Or.inl rfl | exact Or.inr (Or.inl rfl) | exact Or.inr (Or.inr rfl)) (hd : (x == ("__debug__" : Str)) = false := by decide)
    (hcd : (x == ("__classdict__" : Str)) = false := by decide) : PE X (.Name x pos) (tVar i) := pe_var hN hv hd hcd
end

/-! ### tests -/
theorem iteF {A B : Prop} (h : B) : if false = true then A else B := by
  rw [if_neg Bool.false_ne_true]
  exact h
theorem iteT {A B : Prop} (h : A) : if true = true then A else B := by
  rw [if_pos rfl]
  exact h
theorem ite2 {c A B : Prop} [Decidable c] (h1 : c → A) (h2 : ¬ c → B) : if c then A else B := by
  by_cases h : c
  · rw [if_pos h]
    exact h1 h
  · rw [if_neg h]
    exact h2 h
theorem iteNS {c A B : Prop} [Decidable c] (hc : c) (h : B) : if (!decide c) = true then A else B := by
  rw [decide_eq_true hc]
  exact iteF h

/-! ### heaps -/
def Same (H H' : Hp) : Prop := ∀ b o, H b = some o → H' b = some o
theorem Same.refl (H : Hp) : Same H H := fun _ _ h => h
theorem Same.trans {H H1 H2 : Hp} (a : Same H H1) (b : Same H1 H2) : Same H H2 := fun c o h => b c o (a c o h)
theorem Same.seq {K : PySem.W.Frag} {H H' : Hp} {a : Addr} {xs : List V} (e : Same H H') (h : SqL K H a xs) : SqL K H' a xs := by
  rcases h with (h | ⟨o, h⟩) | h
  · exact .inl (.inl (e _ _ h))
  · exact .inl (.inr ⟨o, e _ _ h⟩)
  · exact .inr h

end L2

set_option Elab.async false
set_option linter.all false
set_option maxRecDepth 100000
set_option maxHeartbeats 4000000
namespace L2
open PySem PySem.Spec PyProof.Rows
/-! texts as lists of codes -/
abbrev S (l : List Nat) : Str := ⟨⟨l⟩⟩
theorem S_app (a b : List Nat) : S a ++ S b = S (a ++ b) := by
  refine PyProof.Rows.ext_toList ?_
  rw [PySem.W.KT.app_list]
theorem S_inj {a b : List Nat} (h : S a = S b) : a = b := congrArg (fun x : Str => x.cps.toList) h
def cutL {α : Type} (l : List α) (lo hi : Option Int) : List α := (l.drop (HT.sIx l.length 0 lo)).take (HT.sIx l.length l.length hi - HT.sIx l.length 0 lo)
section
variable {X : Cx}
theorem op_adS : OpR X (binaryOp .Add) (fun x y H Q => ∃ a b, x = .str (S a) ∧ y = .str (S b) ∧ a.length + b.length ≤ sizeLine ∧ Q (.str (S (a ++ b))) H) := by
  intro pins s σ H x y v u Q I rx ry h
  obtain ⟨a, b, rfl, rfl, hz, q⟩ := h
  exact op_add_str pins s σ H _ _ v u Q I rx ry ⟨S a, S b, rfl, rfl, hz, by rw [S_app]; exact q⟩
theorem call_lenS : CallR X (.builtin "len") (fun xs H Q => ∃ l, xs = [.str (S l)] ∧ l.length ≤ sizeLine ∧ Q (.int l.length) H) := by
  intro pins s σ H xs us Q I r h
  obtain ⟨l, rfl, hz, q⟩ := h
  exact call_len_str pins s σ H _ us Q I r ⟨S l, rfl, hz, q⟩
theorem ix_S : IxR X (fun x y H Q => ∃ l i c, x = .str (S l) ∧ y = .int i ∧ l.length ≤ sizeLine ∧ atI l i = some c ∧ Q (.str (S [c])) H) := by
  intro value slice pins s σ H x y v u Q I rx ry h hs
  obtain ⟨l, i, c, rfl, rfl, hz, he, q⟩ := h
  exact ix_str value slice pins s σ H _ _ v u Q I rx ry ⟨S l, i, c, rfl, rfl, hz, he, q⟩ hs
def clsV : V → Value
  | .ty n => .type n
  | .ref a => .ref a
  | _ => .none
theorem call_isi : CallR X (.builtin "isinstance") (fun xs H Q => ∃ x c t b, xs = [x, c] ∧ (∃ n, c = .ty n ∨ ∃ a, c = .ref a) ∧ TyOf X.K H x t ∧ PySem.W.kitOne X.K t (clsV c) = some b ∧ Q (.bl b) H) := by
  intro pins s σ H xs us Q I r h
  obtain ⟨x, c, t, b, rfl, hc, ty, e, q⟩ := h
  obtain ⟨u, w, rfl, ru, rw'⟩ := r.two
  have ew : w = clsV c := by
    obtain ⟨n, rfl | ⟨a, rfl⟩⟩ := hc
    · exact rw'
    · exact rw'
  subst ew
  exact isinst_ok I ru ty e fun tk => ⟨.bl b, H, I.tok _, rfl, q⟩
end
/-! an own def, bundled -/
structure Own (P : Program) (w : World) (K : PySem.W.Frag) (mg : Str → Option Value) (base : Heap) (CX : CXT) (k : Nat) (x : Str) (ps : List Str) (sp : Sp) : Prop where
  ex : ∃ f fd, FnOk P w K mg base CX k f fd ps sp ∧ Binds K fd ps [] ∧ PySem.W.keepIn K (.ref f) = true ∧ mg x = some (.ref f)
section
variable {X : Cx} {CX : CXT} {j k : Nat} {ps : List Str} {sp : Sp} {E : XK} {x : Str} {p pos : Pos} {e : Expr} {es : List Expr} {t : TA}
theorem pe_own (O : Own X.prog X.w X.K X.mg X.base CX j x ps sp) (hr : Room k X.A) (hg : Gl X x) (hx : Passes CX X E) (ha : PA X (e :: es) t) (hj : j ≤ k := by decide) (hdb : (x == ("__debug__" : Str)) = false := by decide)
    (he : starEach (e :: es) X.env = (false, eval e X.env) :: starEach es X.env := by rfl) (hpl : (backTo pos (starEach es X.env)).any (·.1) = false := by rfl) : PE X (.Call (.Name x p) (e :: es) [] pos) (tCall sp [] E t) := by
  obtain ⟨f, fd, F, b, kp, m⟩ := O.ex
  exact pe_call F (hr.mono hj) hg m kp b .nil hx ha hdb he hpl
end
theorem boot_isi : bootBuiltins "isinstance" = some (.builtin "isinstance") := by first | exact PySem.boot_isinstance | decide +kernel
theorem small {n : Nat} (h : n ≤ 1000000) : n ≤ sizeLine := by rw [PySem.sizeLine_eq]; omega
theorem boot_int : bootBuiltins "int" = some (.type "int") := by decide +kernel
theorem boot_bool : bootBuiltins "bool" = some (.type "bool") := by decide +kernel
theorem boot_str : bootBuiltins "str" = some (.type "str") := by decide +kernel
theorem boot_tuple : bootBuiltins "tuple" = some (.type "tuple") := by decide +kernel
theorem kit_ii {K : PySem.W.Frag} : PySem.W.kitOne K (.type "int") (.type "int") = some true := by rfl
theorem kit_ib {K : PySem.W.Frag} : PySem.W.kitOne K (.type "int") (.type "bool") = some false := by first | rfl | decide +kernel | (unfold PySem.W.kitOne; rfl)
theorem kit_ss {K : PySem.W.Frag} : PySem.W.kitOne K (.type "str") (.type "str") = some true := by rfl
theorem kit_tt {K : PySem.W.Frag} : PySem.W.kitOne K (.type "tuple") (.type "tuple") = some true := by rfl
theorem atI_in {α : Type} (l : List α) {i : Int} (h0 : 0 ≤ i) (h : i.toNat < l.length) : atI l i = some (l[i.toNat]) := by
  have e : ((i.toNat : Nat) : Int) = i := by omega
  have z := atI_nat (List.getElem?_eq_getElem h)
  rw [e] at z
  exact z
theorem cutL_nn {α : Type} (l : List α) (k hi : Nat) : cutL l (some (k : Int)) (some (hi : Int)) = (l.drop k).take (hi - k) := by
  unfold cutL
  rw [HT.sIx_nat, HT.sIx_nat]
  by_cases h : k ≤ l.length
  · rw [Nat.min_eq_left h]
    by_cases h2 : hi ≤ l.length
    · rw [Nat.min_eq_left h2]
    · rw [Nat.min_eq_right (by omega), List.take_of_length_le (by simp), List.take_of_length_le (by simp; omega)]
  · rw [List.drop_eq_nil_of_le (by omega), List.drop_eq_nil_of_le (by omega)]
    simp
theorem cutL_ii {α : Type} (l : List α) {i j : Int} (hi : 0 ≤ i) (hj : 0 ≤ j) : cutL l (some i) (some j) = (l.drop i.toNat).take (j.toNat - i.toNat) := by
  have e : i = (i.toNat : Int) := by omega
  have f : j = (j.toNat : Int) := by omega
  rw [e, f, cutL_nn]
  rfl
theorem cutL_map {α β : Type} (f : α → β) (l : List α) (lo hi : Option Int) : cutL (l.map f) lo hi = (cutL l lo hi).map f := by
  unfold cutL
  rw [List.length_map, List.map_take, List.map_drop]
theorem same_new {H : Hp} {p : Addr} (h : H p = none) (o : HO) : Same H (upd H p o) := fun b u q => by rw [upd_ne (ne_of_none q h)]; exact q
theorem sq_cut {K : PySem.W.Frag} {H : Hp} {p : Addr} {cs : List Int} {lo hi : Option Int} : SqL K (upd H p (.lst (cutV (cs.map V.int) lo hi))) p ((cutL cs lo hi).map V.int) := by
  rw [← cutL_map]
  exact SqL.of upd_same
theorem iteDT {c A B : Prop} [Decidable c] (h : c) (x : A) : if decide c = true then A else B := by
  rw [decide_eq_true h]
  exact iteT x
theorem iteDF {c A B : Prop} [Decidable c] (h : ¬ c) (x : B) : if decide c = true then A else B := by
  rw [decide_eq_false h]
  exact iteF x
end L2

set_option Elab.async false
set_option linter.all false
set_option maxRecDepth 100000
set_option maxHeartbeats 4000000
namespace L2
open PySem PySem.Spec PyProof.Rows PySem.W PySem.Builtin.ObjectAttr PySem.Builtin.Getset_descriptor
/-! ## exceptions of own classes -/
section
variable {K : Frag} {e C : Addr} {M : Model} {h : Heap}
end
section
variable {X : Cx}
end
/-! ## how an exception lies behind a call: it flies; whatever is done to its own records, the rest stands -/
section
variable {X : Cx} {pins : List (Addr × Obj)} {σ : St} {H : Hp} {s : Shared}
end
section
variable {P : Program} {w : World} {K : Frag} {mg : Str → Option Value} {base : Heap} {N : List Str} {qual : Str} {scope : Scope} {f : Addr} {cd : Value} {A : Around} {outer : List Env} {s : Shared} {H : Hp} {E : XK}
end
/-! ## raise C(..) -/
section
variable {X : Cx} {x : Str} {C : Addr} {np cpos pos : Pos} {e0 : Expr} {t : TA} {E : XK}
end
/-! ## try: body; except M as n: suite -/
section
variable {X : Cx} {CX : CXT} {j k : Nat} {ps : List Str} {sp : Sp} {E : St → XK} {x : Str} {p pos : Pos} {e : Expr} {es : List Expr} {t : TA}
end
section
variable {X : Cx} {pins pins' : List (Addr × Obj)} {σ : St} {H : Hp} {s : Shared} {E : St → XK} {e : Addr}
end
section
variable {X : Cx} {pins : List (Addr × Obj)} {σ : St} {H H' : Hp} {s : Shared}
end
section
variable {X : Cx} {n x : Str} {i : Nat} {M : Addr} {body suite : List Stmt} {b₀ : Stmt} {np hpos pos : Pos} {tb : (St → XK) → TS} {ts : Addr → TS}
end
/-! ## a def that is called in an except suite -/
section
variable {P : Program} {w : World} {K : Frag} {mg : Str → Option Value} {base : Heap}
end
section
variable {X : Cx} {j k : Nat} {ps : List Str} {sp : Sp} {x : Str} {p pos : Pos} {e : Expr} {es : List Expr} {t : TA}
end
end L2

set_option Elab.async false
set_option linter.all false
set_option maxRecDepth 100000
set_option maxHeartbeats 4000000
namespace L2
open PySem PySem.Spec PyProof.Rows PySem.StrLaws
/-! ## texts: count, rfind of one sign; l * n -/
def rep (l : List Nat) (n : Nat) : List Nat := (List.replicate n l).flatten
theorem rep_len (l : List Nat) (n : Nat) : (rep l n).length = n * l.length := by
  unfold rep
  induction n with
  | zero => simp
  | succ n ih => rw [List.replicate_succ, List.flatten_cons, List.length_append, ih, Nat.succ_mul]; omega
theorem rep_all {l : List Nat} {n : Nat} {p : Nat → Prop} (h : ∀ c ∈ l, p c) : ∀ c ∈ rep l n, p c := by
  intro c hc
  unfold rep at hc
  obtain ⟨l', h1, h2⟩ := List.mem_flatten.mp hc
  rw [(List.mem_replicate.mp h1).2] at h2
  exact h c h2
theorem foldl_cps (l : List Nat) : ∀ (n : Nat) (acc : Array Nat), ((List.replicate n (⟨l⟩ : Array Nat)).foldl (· ++ ·) acc).toList = acc.toList ++ (List.replicate n l).flatten
  | 0, acc => by simp
  | n + 1, acc => by
    rw [List.replicate_succ, List.foldl_cons, foldl_cps l n, List.replicate_succ, List.flatten_cons, Array.toList_append, List.append_assoc]
theorem mul_S (l : List Nat) {n : Int} (h : 0 ≤ n) : Txt.mul (S l) n = S (rep l n.toNat) := by
  unfold Txt.mul
  split
  · have : n.toNat = 0 := by omega
    rw [this]
    rfl
  · split
    · rename_i h1 h2
      rw [Bool.or_eq_true, beq_iff_eq, beq_iff_eq] at h2
      rcases h2 with h2 | h2
      · subst h2
        unfold rep
        simp
      · have : l = [] := List.length_eq_zero_iff.mp h2
        subst this
        unfold rep
        simp
    · refine PyProof.Rows.ext_toList ?_
      show ((List.replicate n.toNat (⟨l⟩ : Array Nat)).foldl (· ++ ·) #[]).toList = (List.replicate n.toNat l).flatten
      rw [foldl_cps]
      simp
section
variable {X : Cx}
theorem op_mulS : OpR X (binaryOp .Mult) (fun x y H Q => ∃ l n, x = .str (S l) ∧ y = .int n ∧ 0 ≤ n ∧ n ≤ 1000 ∧ l.length ≤ 1000 ∧ Q (.str (S (rep l n.toNat))) H) := by
  intro pins s σ H x y v u Q I rx ry h
  obtain ⟨l, n, rfl, rfl, h0, h1, h2, q⟩ := h
  obtain ⟨t, rfl⟩ := rx
  obtain ⟨t', rfl⟩ := ry
  refine SB.mul ⟨?_, fun a b => ?_, fun a b => ?_⟩ fun t' k => ⟨.str (S (rep l n.toNat)), H, I.tok _, ⟨t', by rw [mul_S l h0]⟩, q⟩
  · have e1 : decide (n < -(2 ^ 63 : Int)) = false := decide_eq_false (by omega)
    have e2 : decide (n ≥ 2 ^ 63) = false := decide_eq_false (by omega)
    rw [e1, e2, Bool.or_false]
  · show ¬ ((l.length : Int) > (2 ^ 63 - 1) / n)
    have : (1000 : Int) ≤ (2 ^ 63 - 1) / n := by
      rw [Int.le_ediv_iff_mul_le (by omega)]
      omega
    omega
  · have hz : l.length * n.toNat ≤ 1000000 := by
      have := Nat.mul_le_mul h2 (show n.toNat ≤ 1000 by omega)
      omega
    show Builtin.Str.tooLong (l.length * n.toNat) = false
    unfold Builtin.Str.tooLong
    have := small hz
    simp
    omega
end
/-! ## == of two lists, of two tuples of flat values -/
def eqs : List V → List V → Bool
  | [], [] => true
  | x :: xs, y :: ys => eqV x y && eqs xs ys
  | _, _ => false
theorem eqs_len : ∀ {xs ys : List V}, xs.length ≠ ys.length → eqs xs ys = false
  | [], [], h => absurd rfl h
  | [], _ :: _, _ => rfl
  | _ :: _, [], _ => rfl
  | x :: xs, y :: ys, h => by
    unfold eqs
    rw [eqs_len (xs := xs) (ys := ys) (fun q => h (by rw [List.length_cons, List.length_cons, q])), Bool.and_false]
def eqAtJ (xs ys : List V) (j : Nat) : Bool := match xs[j]?, ys[j]? with
  | some x, some y => eqV x y
  | _, _ => false
theorem eqs_all : ∀ {xs ys : List V}, xs.length = ys.length → (List.range xs.length).all (eqAtJ xs ys) = eqs xs ys
  | [], [], _ => rfl
  | [], _ :: _, h => by cases h
  | _ :: _, [], h => by cases h
  | x :: xs, y :: ys, h => by
    have ih := eqs_all (xs := xs) (ys := ys) (Nat.succ.inj h)
    rw [List.length_cons, List.range_succ_eq_map, List.all_cons, List.all_map]
    unfold eqs
    rw [← ih]
    rfl
theorem Vals.at {xs : List V} {us : List Value} (r : Vals xs us) {j : Nat} (h : j < us.toArray.size) : ∃ x, xs[j]? = some x ∧ RelV x us.toArray[j] := by
  have hj : j < us.length := by simpa using h
  have hx : j < xs.length := by rw [r.length]; exact hj
  obtain ⟨u, hu, ru⟩ := r.get (List.getElem?_eq_getElem hx)
  refine ⟨xs[j], List.getElem?_eq_getElem hx, ?_⟩
  rw [List.getElem?_eq_getElem hj] at hu
  cases hu
  simpa using ru
theorem flat_at {xs : List V} (h : xs.all flatV = true) {j : Nat} {x : V} (e : xs[j]? = some x) : flatV x = true := List.all_eq_true.mp h x (List.mem_of_getElem? e)
section
variable {X : Cx}
theorem op_eqQ (hu : X.A.units < cLine) : OpR X (compareOp .Eq) (fun x y H Q => ∃ p q xs ys, x = .ref p ∧ y = .ref q ∧ ((SqL X.K H p xs ∧ SqL X.K H q ys) ∨ (SqT X.K H p xs ∧ SqT X.K H q ys)) ∧ xs.all flatV = true ∧ ys.all flatV = true ∧ Q (.bl (eqs xs ys)) H) := by
  intro pins s σ H x y v u Q I rx ry h
  obtain ⟨p, q, xs, ys, rfl, rfl, hq, fx, fy, w⟩ := h
  cases rx
  cases ry
  rcases hq with ⟨h1, h2⟩ | ⟨h1, h2⟩
  · obtain ⟨its, r, pl, hz⟩ := I.list h1
    obtain ⟨jts, r2, pl2, hz2⟩ := I.list h2
    by_cases hl : xs.length = ys.length
    · have e1 : its.toArray.size = xs.length := by rw [List.size_toArray, r.length]
      refine SeqAt.eq_listAt (e := eqAtJ xs ys) pl.isList pl2.isList (by rw [e1, hl, r2.length]; simp) hu (fun j ha hb => ?_) ⟨.bl (eqs xs ys), H, I, ?_, w⟩
      · obtain ⟨a, ea, ra⟩ := r.at ha
        obtain ⟨b, eb, rb⟩ := r2.at hb
        have e : eqAtJ xs ys j = eqV a b := by unfold eqAtJ; rw [ea, eb]
        rw [e]
        exact eqAt_V ra rb (flat_at fx ea) (flat_at fy eb)
      · rw [e1, eqs_all hl] <;> rfl
    · refine SeqAt.eq_list_lengthsAt pl.isList pl2.isList ?_ hu ⟨.bl (eqs xs ys), H, I, ?_, w⟩
      · rw [bne_iff_ne, List.size_toArray, List.size_toArray, ← r.length, ← r2.length]
        exact hl
      · rw [eqs_len hl] <;> rfl
  · obtain ⟨its, r, pl, hz⟩ := I.tuple h1
    obtain ⟨jts, r2, pl2, hz2⟩ := I.tuple h2
    have e1 : its.toArray.size = xs.length := by rw [List.size_toArray, r.length]
    have e2 : jts.toArray.size = ys.length := by rw [List.size_toArray, r2.length]
    refine SeqAt.eq_tupleAt (e := eqAtJ xs ys) (show s.heap.IsTuple p its.toArray from pl) (show s.heap.IsTuple q jts.toArray from pl2) hu (fun j ha hb => ?_) ⟨.bl (eqs xs ys), H, I, ?_, w⟩
    · obtain ⟨a, ea, ra⟩ := r.at ha
      obtain ⟨b, eb, rb⟩ := r2.at hb
      have e : eqAtJ xs ys j = eqV a b := by unfold eqAtJ; rw [ea, eb]
      rw [e]
      exact eqAt_V ra rb (flat_at fx ea) (flat_at fy eb)
    · rw [e1, e2]
      by_cases hl : xs.length = ys.length
      · rw [← hl, Nat.min_self, eqs_all hl, beq_self_eq_true, Bool.and_true] <;> rfl
      · rw [eqs_len hl, show (xs.length == ys.length) = false from by rw [beq_eq_false_iff_ne]; exact hl, Bool.and_false] <;> rfl
end
end L2

set_option Elab.async false
set_option linter.all false
set_option maxRecDepth 100000
set_option maxHeartbeats 4000000
namespace L2
open PySem PySem.Spec PyProof.Rows PySem.StrLaws
/-! ## != of lists and tuples; == of lists of the same references -/
section
variable {X : Cx}
end
/-! ## split('\n') -/
section
variable {X : Cx}
end
/-! ## the rows of a text, by their begins and ends -/
theorem same_upd {H H' : Hp} {p : Addr} {o : HO} (h : Same H H') (n : H p = none) : Same H (upd H' p o) := fun b u q => by
  rw [upd_ne (ne_of_none q n)]
  exact h b u q
end L2

set_option Elab.async false
set_option linter.all false
set_option maxRecDepth 100000
set_option maxHeartbeats 4000000
namespace L2
open PySem PySem.Spec PyProof.Rows PySem.StrLaws
/-! ## split('\n', k): cut at the first k line feeds; find('\n', i) -/
section
variable {X : Cx}
end
end L2

set_option Elab.async false
set_option linter.all false
set_option maxRecDepth 100000
set_option maxHeartbeats 4000000
namespace L2
open PySem PySem.Spec PyProof.Rows
/-! ### comprehensions: the block runs in a context of its own -/
abbrev blk (X : Cx) (scope : Scope) (cl : List (Str × Addr)) (NB : List Str) (C : Addr) (fp : List Addr) (s3 : Shared) (H3 : Hp) : Cx :=
  { X with env := compEnvC scope cl C X.env, N := NB, s₀ := s3, H₀ := H3, outer := X.stack, stack := X.stack, ex := fp, fn := fun _ => false, xe := fun _ _ => False }
def around (ix : List (Option Nat)) (σ : St) : St := ix.map fun o => o.bind fun j => (σ[j]?).bind id
structure ClOk (X : Cx) (scope : Scope) (cl : List (Str × Addr)) (NB : List Str) (ix : List (Option Nat)) : Prop where
  clos : closureFor scope X.env = pure cl
  cell : ∀ y ∈ scope.names, y.2 ≠ .cell
  kind : scope.kind = .function
  names : ∀ y ∈ scope.names, y.2 = .local → scope.names.lookup y.1 = some .local
  sub : ∀ x c, cl.lookup x = some c → X.env.cells.lookup x = some c
  has : ∀ C x, ((compEnvC scope cl C X.env).kindOf x = some .cell ∨ (compEnvC scope cl C X.env).kindOf x = some .free) → ∃ c, cl.lookup x = some c
  len : ix.length = NB.length
  at_ : ∀ (i : Nat) x j, NB[i]? = some x → ix[i]? = some (some j) → X.N[j]? = some x ∧ (X.env.kindOf x = some .cell ∨ X.env.kindOf x = some .free) ∧ ∀ C, (compEnvC scope cl C X.env).kindOf x = some .cell ∨ (compEnvC scope cl C X.env).kindOf x = some .free
section
variable {X : Cx} {scope : Scope} {cl : List (Str × Addr)} {NB : List Str} {ix : List (Option Nat)} {fp : List Addr} {pins : List (Addr × Obj)} {σ : St} {H : Hp} {s : Shared}
theorem blk_ok (hb : ClOk X scope cl NB ix) (I : Inv X pins σ H s) (hf : ∀ b ∈ fp, FpOk X pins H b) (hl : ∀ b ∈ fp, b < s.heap.objs.size) : (blk X scope cl NB s.heap.objs.size fp s H).Ok where
  mod := I.mod
  kind := hb.kind
  glob := I.ok.glob
  blt := I.ok.blt
  above := Nat.le_refl _
  inj := fun x y c h1 h2 => I.ok.inj x y c (hb.sub x c h1) (hb.sub y c h2)
  has := fun x h => hb.has _ x h
  cab := fun _ _ z => nomatch z
  hd := I.ok.hd
  frames := I.ok.frames
  stk := .inl rfl
  exf := fun b z => ⟨Nat.ne_of_lt (hl b z), fun x c e => (hf b z).2.2.2.2.1 x c (hb.sub x c e)⟩
  bs := fun b o e => I.bs b o e
  bsz := Nat.le_trans I.ok.bsz I.sz
  noex := fun b o e z => by
    rcases (hf b z).2.2.2.1 with q | q
    · exact I.ok.noex b o e q
    · exact absurd (Nat.lt_of_lt_of_le (Heap.lt_size e) (Nat.le_trans I.ok.bsz q)) (Nat.lt_irrefl _)
  exfs := fun b z q => by
    rcases List.mem_cons.mp (I.stkSub b q) with e | e
    · exact (hf b z).2.1 e
    · exact (hf b z).2.2.1 e
  funs := I.stack
  frf := I.stkFree
theorem blk_inv (hb : ClOk X scope cl NB ix) (I : Inv X pins σ H s) (hf : ∀ b ∈ fp, FpOk X pins H b) (hl : ∀ b ∈ fp, b < s.heap.objs.size) {h' : Heap} {t' : Nat} {m : Str → Option Value} (hn : h'.Ns s.heap.objs.size m)
    (k : ∀ b o, s.heap.get? b = some o → h'.get? b = some o) : Inv (blk X scope cl NB s.heap.objs.size fp s H) pins (around ix σ) H { s with heap := h', toks := t' } where
  ok := blk_ok hb I hf hl
  os := rfl
  bare := I.bare
  base := Un.kept k
  loc := by
    refine ⟨m, hn, fun i x v e1 e2 e3 => ?_⟩
    have e2' : ∃ j, ix[i]? = some (some j) ∧ σ[j]? = some (some v) := by
      unfold around at e2
      rw [List.getElem?_map] at e2
      cases q : ix[i]? with
      | none => rw [q] at e2; cases e2
      | some o =>
        rw [q] at e2
        cases o with
        | none => cases e2
        | some j =>
          refine ⟨j, rfl, ?_⟩
          simp only [Option.map_some, Option.bind_some, Option.some.injEq] at e2
          cases r : σ[j]? with
          | none => rw [r] at e2; cases e2
          | some o => rw [r] at e2; simp only [Option.bind_some, id] at e2; rw [e2]
    obtain ⟨j, q1, q2⟩ := e2'
    obtain ⟨n1, n2, n3⟩ := hb.at_ i x j e1 q1
    obtain ⟨m0, _, hl0⟩ := I.loc
    have hv : Vis X.env.scope x := n2.elim (fun z => .inr (.inl z)) fun z => .inr (.inr z)
    obtain ⟨u, r, lk⟩ := hl0 j x v n1 q2 hv
    refine ⟨u, r, .inr ⟨n3 _, ?_⟩⟩
    rcases lk with ⟨z, _⟩ | ⟨_, c, ec, o, ho, hd⟩
    · rcases n2 with n2 | n2 <;> (rw [n2] at z; cases z)
    · obtain ⟨c', hc'⟩ := hb.has s.heap.objs.size x (n3 _)
      have := hb.sub x c' hc'
      rw [ec] at this; cases this
      exact ⟨c, hc', o, k c o ho, hd⟩
  cell := fun x c e => by
    obtain ⟨v, o, ho, hd⟩ := I.cell x c (hb.sub x c e)
    exact ⟨v, o, k c o ho, hd⟩
  free := I.hok.fresh (Nat.le_refl _)
  freeC := fun x c e => I.freeC x c (hb.sub x c e)
  pin := fun p hp => by
    obtain ⟨e, n, ne, nf, d⟩ := I.pin p hp
    refine ⟨k _ _ e, n, Nat.ne_of_lt (Heap.lt_size e), fun z => ?_, d⟩
    rcases List.mem_cons.mp (I.stkSub p.1 z) with q | q
    · exact ne q
    · exact nf q
  hok := I.hok.kept k
  len := by show (around ix σ).length = NB.length; unfold around; rw [List.length_map]; exact hb.len
theorem blk_back {C : Addr} {s' : Shared} {σ' : St} {H' : Hp} {h' : Heap} (I : Inv X pins σ H s) (hC : s.heap.objs.size ≤ C) (hf : ∀ b ∈ fp, FpOk X pins H b) (J : Inv (blk X scope cl NB C fp s H) pins σ' H' s') (hs : Heap.SameBut C s'.heap h') : Inv X pins σ H' { s' with heap := h' } := by
  have nC : ∀ b o, s.heap.get? b = some o → b ≠ C := fun b o e => Nat.ne_of_lt (Nat.lt_of_lt_of_le (Heap.lt_size e) hC)
  refine I.call' (ch := fp) J.os ?_ ?_ J.bare fun b hb => ?_
  · have B := J.base
    exact ⟨fun b o e n h1 h2 => (hs.2 b (nC b o e)).trans (B.keep b o e n h1 h2), fun b o e n h1 h2 => let ⟨sl, q⟩ := B.slot b o e n h1 h2; ⟨sl, (hs.2 b (nC b o e)).trans q⟩, B.free, fun b o e h1 => let ⟨o', q⟩ := B.there b o e h1; ⟨o', (hs.2 b (nC b o e)).trans q⟩, B.tups, B.frzs, B.tbls⟩
  · intro b ob e
    have fr : H' C = none := J.free
    refine (J.hok b ob e).stay (fun c w' hc q => (hs.2 c ?_).trans q) (fun _ q => q) fun _ _ q => q
    rintro rfl
    rcases hc with rfl | hc
    · rw [fr] at e; cases e
    · rw [fr] at hc; cases hc
  · obtain ⟨_, f1, _, f3, f4, f5⟩ := hf b hb
    exact ⟨f3, f1, f4, f5⟩
def PIf (X : Cx) (ifs : List Expr) (t : TT) : Prop :=
  ∀ (pins : List (Addr × Obj)) (s : Shared) (σ : St) (H : Hp) (Q : Bool → Hp → Prop), Inv X pins σ H s → t σ H Q →
    wpAny (model X.prog X.w) X.A (forIn ifs true fun c r => if r = true then do let ok ← isTrue c X.env (eval c X.env); pure (ForInStep.yield ok) else pure (ForInStep.yield r)) (TP X pins σ Q) X.xe s
def tYes : TT := fun _ H Q => Q true H
theorem pif_nil : PIf X [] tYes := fun _ _ _ H _ I h => wpAny_tests_nil ⟨H, I, h⟩
def CompW (J : It) (D : Addr) (σ0 : St) (H0 : Hp) (g : TG) (tc : TT) (te : TE) (Q : VK) : Prop := ∃ W : Nat → Nat → St → Hp → Prop, (∃ m, W 0 m σ0 H0) ∧ ∀ i m σ H, W i m σ H →
  (J.stop i H ∧ Q (.ref D) H) ∨ (J.go i H ∧ ∃ N : St → Hp → Prop, (∀ σ' H', N σ' H' → ∃ m', m' < m ∧ W (i + 1) m' σ' H') ∧ ∀ x H', J.yld i H x H' → g x σ H' fun σ2 H2 => tc σ2 H2 fun b H3 =>
    if b = true then te σ2 H3 fun y H4 => ∃ ys, H4 D = some (.lst ys) ∧ ys.length < sizeLine ∧ N σ2 (upd H4 D (.lst (ys ++ [y]))) else N σ2 H3)
def tComp (ix : List (Option Nat)) (wi : TI) (g : TG) (tc : TT) (te : TE) : TE := fun σ H Q => wi σ H fun J H1 => ∀ D, H1 D = none → CompW J D (around ix σ) (upd H1 D (.lst [])) g tc te Q
theorem pe_comp {elt iter : Expr} {x : Str} {px : Pos} {ifs : List Expr} {pos : Pos} {wi : TI} {g : TG} {tc : TT} {te : TE} (NB : List Str) (ix : List (Option Nat)) (cl : List (Str × Addr)) (hc : X.calm = true) (hb : ClOk X scope cl NB ix) (hi : PI X (.Name x px) iter wi)
    (hg : ∀ C fp s3 H3, PG (blk X scope cl NB C fp s3 H3) (.Name x px) g) (ht : ∀ C fp s3 H3, PIf (blk X scope cl NB C fp s3 H3) ifs tc) (he : ∀ C fp s3 H3, PE (blk X scope cl NB C fp s3 H3) elt te)
    (hs : ∀ x, foldedSetIterable iter X.env x = pure x := by intro _; rfl) : PE X (.ListComp elt [⟨.Name x px, iter, ifs, 0⟩] scope pos) (tComp ix wi g tc te) := by
  intro pins s σ H Q I h
  rw [eval_ListComp]
  refine wpAny_comprehension_free (use := none) rfl hs hb.clos hb.kind hb.names (thn (hi pins s σ H _ I h) fun v s1 h1 => thn h1 fun itv s2 h2 => ?_)
  obtain ⟨it, fp, tn, J, H2, e, I2, T, st2, f2, turn0⟩ := h2
  subst e
  have hD : H2 s2.heap.objs.size = none := I2.hok.fresh (Nat.le_refl _)
  obtain ⟨W, ⟨m0, w0⟩, turn⟩ := turn0 _ hD
  have flt : ∀ b ∈ fp, b < s2.heap.objs.size := fun b z => let ⟨o, e, _⟩ := T.obj _ _ st2 b z; Heap.lt_size e
  refine wpAny_newObj_type (wpAny_newFunctionEnv hb.cell (by intro y hy; simp at hy) (fun h₁ hns₁ hsb₁ => ?_) hb.kind)
  dsimp only at hns₁ hsb₁ ⊢
  have I3 := I2.lnew (ys := []) (its := []) (t' := s2.toks) .nil (Nat.zero_le _)
  have hsz3 : (s2.heap.push { cls := .type "list", data := .seq ([] : List Value).toArray }).objs.size = s2.heap.objs.size + 1 := Heap.size_push ..
  have fp3 : ∀ b ∈ fp, FpOk X pins (upd H2 s2.heap.objs.size (.lst [])) b := fun b z => ⟨by rw [upd_ne (Nat.ne_of_lt (flt b z))]; exact (f2 b z).1, (f2 b z).2⟩
  have flt3 : ∀ b ∈ fp, b < (s2.heap.push { cls := .type "list", data := .seq ([] : List Value).toArray }).objs.size := fun b z => by rw [hsz3]; exact Nat.lt_succ_of_lt (flt b z)
  have k3 : ∀ b o, (s2.heap.push { cls := .type "list", data := .seq ([] : List Value).toArray }).get? b = some o → h₁.get? b = some o := fun b o e => hsb₁.extBut b o (Nat.ne_of_lt (Heap.lt_size e)) (Heap.get?_push_of_some _ e)
  have J0 := blk_inv hb I3 fp3 flt3 (h' := h₁) (t' := s2.toks + ([] : List (Str × Value)).length) hns₁ k3
  have st3 : tn 0 h₁ := T.keep _ _ _ st2 fun b z o e => k3 b o (Heap.get?_push_of_some _ e)
  have loop : ∀ s4 : Shared, s4 = { s2 with heap := h₁, toks := s2.toks + ([] : List (Str × Value)).length } →
      codeAny (model X.prog X.w) X.A (.compLoop (.ListComp elt [⟨.Name x px, iter, ifs, 0⟩] scope pos) 0 (.ref it) (.ref s2.heap.objs.size) (compEnvC scope cl (s2.heap.push { cls := .type "list", data := .seq ([] : List Value).toArray }).objs.size X.env))
        (compPost (model X.prog X.w) X.A X.xe none (EP X pins σ Q) (.ref s2.heap.objs.size) (s2.heap.push { cls := .type "list", data := .seq ([] : List Value).toArray }).objs.size) s4 := by
    rintro s4 rfl
    have J0' : Inv (blk X scope cl NB (s2.heap.push { cls := .type "list", data := .seq ([] : List Value).toArray }).objs.size fp _ _) pins _ _ _ := J0
    generalize hC : (s2.heap.push { cls := .type "list", data := .seq ([] : List Value).toArray }).objs.size = C at *
    refine codeAny_compLoop_tests (fun n s' => ∃ i σ' H', Inv (blk X scope cl NB C fp { s2 with heap := s2.heap.push { cls := .type "list", data := .seq ([] : List Value).toArray } } (upd H2 s2.heap.objs.size (.lst []))) pins σ' H' s' ∧ tn i s'.heap ∧ (∀ b ∈ fp, H' b = none) ∧ W i n σ' H') ?_ m0 ⟨0, _, _, J0', st3, fun b z => (fp3 b z).1, w0⟩
    rintro n s5 ⟨i, σ5, H5, I5, st5, fr5, w5⟩
    have stat : ∀ {H' : Hp}, (∀ b ∈ fp, H' b = none) → ∀ b ∈ fp, FpOk (blk X scope cl NB C fp { s2 with heap := s2.heap.push { cls := .type "list", data := .seq ([] : List Value).toArray } } (upd H2 s2.heap.objs.size (.lst []))) pins H' b := fun hn b z => by
      obtain ⟨_, f1, f2', f3, f4, f5⟩ := fp3 b z
      exact ⟨hn b z, Nat.ne_of_lt (flt3 b z), fun q => I5.ok.exfs b z q, .inl z, fun y c e => f4 y c (hb.sub y c e), f5⟩
    rcases turn i n σ5 H5 w5 with ⟨stop, qn⟩ | ⟨go, N, hN, step⟩
    · refine wpAny_mono (T.done (blk X scope cl NB C fp { s2 with heap := s2.heap.push { cls := .type "list", data := .seq ([] : List Value).toArray } } (upd H2 s2.heap.objs.size (.lst []))) rfl rfl rfl hc i pins s5 σ5 H5 (fun _ _ => False) I5 (stat fr5) st5 stop) (fun r s6 ⟨hr, I6⟩ => ?_) fun _ _ z => z.elim
      subst hr
      obtain ⟨m6, hn6, _⟩ := id I6.loc
      refine ⟨m6, hn6, fun h' hs' => ?_⟩
      exact ⟨.ref _, H5, blk_back I3 (Nat.le_of_eq hC) fp3 I6 hs', rfl, qn⟩
    · refine wpAny_mono (T.item (blk X scope cl NB C fp { s2 with heap := s2.heap.push { cls := .type "list", data := .seq ([] : List Value).toArray } } (upd H2 s2.heap.objs.size (.lst []))) rfl rfl rfl hc i pins s5 σ5 H5 (fun _ _ => False) I5 (stat fr5) st5 go) (fun r s6 ⟨u, hr, h6⟩ => ?_) fun _ _ z => z.elim
      subst hr
      show wpAny _ _ (pure () >>= fun _ => assign (.Name x px) _ u) _ _ s6
      refine wpAny_bind (wpAny_mono h6 (fun _ s7 ⟨y, H7, I7, r7, y7, st7, fr7⟩ => ?_) fun _ _ z => z.elim)
      have I7' := I7.pinned (stat fr7) (T.obj _ _ st7)
      refine wpAny_mono (hg _ _ _ _ _ s7 σ5 H7 y u _ I7' r7 (step y H7 y7)) (fun _ s8 ⟨σ8, H8, I8, q8⟩ => ?_) fun _ _ z => z.elim
      refine wpAny_mono (ht _ _ _ _ _ s8 σ8 H8 _ I8 q8) (fun ok s9 ⟨H9, I9, q9⟩ => ?_) fun _ _ z => z.elim
      have again : ∀ {s' : Shared} {H' : Hp}, Inv (blk X scope cl NB C fp { s2 with heap := s2.heap.push { cls := .type "list", data := .seq ([] : List Value).toArray } } (upd H2 s2.heap.objs.size (.lst []))) (pins ++ pinsAt fp s7.heap) σ8 H' s' → N σ8 H' → ∃ m, m < n ∧ ∃ i σ' H', Inv (blk X scope cl NB C fp { s2 with heap := s2.heap.push { cls := .type "list", data := .seq ([] : List Value).toArray } } (upd H2 s2.heap.objs.size (.lst []))) pins σ' H' s' ∧ tn i s'.heap ∧ (∀ b ∈ fp, H' b = none) ∧ W i m σ' H' := fun {s' H'} I' n' => by
        obtain ⟨m', hm, w'⟩ := hN _ _ n'
        refine ⟨m', hm, i + 1, _, H', I'.unpinned, T.keep _ _ _ st7 fun b z o e => (I'.pin (b, o) (List.mem_append_right _ (List.mem_append_right _ (mem_pinsAt z e)))).1, fun b z => ?_, w'⟩
        obtain ⟨o, e, d⟩ := T.obj _ _ st7 b z
        exact (I'.pin (b, o) (List.mem_append_right _ (List.mem_append_right _ (mem_pinsAt z e)))).2.1
      cases ok with
      | false => exact again I9 q9
      | true =>
        rw [if_pos rfl] at q9 ⊢
        refine wpAny_mono (he _ _ _ _ _ s9 σ8 H9 _ I9 q9) (fun w s10 ⟨z, H10, I10, r10, ys, hD10, hz10, n10⟩ => ?_) fun _ _ z => z.elim
        refine wpAny_mono (mt_append (X := (blk X scope cl NB C fp { s2 with heap := s2.heap.push { cls := .type "list", data := .seq ([] : List Value).toArray } } (upd H2 s2.heap.objs.size (.lst [])))) _ s10 σ8 H10 (.ref s2.heap.objs.size) [z] _ [w] (fun _ H' => H' = upd H10 s2.heap.objs.size (.lst (ys ++ [z]))) I10 rfl (.cons r10 .nil) ⟨_, ys, z, rfl, rfl, hD10, hz10, rfl⟩) (fun _ s11 ⟨_, H11, I11, _, e11⟩ => ?_) fun _ _ z => z.elim
        subst e11
        exact again I11 n10
  exact codeAny_compStart_list (loop _ rfl) (T.self _ 0 _ _ _ st3 (loop _ rfl))

/-! ### reversed(list) -/
theorem comp_list {K : PySem.W.Frag} {a D : Addr} {xs : List V} {ix : List (Option Nat)} {g : TG} {tc : TT} {te : TE} {σ : St} {H : Hp} {Q : VK} (Pv : Nat → St → Hp → Prop) (h0 : Pv 0 (around ix σ) (upd H D (.lst []))) (hl : ∀ i σ H, i ≤ xs.length → Pv i σ H → SqL K H a xs)
    (hs : ∀ i x σ H, xs[i]? = some x → Pv i σ H → g x σ H fun σ2 H2 => tc σ2 H2 fun b H3 => if b = true then te σ2 H3 fun y H4 => ∃ ys, H4 D = some (.lst ys) ∧ ys.length < sizeLine ∧ Pv (i + 1) σ2 (upd H4 D (.lst (ys ++ [y]))) else Pv (i + 1) σ2 H3)
    (hd : ∀ σ H, Pv xs.length σ H → Q (.ref D) H) :
    CompW (Itl K a) D (around ix σ) (upd H D (.lst [])) g tc te Q := by
  refine ⟨fun i m σ H => m = xs.length - i ∧ i ≤ xs.length ∧ Pv i σ H, ⟨xs.length, by simp, Nat.zero_le _, h0⟩, ?_⟩
  rintro i m σ H ⟨rfl, hi, p⟩
  have q := hl i σ H hi p
  by_cases hlt : i < xs.length
  · refine .inr ⟨⟨xs, xs[i], q, by simp [hlt]⟩, Pv (i + 1), fun σ' H' p' => ⟨xs.length - (i + 1), by omega, rfl, hlt, p'⟩, fun x H' y => ?_⟩
    obtain ⟨e, y⟩ := y
    subst e
    exact hs i x σ _ (y xs q) p
  · have e : i = xs.length := by omega
    subst e
    exact .inl ⟨⟨xs, q, Nat.le_refl _⟩, hd σ H p⟩
theorem yes {i : Nat} {v : V} {σ : St} {H : Hp} {F G : St → Hp → Prop} (h : F (σ.set i (some v)) H) : gName i v σ H (fun σ2 H2 => tYes σ2 H2 fun b H3 => if b = true then F σ2 H3 else G σ2 H3) := by
  show (if true = true then F (σ.set i (some v)) H else G (σ.set i (some v)) H)
  rw [if_pos rfl]
  exact h
theorem nd1 (x : Str) : [x].Nodup := by simp
theorem lookup_mem {α : Type} : ∀ {l : List (Str × α)} {x : Str} {k : α}, l.lookup x = some k → ∃ y, (y, k) ∈ l
  | (y, k') :: r, x, k, h => by
    rw [List.lookup_cons] at h
    split at h
    · cases h; exact ⟨y, List.mem_cons_self⟩
    · obtain ⟨z, hz⟩ := lookup_mem h
      exact ⟨z, List.mem_cons_of_mem _ hz⟩
theorem cl_none (NB : List Str) (hf : (scope.names.all fun y => y.2 != NameKind.free && y.2 != NameKind.cell) = true) (hk : scope.kind = .function) (hn : (scope.names.all fun y => y.2 != NameKind.local || scope.names.lookup y.1 == some NameKind.local) = true) : ClOk X scope [] NB (NB.map fun _ => none) := by
  have nf : ∀ y ∈ scope.names, y.2 ≠ .free ∧ y.2 ≠ .cell := fun y hy => by
    have := List.all_eq_true.mp hf y hy
    simpa using this
  have er : (scope.names.map fun (n, k) => if (k == NameKind.free && X.env.scope.kind == .function && X.env.kindOf n == some .cell) then (n, NameKind.cell) else (n, k)) = scope.names := by
    refine (List.map_congr_left fun y hy => ?_).trans (List.map_id _)
    obtain ⟨n, k⟩ := y
    have h1 : (k == NameKind.free) = false := by simpa using (nf _ hy).1
    show (if (k == NameKind.free && X.env.scope.kind == .function && X.env.kindOf n == some .cell) = true then (n, NameKind.cell) else (n, k)) = (n, k)
    rw [h1, Bool.false_and, Bool.false_and]
    rfl
  refine ⟨closureFor_none fun y hy => (nf y hy).1, fun y hy => (nf y hy).2, hk, fun y hy hl => ?_, fun x c h => (by cases h), fun C x h => ?_, by simp, fun i x j h1 h2 => ?_⟩
  · have := List.all_eq_true.mp hn y hy
    rw [hl] at this
    simpa using this
  · exfalso
    have hx : (compEnvC scope [] C X.env).kindOf x = scope.names.lookup x := by
      show List.lookup x (scope.names.map fun (n, k) => if (k == NameKind.free && X.env.scope.kind == .function && X.env.kindOf n == some .cell) then (n, NameKind.cell) else (n, k)) = _
      rw [er]
    rw [hx] at h
    rcases h with h | h
    · obtain ⟨y, hy⟩ := lookup_mem h
      exact (nf _ hy).2 rfl
    · obtain ⟨y, hy⟩ := lookup_mem h
      exact (nf _ hy).1 rfl
  · rw [List.getElem?_map] at h2
    cases q : NB[i]? with
    | none => rw [q] at h2; cases h2
    | some o => rw [q] at h2; cases h2
end
end L2

set_option Elab.async false
set_option linter.all false
set_option maxRecDepth 100000
set_option maxHeartbeats 4000000
namespace L2
open PySem PySem.Spec PyProof.Rows PySem.StrLaws
/-! ## texts: ''.join, in, <= -/
theorem strs_are : ∀ {ls : List (List Nat)} {us : List Value}, Vals (ls.map fun r => V.str (S r)) us → StrsAre us (ls.map S)
  | [], _, .nil => .nil
  | l :: ls, _, .cons r t => by
    obtain ⟨tk, rfl⟩ := r
    exact .cons _ tk (strs_are t)
theorem glue_S : ∀ (ls : List (List Nat)), Txt.join (S []) (ls.map S) = S ls.flatten := by
  intro ls
  refine (PySem.StrLaws.glued_eq_join (S []) (ls.map S)).trans ?_
  induction ls with
  | nil => rfl
  | cons l ls ih =>
    cases ls with
    | nil =>
      show S l = S [l].flatten
      simp
    | cons m ls =>
      show S l ++ S [] ++ Str.join (S []) ((m :: ls).map S) = _
      rw [ih, S_app, S_app]
      simp
theorem flat_len {ls : List (List Nat)} : ((ls.map S).map (·.length)).sum = ls.flatten.length := by
  rw [List.length_flatten, List.map_map]
  rfl
section
variable {X : Cx}
theorem mt_join : MtR X "str.join" (fun x vs H Q => ∃ (p : Addr) (ls : List (List Nat)), x = .str (S []) ∧ vs = [.ref p] ∧ SqL X.K H p (ls.map fun r => V.str (S r)) ∧ ls.flatten.length ≤ 1000000 ∧ Q (.str (S ls.flatten)) H) := by
  intro pins s σ H x vs v us Q I rx rv h
  obtain ⟨p, ls, rfl, rfl, hq, hl, q⟩ := h
  obtain ⟨t, rfl⟩ := rx
  obtain ⟨u, rfl, ru⟩ := rv.one
  cases ru
  obtain ⟨its, r, pl, hz⟩ := I.list hq
  refine join_list (items := its.toArray) (ys := ls.map S) pl.isList (by simpa using strs_are r) ?_ fun t' k => ?_
  · rw [flat_len]
    show _ + _ * 0 ≤ _
    omega
  · exact ⟨.str (S ls.flatten), H, I.tok _, ⟨t', by rw [glue_S]⟩, q⟩
end
end L2

set_option Elab.async false
set_option linter.all false
set_option maxRecDepth 100000
set_option maxHeartbeats 4000000
namespace L2
open PySem PySem.Spec PyProof.Rows
/-! ### name = comprehension -/
section
variable {X : Cx} {scope : Scope} {cl : List (Str × Addr)} {NB : List Str} {ix : List (Option Nat)} {fp : List Addr} {pins : List (Addr × Obj)} {σ : St} {H : Hp} {s : Shared}
theorem turn_N {Pv : St → Hp → Prop} {μ : St → Hp → Nat} {σ : St} {H : Hp} : ∀ σ' H', (Pv σ' H' ∧ μ σ' H' < μ σ H) → ∃ m', m' < μ σ H ∧ m' = μ σ' H' ∧ Pv σ' H' := fun _ _ h => ⟨_, h.2, rfl, h.1⟩
theorem while_in {c : TT} {tb : TS} {D : Ends} {σ : St} {H : Hp} (Pv : St → Hp → Prop) (μ : St → Hp → Nat) (h0 : Pv σ H)
    (hs : ∀ σ H, Pv σ H → c σ H fun b H1 => if b = true then ∃ N : St → Hp → Prop, (∀ σ' H', N σ' H' → ∃ m', m' < μ σ H ∧ m' = μ σ' H' ∧ Pv σ' H') ∧ tb { D with nx := N, ct := N, bk := D.nx } σ H1 else D.nx σ H1) : tWhile c tb D σ H := by
  refine ⟨fun m σ H => m = μ σ H ∧ Pv σ H, ⟨_, rfl, h0⟩, ?_⟩
  rintro m σ H ⟨rfl, p⟩
  exact hs σ H p
theorem gname_go {i : Nat} {v : V} {σ : St} {H : Hp} {Q : St → Hp → Prop} (h : Q (σ.set i (some v)) H) : gName i v σ H Q := h
theorem seq_at {t u : TS} {D : Ends} {σ : St} {H : Hp} {r : VK} {b c : St → Hp → Prop} (h : tSeq t u D σ H) : ({ nx := tSeq t u D, rt := r, bk := b, ct := c } : Ends).nx σ H := h
theorem seq_to {t u : TS} {D : Ends} {σ : St} {H : Hp} (Out : St → Hp → Prop) (hs : ∀ nx : St → Hp → Prop, (∀ σ H, Out σ H → nx σ H) → t { D with nx := nx } σ H) (fin : ∀ σ H, Out σ H → u D σ H) : tSeq t u D σ H := hs _ fin
end
end L2

set_option Elab.async false
set_option linter.all false
set_option maxRecDepth 100000
set_option maxHeartbeats 4000000
namespace L2
open PySem PySem.Spec PyProof.Rows PySem.StrLaws
theorem cast_to {α : Type} {M : Model} {A : Around} {E : Value → Shared → Prop} {s : Shared} {t t' : Sem α} {Q : α → Shared → Prop} (h : t = t') (q : wpAny M A t' Q E s) : wpAny M A t Q E s := h ▸ q
theorem tuple_index3 {prog : Program} {w : World} {A : Around} {E : Value → Shared → Prop} {s : Shared} {t : Addr} {x0 x1 x2 x : Str} {t0 t1 t2 u : Tok} {Q : Value → Shared → Prop}
    (ht : IsTup s.heap t #[.str x0 t0, .str x1 t1, .str x2 t2]) (j : Nat) (hj : [x0, x1, x2].idxOf x = j) (hx : x ∈ [x0, x1, x2]) (h : Q (.int (j : Int) s.toks) { s with toks := s.toks + 1 }) :
    wpAny (model prog w) A (call (.builtin "tuple.index") [.ref t, .str x u]) Q E s := by
  refine wpAny_call_entry PySem.F.slot_tuple_index ht.typeIs PySem.F.entry_tuple_index ?_ (PySem.F.args_tuple_index_2 _ _)
  show wpAny _ _ (Builtin.Tuple.tupleItemsOf (.ref t) >>= _) _ _ s
  refine wpAny_bind (tupleItemsOf_ ht ?_)
  have e : ∀ (f : Nat → Option Fin × Unit → Sem (ForInStep (Option Fin × Unit))), forIn ([:3] : Std.Legacy.Range) ((none : Option Fin), ()) f = forIn [0, 1, 2] ((none : Option Fin), ()) f := fun f => by
    rw [Std.Legacy.Range.forIn_eq_forIn_range']
    rfl
  refine wpAny_bind (wpAny_pure (wpAny_bind (wpAny_pure (wpAny_bind (cast_to (e _) ?_)))))
  have hit : ∀ (i : Nat) (y : Str) (ty : Tok) (g : ForInStep (Option Fin × Unit) → Sem (Option Fin × Unit)) (R : Option Fin × Unit → Shared → Prop), (y = x → wpAny (model prog w) A.in1 (g (.done (some (.done (.ret (.int (i : Int) s.toks))), ()))) R E { s with toks := s.toks + 1 }) → (y ≠ x → wpAny (model prog w) A.in1 (g (.yield (none, ()))) R E s) →
      wpAny (model prog w) A.in1 ((do
        let b ← eqBool (Value.str y ty) (Value.str x u)
        if b = true then do
          let r ← retInt (i : Int)
          pure (ForInStep.done (some r, ()))
        else pure (ForInStep.yield (none, ()))) >>= g) R E s := by
    intro i y ty g R h1 h2
    refine wpAny_bind (wpAny_bind (eqBool_str ?_))
    by_cases hy : y = x
    · subst hy
      rw [beq_self_eq_true, if_pos rfl]
      refine wpAny_bind ?_
      unfold retInt
      refine wpAny_bind (wpAny_mkInt (wpAny_pure (wpAny_pure (h1 rfl))))
    · rw [show (y == x) = false from by simpa using hy, if_neg Bool.false_ne_true]
      exact wpAny_pure (h2 hy)
  subst hj
  have done : ∀ i : Nat, [x0, x1, x2].idxOf x = i → wpAny (model prog w) A.in1 (pure ((some (Fin.done (.ret (.int (i : Int) s.toks))), ()) : Option Fin × Unit)) (fun a s' => wpAny (model prog w) A.in1 (match a.fst with | some r => pure r | none => (do rule "tuple.index.not-found"; raiseErrorWords "ValueError" "tuple.index(x): x not in tuple")) (fun fin s' => ∃ v, fin = Fin.done (Flow.ret v) ∧ Q v s') E s') E { s with toks := s.toks + 1 } := by
    intro i hi
    refine wpAny_pure (wpAny_pure ⟨_, rfl, ?_⟩)
    rw [← hi]
    exact h
  rw [List.forIn_cons]
  refine hit 0 x0 t0 _ _ (fun e0 => done 0 ?_) (fun n0 => ?_)
  · rw [e0, List.idxOf_cons_self]
  refine cast_to (List.forIn_cons _ 1 [2] _) ?_
  refine hit 1 x1 t1 _ _ (fun e1 => done 1 ?_) (fun n1 => ?_)
  · rw [List.idxOf_cons, show (x0 == x) = false from by simpa using n0, e1]
    show [x, x2].idxOf x + 1 = 1
    rw [List.idxOf_cons_self]
  refine cast_to (List.forIn_cons _ 2 [] _) ?_
  refine hit 2 x2 t2 _ _ (fun e2 => done 2 ?_) (fun n2 => ?_)
  · rw [List.idxOf_cons, show (x0 == x) = false from by simpa using n0, List.idxOf_cons, show (x1 == x) = false from by simpa using n1, e2]
    show [x].idxOf x + 1 + 1 = 2
    rw [List.idxOf_cons_self]
  · simp only [List.mem_cons, List.not_mem_nil, or_false] at hx
    rcases hx with z | z | z
    · exact absurd z.symm n0
    · exact absurd z.symm n1
    · exact absurd z.symm n2
theorem idx_S (a b c d : Nat) : [S [a], S [b], S [c]].idxOf (S [d]) = [a, b, c].idxOf d := by
  have e : ∀ x : Nat, (S [x] == S [d]) = (x == d) := fun x => by
    by_cases h : x = d
    · subst h; simp
    · have h' : ¬ S [x] = S [d] := fun z => h (List.cons.inj (S_inj z)).1
      rw [show (S [x] == S [d]) = false from by simpa using h', show (x == d) = false from by simpa using h]
  simp only [List.idxOf_cons, List.idxOf_nil, e]
section
variable {X : Cx}
theorem mt_tindex : MtR X "tuple.index" (fun x vs H Q => ∃ (p : Addr) (a b c d : Nat), x = .ref p ∧ vs = [.str (S [d])] ∧ SqT X.K H p [.str (S [a]), .str (S [b]), .str (S [c])] ∧ d ∈ [a, b, c] ∧ Q (.int (([a, b, c].idxOf d : Nat) : Int)) H) := by
  intro pins s σ H x vs v us Q I rx rv h
  obtain ⟨p, a, b, c, d, rfl, rfl, hq, hd, q⟩ := h
  cases rx
  obtain ⟨u, rfl, tu, rfl⟩ := rv.one
  obtain ⟨its, r, pl, hz⟩ := I.tuple hq
  cases r with
  | cons r0 r =>
    cases r with
    | cons r1 r =>
      cases r with
      | cons r2 r =>
        cases r
        obtain ⟨t0, rfl⟩ := r0
        obtain ⟨t1, rfl⟩ := r1
        obtain ⟨t2, rfl⟩ := r2
        refine tuple_index3 (x0 := S [a]) (x1 := S [b]) (x2 := S [c]) (t0 := t0) (t1 := t1) (t2 := t2) pl _ (idx_S a b c d) ?_ ⟨.int _, H, I.tok _, ⟨_, rfl⟩, q⟩
        simp only [List.mem_cons, List.not_mem_nil, or_false] at hd ⊢
        rcases hd with z | z | z
        · exact .inl (by rw [z])
        · exact .inr (.inl (by rw [z]))
        · exact .inr (.inr (by rw [z]))
end
def TupK (K : PySem.W.Frag) (A : Addr) (xs : List V) : Prop := ∃ (o : Obj) (its : Array Value) (n : Nat), K.lookup A = some o ∧ o.cls = .type "tuple" ∧ o.dict = none ∧ o.data = .seq its n ∧ its.size ≤ sizeLine ∧ Vals xs its.toList
theorem TupK.sq {K : PySem.W.Frag} {H : Hp} {A : Addr} {xs : List V} (h : TupK K A xs) : SqT K H A xs := by
  obtain ⟨o, its, n, h1, h2, h3, h4, h5, h6⟩ := h
  exact .inr ⟨o, its, n, h1, h2, h4, h5, h6⟩
theorem TupK.ty {K : PySem.W.Frag} {H : Hp} {A : Addr} {xs : List V} (h : TupK K A xs) : tyV K "tuple" (.ref A) H := by
  obtain ⟨o, its, n, h1, h2, h3, h4, h5, h6⟩ := h
  exact .inr (.inl ⟨rfl, o, h1, h2, h3⟩)
theorem TupK.three {K : PySem.W.Frag} {A : Addr} {a b c : Nat} {ta tb tc : Tok} {n : Nat} {sl : Array (Option Value)} (h : K.lookup A = some { cls := .type "tuple", dict := none, data := .seq #[.str (S [a]) ta, .str (S [b]) tb, .str (S [c]) tc] n, slots := sl }) :
    TupK K A [.str (S [a]), .str (S [b]), .str (S [c])] := ⟨_, _, n, h, rfl, rfl, rfl, by show 3 ≤ sizeLine; decide, .cons ⟨_, rfl⟩ (.cons ⟨_, rfl⟩ (.cons ⟨_, rfl⟩ .nil))⟩
def optV : Option Nat → V
  | none => .non
  | some n => .int (n : Int)
end L2

set_option Elab.async false
set_option linter.all false
set_option maxRecDepth 100000
set_option maxHeartbeats 4000000
namespace L2
open PySem PySem.Spec PyProof.Rows
/-! ## range with a step; list(range(..)) -/
def Its (lo c : Int) (n : Nat) : It := ⟨fun i _ => i < n, fun i H x H' => H' = H ∧ x = .int (lo + i * c), fun i _ => n ≤ i⟩
theorem turn_step {P : Program} {w : World} {K : PySem.W.Frag} {tg : Expr} (it : Addr) (lo c : Int) (n : Nat) : Turn P w K tg (Its lo c n) [it] it (fun i h => IsRangeIter h it (lo + (i : Nat) * c) ((n : Int) - (i : Nat)) c) where
  mem := by simp
  obj := fun i h st b hb => by
    have e : b = it := by simpa using hb
    subst e
    exact ⟨_, st, fun v z => by
      have z' : Data.fields _ = Data.cell v := z
      cases z'⟩
  keep := fun i h h' st k => k it (by simp) _ st
  item := by
    intro X hP hw hK hc i pins s σ H E I hf st hg
    subst hP hw hK
    obtain ⟨f0, f1, f2, f3, f4, f5⟩ := hf it (by simp)
    have W := Walks.range (prog := X.prog) (w := X.w) (I.ok.hd hc) it lo c n
    refine W.item i s _ _ hg st fun v h' tk hv st' kk => ?_
    obtain ⟨t, rfl⟩ := hv
    have I1 : Inv X pins σ H { s with heap := h', toks := tk } := I.turned (fun b o hb e => kk b o (by simpa using hb) e) f0 f1 f3 f4 f5
    exact ⟨_, rfl, go_of (s := { s with heap := h', toks := tk }) (n := "range_iterator") st' rfl rfl (by decide) ⟨.int (lo + i * c), H, I1, ⟨t, rfl⟩, ⟨rfl, rfl⟩, st', fun b hb => (hf b hb).1⟩⟩
  done := by
    intro X hP hw hK hc i pins s σ H E I hf st hg
    subst hP hw hK
    obtain ⟨f0, f1, f2, f3, f4, f5⟩ := hf it (by simp)
    exact wpAny_pyNext_range_end (I.ok.hd hc) st (by have : n ≤ i := hg; omega) fun h' eb => ⟨rfl, I.turned (t' := s.toks) (fun b o hb e => eb b o hb e) f0 f1 f3 f4 f5⟩
  self := fun _ _ _ _ _ st h => wpAny_pyIter_rangeiter st h
section
variable {X : Cx} {tg : Expr}
theorem range_it3 {pins : List (Addr × Obj)} {σ : St} {H : Hp} {s : Shared} {R : It → Hp → Prop} {E : Value → Shared → Prop} {lo hi c : Int} {n : Nat} {t u v : Tok} {tk : Nat} (I : Inv X pins σ H s) (hs : Builtin.Range.small lo hi c = true) (hn : Builtin.Range.rangeSize lo hi c = (n : Int))
    (q : R (Its lo c n) H) : wpAny (model X.prog X.w) X.A (pyIter (.ref s.heap.objs.size)) (PIE X pins σ tg R) E { s with heap := s.heap.push { cls := .type "range", data := .fields #[.int lo t, .int hi u, .int c v] }, toks := tk } := by
  refine wpAny_pyIter_range (IsRange.new ..) hs ?_
  have I1 : Inv X pins σ H { s with heap := s.heap.push { cls := .type "range", data := .fields #[.int lo t, .int hi u, .int c v] }, toks := tk } := I.kept fun b o e => Heap.get?_push_of_some _ e
  refine ⟨(s.heap.push { cls := .type "range", data := .fields #[.int lo t, .int hi u, .int c v] }).objs.size, [(s.heap.push { cls := .type "range", data := .fields #[.int lo t, .int hi u, .int c v] }).objs.size], _, _, H, rfl,
    I1.kept (t' := tk) fun b o e => Heap.get?_push_of_some _ e, turn_step _ lo c n, ?_, fun b hb => ?_, q⟩
  · have e1 : lo + ((0 : Nat) : Int) * c = lo := by simp
    have e2 : ((n : Nat) : Int) - ((0 : Nat) : Int) = Builtin.Range.rangeSize lo hi c := by rw [hn]; omega
    show IsRangeIter _ _ (lo + ((0 : Nat) : Int) * c) ((n : Int) - ((0 : Nat) : Int)) c
    rw [e1, e2]
    exact Heap.get?_push_size _ rfl
  · have e : b = (s.heap.push { cls := .type "range", data := .fields #[.int lo t, .int hi u, .int c v] }).objs.size := by simpa using hb
    subst e
    exact I1.fpOk (Nat.le_refl _) (I1.hok.fresh (Nat.le_refl _))
def Stp (lo hi c : Int) (n : Nat) : Prop := c ≠ 0 ∧ Builtin.divisionGoesByPylong (hi - lo) c = false ∧ Builtin.Range.small lo hi c = true ∧ Builtin.Range.rangeSize lo hi c = (n : Int)
def iRng3 (ta : TA) : TI := fun σ H R => ta σ H fun vs H1 => ∃ (i j c : Int) (n : Nat), vs = [.int i, .int j, .int c] ∧ Stp i j c n ∧ R (Its i c n) H1
theorem pi_range3 {a b d : Expr} {ta : TA} {p pos : Pos} (hg : Gl X "range") (hm : X.mg "range" = none) (ha : PA X [a, b, d] ta) (hs : starEach [a, b, d] X.env = (false, eval a X.env) :: starEach [b, d] X.env := by rfl) (hs2 : (backTo pos (starEach [b, d] X.env)).any (·.1) = false := by rfl) :
    PI X tg (.Call (.Name "range" p) [a, b, d] [] pos) (iRng3 ta) := by
  intro pins s σ H R I h
  refine Call_ (ld_blt I hg hm boot_range (PyProof.Rows.callWith_type1 (thn (ha pos pins s σ H _ I h) fun us s1 ⟨vs, H1, I1, r1, q1⟩ => ?_) hs hs2))
  obtain ⟨i, j, c, n, e, ⟨q1, q2, q3, q4⟩, q⟩ := q1
  subst e
  cases r1 with
  | cons r rr =>
    cases rr with
    | cons r' rr =>
      cases rr with
      | cons r'' rr =>
        cases rr
        obtain ⟨t, rfl⟩ := r
        obtain ⟨t', rfl⟩ := r'
        obtain ⟨t'', rfl⟩ := r''
        exact call_range_3 q1 (range_it3 I1 q3 q4 q) (.inl q2)
theorem for_step {lo c : Int} {n : Nat} {g : TG} {tb : TS} {D : Ends} {σ : St} {H : Hp} (Pv : Nat → St → Hp → Prop) (h0 : Pv 0 σ H)
    (hs : ∀ i σ H, i < n → Pv i σ H → g (.int (lo + i * c)) σ H fun σ2 H2 => tb { D with nx := Pv (i + 1), ct := Pv (i + 1), bk := D.nx } σ2 H2) (hd : ∀ σ H, Pv n σ H → D.nx σ H) :
    ∃ W : Nat → Nat → St → Hp → Prop, (∃ m, W 0 m σ H) ∧ ∀ i m σ H, W i m σ H →
      ((Its lo c n).stop i H ∧ D.nx σ H) ∨ ((Its lo c n).go i H ∧ ∃ N : St → Hp → Prop, (∀ σ' H', N σ' H' → ∃ m', m' < m ∧ W (i + 1) m' σ' H') ∧ ∀ x H', (Its lo c n).yld i H x H' → g x σ H' fun σ2 H2 => tb { D with nx := N, ct := N, bk := D.nx } σ2 H2) := by
  refine ⟨fun i m σ H => m = n - i ∧ i ≤ n ∧ Pv i σ H, ⟨n, by simp, Nat.zero_le _, h0⟩, ?_⟩
  rintro i m σ H ⟨rfl, hi, p⟩
  by_cases hlt : i < n
  · refine .inr ⟨hlt, Pv (i + 1), fun σ' H' p' => ⟨n - (i + 1), by omega, rfl, hlt, p'⟩, fun x H' y => ?_⟩
    obtain ⟨e, y⟩ := y
    subst e y
    exact hs i σ _ hlt p
  · have e : i = n := by omega
    subst e
    exact .inl ⟨Nat.le_refl _, hd σ H p⟩
/-! a comprehension over a range -/
/-! the range as an object -/
end
theorem size_down (i j : Int) : Builtin.Range.rangeSize i j (-1) = ((i - j).toNat : Int) := by
  unfold Builtin.Range.rangeSize
  rw [if_neg (by decide), show -(-1 : Int) = 1 by decide, Int.ediv_one]
  split <;> omega
theorem small_down {i j : Int} (h1 : -100000 ≤ i) (h2 : i ≤ 100000) (h3 : -100000 ≤ j) (h4 : j ≤ 100000) : Builtin.Range.small i j (-1) = true := by
  unfold Builtin.Range.small
  rw [size_down, if_neg (by decide)]
  simp only [Builtin.Range.rangeFitsLong, Bool.and_eq_true, Bool.or_eq_true, decide_eq_true_eq, beq_iff_eq]
  omega
theorem Stp.down {i j : Int} (h1 : -100000 ≤ i) (h2 : i ≤ 100000) (h3 : -100000 ≤ j) (h4 : j ≤ 100000) : Stp i j (-1) (i - j).toNat :=
  ⟨by decide, PyProof.noPylong_small (by omega), small_down h1 h2 h3 h4, size_down i j⟩
end L2

set_option Elab.async false
set_option linter.all false
set_option maxRecDepth 100000
set_option maxHeartbeats 4000000
namespace L2
/-! ## brackets of one kind: the walk and the heap -/
def stk (o c : Nat) (l : List Nat) : Nat → List Nat
  | 0 => []
  | i + 1 => if l[i]? = some o then i :: stk o c l i else if l[i]? = some c then (stk o c l i).tail else stk o c l i
def stpW (o c : Nat) (x : Option Nat) (i : Nat) : Nat × Option Nat → Nat × Option Nat
  | (m, some y) => (m, some y)
  | (m, none) => if x = some c then (if m = 0 then (0, some i) else (m - 1, none)) else if x = some o then (m + 1, none) else (m, none)
theorem stpW_none (o c : Nat) (x : Option Nat) (i m : Nat) : stpW o c x i (m, none) = if x = some c then (if m = 0 then (0, some i) else (m - 1, none)) else if x = some o then (m + 1, none) else (m, none) := rfl
theorem stpW_some (o c : Nat) (x : Option Nat) (i m y : Nat) : stpW o c x i (m, some y) = (m, some y) := rfl
def wk (o c : Nat) (l : List Nat) (p : Nat) : Nat → Nat × Option Nat
  | 0 => (0, none)
  | d + 1 => stpW o c l[p + 1 + d]? (p + 1 + d) (wk o c l p d)
theorem wk_stay {o c : Nat} {l : List Nat} {p d y : Nat} (h : (wk o c l p d).2 = some y) : ∀ e, (wk o c l p (d + e)).2 = some y
  | 0 => h
  | e + 1 => by
    have ih := wk_stay h e
    show (stpW o c _ _ (wk o c l p (d + e))).2 = some y
    generalize wk o c l p (d + e) = u at ih
    obtain ⟨m, z⟩ := u
    cases z with
    | none => cases ih
    | some z => exact ih
theorem stk_iff {o c : Nat} {l : List Nat} (hoc : o ≠ c) : ∀ (i m p : Nat), (stk o c l i)[m]? = some p ↔ p < i ∧ l[p]? = some o ∧ wk o c l p (i - (p + 1)) = (m, none)
  | 0, m, p => by simp [stk]
  | i + 1, m, p => by
    have ih := fun m => stk_iff (l := l) hoc i m p
    have hw : p < i → wk o c l p (i + 1 - (p + 1)) = stpW o c l[i]? i (wk o c l p (i - (p + 1))) := fun hp => by
      have e : i + 1 - (p + 1) = (i - (p + 1)) + 1 := by omega
      rw [e]
      show stpW o c l[p + 1 + (i - (p + 1))]? (p + 1 + (i - (p + 1))) _ = _
      rw [show p + 1 + (i - (p + 1)) = i by omega]
    have h0 : wk o c l i (i + 1 - (i + 1)) = (0, none) := by rw [Nat.sub_self]; rfl
    unfold stk
    by_cases ho : l[i]? = some o
    · rw [if_pos ho]
      have hs : ∀ u : Nat × Option Nat, stpW o c l[i]? i u = (match u with | (m, some y) => (m, some y) | (m, none) => (m + 1, none)) := fun u => by
        obtain ⟨a, b⟩ := u
        cases b with
        | some y => rfl
        | none =>
          rw [stpW_none, ho, if_neg (fun z => hoc (Option.some.inj z)), if_pos rfl]
      cases m with
      | zero =>
        rw [List.getElem?_cons_zero]
        constructor
        · intro h
          cases h
          exact ⟨by omega, ho, h0⟩
        · rintro ⟨h1, h2, h3⟩
          by_cases hp : p < i
          · rw [hw hp, hs] at h3
            generalize wk o c l p (i - (p + 1)) = u at h3
            obtain ⟨a, b⟩ := u
            cases b with
            | some y => cases h3
            | none => cases h3
          · rw [show p = i by omega]
      | succ m =>
        rw [List.getElem?_cons_succ, ih m]
        constructor
        · rintro ⟨h1, h2, h3⟩
          exact ⟨by omega, h2, by rw [hw h1, hs, h3]⟩
        · rintro ⟨h1, h2, h3⟩
          by_cases hp : p < i
          · refine ⟨hp, h2, ?_⟩
            rw [hw hp, hs] at h3
            generalize wk o c l p (i - (p + 1)) = u at h3 ⊢
            obtain ⟨a, b⟩ := u
            cases b with
            | some y => cases h3
            | none => cases h3; rfl
          · have : p = i := by omega
            subst this
            rw [h0] at h3
            cases h3
    · rw [if_neg ho]
      have np : p < i + 1 → l[p]? = some o → p < i := fun h1 h2 => by
        rcases Nat.lt_or_eq_of_le (Nat.le_of_lt_succ h1) with z | z
        · exact z
        · subst z; exact absurd h2 ho
      by_cases hc : l[i]? = some c
      · rw [if_pos hc]
        have hs : ∀ u : Nat × Option Nat, stpW o c l[i]? i u = (m, none) ↔ u = (m + 1, none) := fun u => by
          obtain ⟨a, b⟩ := u
          cases b with
          | some y => rw [stpW_some]; constructor <;> (intro h; cases h)
          | none =>
            rw [stpW_none, if_pos hc]
            by_cases ha : a = 0
            · rw [if_pos ha, ha]
              constructor <;> (intro h; cases h)
            · rw [if_neg ha]
              constructor
              · intro h
                have : a - 1 = m := congrArg Prod.fst h
                rw [show a = m + 1 by omega]
              · intro h
                have : a = m + 1 := congrArg Prod.fst h
                rw [this]
                rfl
        rw [List.getElem?_tail, ih (m + 1)]
        constructor
        · rintro ⟨h1, h2, h3⟩
          exact ⟨by omega, h2, by rw [hw h1, hs]; exact h3⟩
        · rintro ⟨h1, h2, h3⟩
          have hp := np h1 h2
          exact ⟨hp, h2, by rw [hw hp, hs] at h3; exact h3⟩
      · rw [if_neg hc]
        have hs : ∀ u : Nat × Option Nat, stpW o c l[i]? i u = u := fun u => by
          obtain ⟨a, b⟩ := u
          cases b with
          | some y => rfl
          | none => rw [stpW_none, if_neg hc, if_neg ho]
        rw [ih m]
        constructor
        · rintro ⟨h1, h2, h3⟩
          exact ⟨by omega, h2, by rw [hw h1, hs]; exact h3⟩
        · rintro ⟨h1, h2, h3⟩
          have hp := np h1 h2
          exact ⟨hp, h2, by rw [hw hp, hs] at h3; exact h3⟩
/-! ## the three kinds -/
def clo (x : Nat) : Option Nat := if x = 40 then some 41 else if x = 91 then some 93 else if x = 123 then some 125 else none
def ope (x : Nat) : Option Nat := if x = 41 then some 40 else if x = 93 then some 91 else if x = 125 then some 123 else none
theorem clo_ope {x c : Nat} (h : clo x = some c) : ope c = some x ∧ x ≠ c ∧ ope x = none ∧ clo c = none := by
  unfold clo at h
  split at h
  · cases h; subst x; decide
  · split at h
    · cases h; subst x; decide
    · split at h
      · cases h; subst x; decide
      · cases h
theorem ope_clo {x o : Nat} (h : ope x = some o) : clo o = some x ∧ o ≠ x ∧ clo x = none ∧ ope o = none := by
  unfold ope at h
  split at h
  · cases h; subst x; decide
  · split at h
    · cases h; subst x; decide
    · split at h
      · cases h; subst x; decide
      · cases h
def pt (l : List Nat) (i p : Nat) : Option Nat := match l[p]? with
  | none => none
  | some x => match clo x with
    | some c => if p < i then (wk x c l p (i - (p + 1))).2 else none
    | none => match ope x with
      | some o => if p < i then (stk o x l p).head? else none
      | none => none
theorem wk_succ {o c : Nat} {l : List Nat} {p i : Nat} (hp : p < i) : wk o c l p (i + 1 - (p + 1)) = stpW o c l[i]? i (wk o c l p (i - (p + 1))) := by
  have e : i + 1 - (p + 1) = (i - (p + 1)) + 1 := by omega
  rw [e]
  show stpW o c l[p + 1 + (i - (p + 1))]? (p + 1 + (i - (p + 1))) _ = _
  rw [show p + 1 + (i - (p + 1)) = i by omega]
theorem stk_len (o c : Nat) (l : List Nat) : ∀ i, (stk o c l i).length ≤ i
  | 0 => Nat.le_refl _
  | i + 1 => by
    have ih := stk_len o c l i
    unfold stk
    split
    · rw [List.length_cons]; omega
    · split
      · rw [List.length_tail]; omega
      · omega
theorem stk_back {o c : Nat} {l : List Nat} (hoc : o ≠ c) (i m : Nat) : (stk o c l (i + 1))[m]? = if l[i]? = some o then (if m = 0 then some i else (stk o c l i)[m - 1]?) else if l[i]? = some c then (stk o c l i)[m + 1]? else (stk o c l i)[m]? := by
  show (if l[i]? = some o then i :: stk o c l i else if l[i]? = some c then (stk o c l i).tail else stk o c l i)[m]? = _
  split
  · cases m with
    | zero => rfl
    | succ m => rw [if_neg (by omega)]; rfl
  · split
    · rw [List.getElem?_tail]
    · rfl
end L2

set_option Elab.async false
set_option linter.all false
set_option maxRecDepth 100000
set_option maxHeartbeats 4000000
namespace L2
open PySem PySem.Spec PyProof.Rows
/-! ### lists of pairs as tables -/
section
variable {κ : Type} [DecidableEq κ]
end


/-! ### a tracked dict, its keys ints and texts or tuples of these -/
section
variable {P : Program} {w : World} {H : Hp} {h : Heap} {a : Addr}
end

section
variable {X : Cx} {pins : List (Addr × Obj)} {σ : St} {H : Hp} {s : Shared} {a : Addr} {y v : V} {u r : Value} {o : Option V} {A : Around} {E : Value → Shared → Prop}

end

section
variable {X : Cx} {pins : List (Addr × Obj)} {σ : St} {H : Hp} {s : Shared} {a : Addr} {kvs : List (Key × V)} {k : Key} {u : Value} {A : Around} {E : Value → Shared → Prop}
end


/-! ### readings and rules -/
def NoSl (i : Expr) : Prop := ∀ ov iv, subscripted i false ov iv = operate [ov, iv] (getItem ov iv)
theorem subD_of {prog : Program} {w : World} {A : Around} {E : Value → Shared → Prop} {s : Shared} {env : Env} {value slice : Expr} {pos : Pos} {T id : String} {Q : Value → Shared → Prop}
    (hl : typeLookup (.type T) "__getitem__" = pure (some (.builtin id))) (hs : NoSl slice)
    (h : wpAny (model prog w) A (eval value env) (fun o s₁ => wpAny (model prog w) A (eval slice env) (fun i s₂ => s₂.TypeIs o T ∧ wpAny (model prog w) A (getItem o i) Q E s₂) E s₁) E s) :
    wpAny (model prog w) A (eval (.Subscript value slice pos) env) Q E s := by
  refine Subscript_ (wpAny_mono h (fun o s₁ h₁ => wpAny_mono h₁ (fun i s₂ h₂ => ?_) fun _ _ x => x) fun _ _ x => x)
  obtain ⟨hT, h₂⟩ := h₂
  unfold subscriptTail
  refine wpAny_bind ?_
  rw [getitemInPython_of_ne hT.not_modules]
  refine wpAny_bind (wpAny_specialOf hT hl ?_)
  have fin : wpAny (model prog w) A (subscripted slice false o i) (fun r s₃ => wpAny (model prog w) A (letTemporaryGo value o r >>= fun _ => pure r) Q E s₃) E s₂ := by
    rw [hs o i]
    exact wpAny_operating (wpAny_mono h₂ (fun r s₃ h₃ => wpAny_bind (wpAny_letTemporaryGo (wpAny_pure h₃))) fun _ _ x => x)
  first
    | exact wpAny_pure (wpAny_bind fin)
    | exact wpAny_bind (wpAny_pure (wpAny_bind fin))
    | exact wpAny_bind fin

section
variable {X : Cx} {o i e value : Expr} {pos pos' tpos : Pos} {td ty tv : TE}
end


/-! ### displays -/
section
variable {X : Cx} {pos : Pos}
end

/-! ### methods -/
section
variable {X : Cx} {pins : List (Addr × Obj)} {σ : St} {H : Hp} {s : Shared} {a : Addr} {y d : V} {u r : Value} {o : Option V} {A : Around} {E : Value → Shared → Prop}
end

section
variable {X : Cx} {o e f : Expr} {apos cpos : Pos} {td ty tx : TE}
end

/-! ### dict(d): a copy -/
section
variable {X : Cx} {pins : List (Addr × Obj)} {σ : St} {H : Hp} {s : Shared} {a : Addr} {kvs : List (Key × V)} {A : Around} {E : Value → Shared → Prop}
end


section
variable {X : Cx} {pins : List (Addr × Obj)} {σ : St} {H : Hp} {s : Shared} {a : Addr} {y : V} {u : Value} {A : Around} {E : Value → Shared → Prop}
end
section
variable {X : Cx}
end
end L2

set_option Elab.async false
set_option linter.all false
set_option maxRecDepth 100000
set_option maxHeartbeats 4000000
namespace L2
open PySem PySem.Spec PyProof.Rows
/-! ## defs with defaults -/
structure FunD (K : PySem.W.Frag) (x qual : Str) (st : Stmt) (dV : Value) (f : Addr) (fd : FuncData) : Prop where
  ex : ∃ (oc : Value) (od : Option Addr) (kV doc pm : Value) (an : Option Addr) (cdv ct : Value) (osl : Array (Option Value)),
    fd = PySem.W.fnOf x qual (defArgs st) (defBody st) (defScope st) dV kV doc pm an cdv ct ∧ K.lookup f = some ⟨oc, od, .func fd, osl⟩ ∧ PySem.W.codeIn K cdv qual = true
  kp : PySem.W.keepIn K (.ref f) = true
section
variable {P : Program} {w : World} {K : PySem.W.Frag} {mg : Str → Option Value} {base : Heap}
theorem FunD.ok {x qual : Str} {st : Stmt} {dV : Value} {f : Addr} {fd : FuncData} {N ps : List Str} {k : Nat} {sp : Sp} (F : FunD K x qual st dV f fd) (S : FnScope N ps (defScope st)) (len : ∀ vs H Q E, sp vs H Q E → vs.length = ps.length)
    (hbody : ∀ (cdv : Value) (A : Around) (outer : List Env) (s : Shared) (H : Hp) (vs : List V) (Q : VK) (E : XK), Room k (A.deeper (envOfC qual (defScope st) s.heap.objs.size f cdv)) → sp vs H Q E →
      ∃ t, PSs (cxOf CX0 P w K mg base N qual (defScope st) f cdv A outer s H E).nox (defBody st) t ∧ t { nx := fun _ H' => Q .non H', rt := Q } (start N vs) H) : FnOk P w K mg base CX0 (k + 1) f fd ps sp := by
  obtain ⟨oc, od, kV, doc, pm, an, cdv, ct, osl, rfl, lk, hcd⟩ := F.ex
  refine fn_of lk hcd S len fun A outer s H vs Q E hr hsp => ?_
  obtain ⟨t, h, q⟩ := hbody cdv A outer s H vs Q E hr hsp
  exact ⟨t, h.nox, q⟩
theorem funD_mk {x qual : Str} {st : Stmt} {dV : Value} {f : Addr} {oc : Value} {od an : Option Addr} {osl : Array (Option Value)} {kV doc pm cdv ct : Value} (l : K.lookup f = some ⟨oc, od, .func (PySem.W.fnOf x qual (defArgs st) (defBody st) (defScope st) dV kV doc pm an cdv ct), osl⟩)
    (c : PySem.W.codeIn K cdv qual = true) (k : PySem.W.keepIn K (.ref f) = true) : FunD K x qual st dV f (PySem.W.fnOf x qual (defArgs st) (defBody st) (defScope st) dV kV doc pm an cdv ct) := ⟨⟨oc, od, kV, doc, pm, an, cdv, ct, osl, rfl, l, c⟩, k⟩
structure OwnD (P : Program) (w : World) (K : PySem.W.Frag) (mg : Str → Option Value) (base : Heap) (CX : CXT) (k : Nat) (x : Str) (ps : List Str) (sp : Sp) (dvs : List V) : Prop where
  ex : ∃ f fd ds, FnOk P w K mg base CX k f fd ps sp ∧ Binds K fd ps ds ∧ Vals dvs ds ∧ PySem.W.keepIn K (.ref f) = true ∧ mg x = some (.ref f)
end
section
variable {X : Cx} {CX : CXT} {j k : Nat} {ps : List Str} {sp : Sp} {dvs : List V} {E : XK} {x : Str} {p pos : Pos} {e : Expr} {es : List Expr} {t : TA}
theorem pe_ownD (O : OwnD X.prog X.w X.K X.mg X.base CX j x ps sp dvs) (hr : Room k X.A) (hg : Gl X x) (hx : Passes CX X E) (ha : PA X (e :: es) t) (hj : j ≤ k := by decide) (hdb : (x == ("__debug__" : Str)) = false := by decide)
    (he : starEach (e :: es) X.env = (false, eval e X.env) :: starEach es X.env := by rfl) (hpl : (backTo pos (starEach es X.env)).any (·.1) = false := by rfl) : PE X (.Call (.Name x p) (e :: es) [] pos) (tCall sp dvs E t) := by
  obtain ⟨f, fd, ds, F, b, v, kp, m⟩ := O.ex
  exact pe_call F (hr.mono hj) hg m kp b v hx ha hdb he hpl
end
/-! ## a call of what an expression tells -/
structure FnAt (P : Program) (w : World) (K : PySem.W.Frag) (mg : Str → Option Value) (base : Heap) (CX : CXT) (k : Nat) (f : Addr) (sp : Sp) : Prop where
  ex : ∃ fd ps, FnOk P w K mg base CX k f fd ps sp ∧ Binds K fd ps [] ∧ PySem.W.keepIn K (.ref f) = true
def tCallF (X : Cx) (CX : CXT) (k : Nat) (E : XK) (tf : TE) (t : TA) : TE := fun σ H Q => tf σ H fun x H1 => ∃ f sp, x = .ref f ∧ FnAt X.prog X.w X.K X.mg X.base CX k f sp ∧ t σ H1 fun vs H2 => sp vs H2 Q E
section
variable {X : Cx} {CX : CXT} {k : Nat} {E : XK} {func e : Expr} {es : List Expr} {pos : Pos} {tf : TE} {t : TA}
theorem pe_callF (hr : Room k X.A) (hf : PE X func tf) (hx : Passes CX X E) (ha : PA X (e :: es) t)
    (hc : eval (.Call func (e :: es) [] pos) X.env = (do callWith pos (← eval func X.env) [] (backTo pos (starEach (e :: es) X.env)) (backToKw pos (keywordEach [] X.env))) := by rfl)
    (he : starEach (e :: es) X.env = (false, eval e X.env) :: starEach es X.env := by rfl) (hpl : (backTo pos (starEach es X.env)).any (·.1) = false := by rfl) : PE X (.Call func (e :: es) [] pos) (tCallF X CX k E tf t) := by
  intro pins s σ H Q I h
  refine Call_ (thn (hf pins s σ H _ I h) fun u s1 ⟨x, H1, I1, r1, f, sp, ex, F, q1⟩ => ?_) hc
  subst ex
  obtain rfl : u = Value.ref f := r1
  obtain ⟨fd, ps, Fo, hb, hk⟩ := F.ex
  refine PySem.W.callWith_K (h₀ := X.base) I1.ok.mod.kin hk (thn (ha pos pins s1 σ H1 _ I1 q1) fun us s2 ⟨vs, H2, I2, r, q⟩ => ⟨I2.kIn, ?_⟩) he hpl
  exact run_fn (dvs := []) (ds := []) Fo hr hb .nil hx I2 r (by rw [List.append_nil]; exact q)
end
/-! ## a dict of the module: texts to objects -/
def ents (w : World) (ps : List (List Nat × Tok × Addr)) : List DictEntry := ps.map fun p => { hash := PyData.keyHash w.params (S p.1), key := .str (S p.1) p.2.1, val := .ref p.2.2 }
structure KDict (K : PySem.W.Frag) (w : World) (a : Addr) (ps : List (List Nat × Tok × Addr)) : Prop where
  at_ : ∃ ep, K.lookup a = some { cls := .type "dict", dict := none, data := .dict (ents w ps).toArray ep, slots := #[] }
  sys : (a == sysModules) = false
def kAt : List (List Nat × Tok × Addr) → List Nat → Option Addr
  | [], _ => none
  | (k, _, f) :: r, x => if k = x then some f else kAt r x
section
variable {prog : Program} {w : World} {K : PySem.W.Frag} {a : Addr} {ps : List (List Nat × Tok × Addr)}
theorem ents_keys : KeysOf (strKind prog w) (ents w ps).toArray := by
  intro e he
  have he' : e ∈ ents w ps := by simpa using he
  obtain ⟨p, _, rfl⟩ := List.mem_map.mp he'
  exact ⟨S p.1, by show (S p.1 == S p.1) = true; simp, rfl⟩
theorem ents_find (x : List Nat) : findBy (strKind prog w).is (ents w ps).toArray (S x) = (kAt ps x).map Value.ref := by
  unfold findBy
  induction ps with
  | nil => rfl
  | cons p r ih =>
    obtain ⟨k, t, f⟩ := p
    have e : (ents w ((k, t, f) :: r)).toArray.find? (fun e => (strKind prog w).is (S x) e.key) = if (S k == S x) = true then some { hash := PyData.keyHash w.params (S k), key := .str (S k) t, val := .ref f } else (ents w r).toArray.find? (fun e => (strKind prog w).is (S x) e.key) := by
      rw [← Array.find?_toList, ← Array.find?_toList]
      show List.find? _ (_ :: ents w r) = _
      rw [List.find?_cons]
      show (match (S k == S x) with | true => _ | false => _) = _
      cases (S k == S x) <;> rfl
    rw [e]
    unfold kAt
    by_cases h : k = x
    · subst h
      rw [if_pos (by simp), if_pos rfl]
      rfl
    · have h' : ¬ S k = S x := fun z => h (S_inj z)
      rw [if_neg (by simpa using h'), if_neg h]
      exact ih
theorem KDict.map (D : KDict K w a ps) {h : Heap} (X : K.In h) : h.MapOf (strKind prog w) a (fun x => findBy (strKind prog w).is (ents w ps).toArray x) := by
  obtain ⟨ep, e⟩ := D.at_
  exact ⟨_, _, ep, X _ _ e, ⟨rfl, rfl, rfl⟩, rfl, ents_keys, fun _ => rfl⟩
end
def tKGet (K : PySem.W.Frag) (w : World) (td ty : TE) : TE := fun σ H Q => td σ H fun x H1 => ty σ H1 fun y H2 => ∃ a ps l f, x = .ref a ∧ KDict K w a ps ∧ y = .str (S l) ∧ kAt ps l = some f ∧ Q (.ref f) H2
def tKIn (K : PySem.W.Frag) (w : World) (ty td : TE) : TE := fun σ H Q => ty σ H fun y H1 => td σ H1 fun x H2 => ∃ a ps l, x = .ref a ∧ KDict K w a ps ∧ y = .str (S l) ∧ Q (.bl (kAt ps l).isSome) H2
section
variable {X : Cx} {o i : Expr} {td ty : TE} {pos : Pos}
theorem pe_kget (ho : PE X o td) (hi : PE X i ty) (hs : NoSl i) : PE X (.Subscript o i pos) (tKGet X.K X.w td ty) := by
  intro pins s σ H Q I h
  refine subD_of PySem.F.slot_dict_getitem.lookup hs (thn (ho pins s σ H _ I h) fun u s1 ⟨x, H1, I1, rx, q1⟩ => thn (hi pins s1 σ H1 _ I1 q1) fun iv s2 ⟨y, H2, I2, ry, a, ps, l, f, ex, D, ey, hf, q2⟩ => ?_)
  subst ex ey
  obtain rfl : u = Value.ref a := rx
  obtain ⟨t, rfl⟩ := ry
  have M := D.map (prog := X.prog) I2.kIn
  refine ⟨M.typeIs, wpAny_getItem_of (k := S l) (v := .ref f) (by show (S l == S l) = true; simp) M (by rw [ents_find, hf]; rfl) ⟨.ref f, H2, I2.tok _, rfl, q2⟩⟩
theorem pc_kin (hi : PE X i ty) (ho : PE X o td) : PC X .In i o (tKIn X.K X.w ty td) := by
  intro pins s σ H Q I h
  refine thn (hi pins s σ H _ I h) fun iv s1 ⟨y, H1, I1, ry, q1⟩ => thn (ho pins s1 σ H1 _ I1 q1) fun u s2 ⟨x, H2, I2, rx, a, ps, l, ex, D, ey, q2⟩ => ?_
  subst ex ey
  obtain rfl : u = Value.ref a := rx
  obtain ⟨t, rfl⟩ := ry
  have M := D.map (prog := X.prog) I2.kIn
  refine wpAny_in_of (k := S l) (by show (S l == S l) = true; simp) D.sys M ?_
  rw [ents_find, Option.isSome_map]
  exact ⟨.bl _, H2, I2.tok _, rfl, q2⟩
end
end L2

set_option Elab.async false
set_option linter.all false
set_option maxRecDepth 100000
set_option maxHeartbeats 4000000
namespace L2
/-! ## the row of a place -/
end L2
namespace L2
end L2

set_option Elab.async false
set_option linter.all false
set_option maxRecDepth 100000
set_option maxHeartbeats 4000000
namespace L2
open PySem
abbrev tupO : List V := [.str (S [40]), .str (S [91]), .str (S [123])]
abbrev tupC : List V := [.str (S [41]), .str (S [93]), .str (S [125])]
theorem eqS (a b : Nat) : eqV (.str (S [a])) (.str (S [b])) = decide (a = b) := by
  by_cases h : a = b
  · subst h
    rw [decide_eq_true rfl]
    show (S [a] == S [a]) = true
    simp
  · rw [decide_eq_false h]
    show (S [a] == S [b]) = false
    have h' : ¬ S [a] = S [b] := fun z => h (List.cons.inj (S_inj z)).1
    simpa using h'
theorem inO (c : Nat) : inV (.str (S [c])) tupO = (clo c).isSome := by
  unfold inV clo
  simp only [List.any_cons, List.any_nil, eqS]
  by_cases h1 : c = 40
  · subst h1; decide
  · by_cases h2 : c = 91
    · subst h2; decide
    · by_cases h3 : c = 123
      · subst h3; decide
      · rw [if_neg h1, if_neg h2, if_neg h3, decide_eq_false (fun z => h1 z.symm), decide_eq_false (fun z => h2 z.symm), decide_eq_false (fun z => h3 z.symm)]
        rfl
theorem inC (c : Nat) : inV (.str (S [c])) tupC = (ope c).isSome := by
  unfold inV ope
  simp only [List.any_cons, List.any_nil, eqS]
  by_cases h1 : c = 41
  · subst h1; decide
  · by_cases h2 : c = 93
    · subst h2; decide
    · by_cases h3 : c = 125
      · subst h3; decide
      · rw [if_neg h1, if_neg h2, if_neg h3, decide_eq_false (fun z => h1 z.symm), decide_eq_false (fun z => h2 z.symm), decide_eq_false (fun z => h3 z.symm)]
        rfl
theorem clo_at {x c : Nat} (h : clo x = some c) : x ∈ [40, 91, 123] ∧ atI tupC (([40, 91, 123].idxOf x : Nat) : Int) = some (.str (S [c])) := by
  unfold clo at h
  split at h
  · cases h; subst x; exact ⟨by decide, rfl⟩
  · split at h
    · cases h; subst x; exact ⟨by decide, rfl⟩
    · split at h
      · cases h; subst x; exact ⟨by decide, rfl⟩
      · cases h
theorem ope_at {x c : Nat} (h : ope x = some c) : x ∈ [41, 93, 125] ∧ atI tupO (([41, 93, 125].idxOf x : Nat) : Int) = some (.str (S [c])) := by
  unfold ope at h
  split at h
  · cases h; subst x; exact ⟨by decide, rfl⟩
  · split at h
    · cases h; subst x; exact ⟨by decide, rfl⟩
    · split at h
      · cases h; subst x; exact ⟨by decide, rfl⟩
      · cases h
def opn (l : List Nat) (p : Int) : Bool := decide (0 ≤ p) && (match l[p.toNat]? with | some c => (clo c).isSome | none => false)
def cls (l : List Nat) (p : Int) : Bool := decide (0 ≤ p) && (match l[p.toNat]? with | some c => (ope c).isSome | none => false)
theorem opn_neg {l : List Nat} {p : Int} (h : ¬ 0 ≤ p) : opn l p = false := by unfold opn; rw [decide_eq_false h]; rfl
theorem cls_neg {l : List Nat} {p : Int} (h : ¬ 0 ≤ p) : cls l p = false := by unfold cls; rw [decide_eq_false h]; rfl
theorem opn_out {l : List Nat} {p : Int} (h : ¬ p < (l.length : Int)) : opn l p = false := by
  unfold opn
  by_cases z : 0 ≤ p
  · rw [List.getElem?_eq_none (by omega)]; simp
  · rw [decide_eq_false z]; rfl
theorem cls_out {l : List Nat} {p : Int} (h : ¬ p < (l.length : Int)) : cls l p = false := by
  unfold cls
  by_cases z : 0 ≤ p
  · rw [List.getElem?_eq_none (by omega)]; simp
  · rw [decide_eq_false z]; rfl
theorem opn_in {l : List Nat} {p : Int} (h0 : 0 ≤ p) (h : p.toNat < l.length) : opn l p = (clo (l[p.toNat])).isSome := by
  unfold opn
  rw [decide_eq_true h0, List.getElem?_eq_getElem h]
  rfl
theorem cls_in {l : List Nat} {p : Int} (h0 : 0 ≤ p) (h : p.toNat < l.length) : cls l p = (ope (l[p.toNat])).isSome := by
  unfold cls
  rw [decide_eq_true h0, List.getElem?_eq_getElem h]
  rfl
theorem opn_yes {l : List Nat} {p : Int} (h : opn l p = true) : 0 ≤ p ∧ ∃ x c, l[p.toNat]? = some x ∧ clo x = some c := by
  have h0 : 0 ≤ p := Classical.byContradiction fun z => by rw [opn_neg z] at h; cases h
  have h1 : p < (l.length : Int) := Classical.byContradiction fun z => by rw [opn_out z] at h; cases h
  have h2 : p.toNat < l.length := by omega
  rw [opn_in h0 h2] at h
  obtain ⟨c, hc⟩ := Option.isSome_iff_exists.mp h
  exact ⟨h0, _, c, List.getElem?_eq_getElem h2, hc⟩
theorem cls_yes {l : List Nat} {p : Int} (h : cls l p = true) : 0 ≤ p ∧ ∃ x c, l[p.toNat]? = some x ∧ ope x = some c := by
  have h0 : 0 ≤ p := Classical.byContradiction fun z => by rw [cls_neg z] at h; cases h
  have h1 : p < (l.length : Int) := Classical.byContradiction fun z => by rw [cls_out z] at h; cases h
  have h2 : p.toNat < l.length := by omega
  rw [cls_in h0 h2] at h
  obtain ⟨c, hc⟩ := Option.isSome_iff_exists.mp h
  exact ⟨h0, _, c, List.getElem?_eq_getElem h2, hc⟩
/-! ## the first one from a on, the last one ahead of a -/
/-! ## the moves -/
def nV (n : Nat) : V := .int (n : Int)
theorem wk_lt {o c : Nat} {l : List Nat} {p : Nat} : ∀ {d y : Nat}, (wk o c l p d).2 = some y → y < p + 1 + d
  | 0, y, h => by cases h
  | d + 1, y, h => by
    have h' : (stpW o c l[p + 1 + d]? (p + 1 + d) (wk o c l p d)).2 = some y := h
    cases e : wk o c l p d with
    | mk m z =>
      rw [e] at h'
      cases z with
      | some z =>
        have := wk_lt (d := d) (y := z) (o := o) (c := c) (l := l) (p := p) (by rw [e])
        rw [stpW_some] at h'
        cases h'
        omega
      | none =>
        rw [stpW_none] at h'
        split at h'
        · split at h'
          · cases h'; omega
          · cases h'
        · split at h' <;> cases h'
end L2

set_option Elab.async false
set_option linter.all false
set_option maxRecDepth 100000
set_option maxHeartbeats 4000000
namespace L2
open PySem PySem.Spec PyProof.Rows
/-! ## comprehensions that take names from around -/
section
variable {X : Cx} {scope sc : Scope} {NB NN : List Str} {ix : List (Option Nat)} {pins : List (Addr × Obj)} {σ : St} {H : Hp} {s : Shared}
end
end L2

set_option Elab.async false
set_option linter.all false
set_option maxRecDepth 100000
set_option maxHeartbeats 4000000
namespace L2
open PySem PySem.Spec PyProof.Rows
/-! comprehensions that keep what a test lets by -/
/-! the first and the last of a list of places -/
theorem upd_tup {H : Hp} {d t : Addr} {xs u : List V} {o : HO} (hd : H d = some (.lst xs)) (ht : H t = some (.tup u)) : upd H d o t = some (.tup u) := (upd_ne (ne_of ht hd (by intro z; cases z))).trans ht
theorem iteNF {c A B : Prop} [Decidable c] (hc : ¬ c) (h : A) : if (!decide c) = true then A else B := by
  rw [decide_eq_false hc]
  exact iteT h
end L2

set_option Elab.async false
set_option linter.all false
set_option maxRecDepth 100000
set_option maxHeartbeats 4000000
namespace L2
open PySem
abbrev cSigns : List Nat := [115, 105, 103, 110, 115]
abbrev St3 := Option (Nat × Nat × List Nat)
def StV (H : Hp) : St3 → V → Prop
  | none, v => v = .non
  | some (a, b, k), v => ∃ t, v = .ref t ∧ H t = some (.tup [nV a, nV b, .str (S k)])
theorem StV.same {H H' : Hp} {o : St3} {v : V} (h : StV H o v) (S' : Same H H') : StV H' o v := by
  rcases o with _ | ⟨a, b, k⟩
  · exact h
  · obtain ⟨t, h1, h2⟩ := h
    exact ⟨t, h1, S' _ _ h2⟩
def PrV (H : Hp) : Option (Nat × Nat) → V → Prop
  | none, v => v = .non
  | some (a, b), v => ∃ t, v = .ref t ∧ H t = some (.tup [nV a, nV b])
end L2

set_option Elab.async false
set_option linter.all false
set_option maxRecDepth 100000
set_option maxHeartbeats 4000000
namespace L2
open PySem
/-! pairs of brackets round a place -/
theorem stk_dec (o c : Nat) (l : List Nat) : ∀ i, (stk o c l i).Pairwise (· > ·) ∧ ∀ q ∈ stk o c l i, q < i
  | 0 => ⟨.nil, fun q h => by cases h⟩
  | i + 1 => by
    obtain ⟨h1, h2⟩ := stk_dec o c l i
    unfold stk
    split
    · refine ⟨.cons (fun q h => h2 q h) h1, fun q h => ?_⟩
      rcases List.mem_cons.mp h with z | z
      · omega
      · have := h2 q z; omega
    · split
      · exact ⟨h1.tail, fun q h => by have := h2 q (List.mem_of_mem_tail h); omega⟩
      · exact ⟨h1, fun q h => by have := h2 q h; omega⟩
def endO (o c : Nat) (l : List Nat) (q : Nat) : Option Nat := (wk o c l q (l.length - (q + 1))).2
theorem wk_rel {o c : Nat} {l : List Nat} (hoc : o ≠ c) {i p p' m : Nat} (hp : p < i) (hp' : p' < i) (h : wk o c l p (i - (p + 1)) = (m, none)) (h' : wk o c l p' (i - (p' + 1)) = (m + 1, none)) :
    ∀ n, (∃ k, wk o c l p (i + n - (p + 1)) = (k, none) ∧ wk o c l p' (i + n - (p' + 1)) = (k + 1, none)) ∨ (wk o c l p (i + n - (p + 1))).2.isSome = true
  | 0 => .inl ⟨m, h, h'⟩
  | n + 1 => by
    have e : wk o c l p (i + (n + 1) - (p + 1)) = stpW o c l[i + n]? (i + n) (wk o c l p (i + n - (p + 1))) := wk_succ (i := i + n) (Nat.lt_of_lt_of_le hp (Nat.le_add_right _ _))
    have e' : wk o c l p' (i + (n + 1) - (p' + 1)) = stpW o c l[i + n]? (i + n) (wk o c l p' (i + n - (p' + 1))) := wk_succ (i := i + n) (Nat.lt_of_lt_of_le hp' (Nat.le_add_right _ _))
    rcases wk_rel hoc hp hp' h h' n with ⟨k, h1, h2⟩ | h1
    · rw [e, e', h1, h2, stpW_none, stpW_none]
      by_cases z : l[i + n]? = some c
      · rw [if_pos z, if_pos z, if_neg (Nat.succ_ne_zero k)]
        by_cases y : k = 0
        · right; rw [if_pos y]; rfl
        · left; rw [if_neg y]; exact ⟨k - 1, rfl, by rw [show k + 1 - 1 = k - 1 + 1 by omega]⟩
      · rw [if_neg z, if_neg z]
        by_cases y : l[i + n]? = some o
        · left; rw [if_pos y, if_pos y]; exact ⟨k + 1, rfl, rfl⟩
        · left; rw [if_neg y, if_neg y]; exact ⟨k, rfl, rfl⟩
    · right
      rw [e]
      cases q : wk o c l p (i + n - (p + 1)) with
      | mk a b =>
        rw [q] at h1
        cases b with
        | none => cases h1
        | some b => rfl
theorem endO_down {o c : Nat} {l : List Nat} (hoc : o ≠ c) {i m p p' : Nat} (hi : i ≤ l.length) (h : (stk o c l i)[m]? = some p) (h' : (stk o c l i)[m + 1]? = some p') (he : (endO o c l p').isSome = true) : (endO o c l p).isSome = true := by
  obtain ⟨a1, _, a3⟩ := (stk_iff hoc i m p).mp h
  obtain ⟨b1, _, b3⟩ := (stk_iff hoc i (m + 1) p').mp h'
  have := wk_rel hoc a1 b1 a3 b3 (l.length - i)
  rw [show i + (l.length - i) = l.length by omega] at this
  rcases this with ⟨k, _, h2⟩ | h1
  · unfold endO at he
    rw [h2] at he
    cases he
  · exact h1
theorem pre_flt {E : Nat → Bool} : ∀ {T : List Nat}, (∀ (m x y : Nat), T[m]? = some x → T[m + 1]? = some y → E y = true → E x = true) → ∀ j : Nat, (T.filter E)[j]? = (T[j]?).bind fun q => if E q = true then some q else none
  | [], _, j => by simp
  | x :: T, h, j => by
    have ih := pre_flt (E := E) (T := T) fun m a b ha hb he => h (m + 1) a b (by simpa using ha) (by simpa using hb) he
    rw [List.filter_cons]
    cases e : E x with
    | true =>
      rw [if_pos rfl]
      cases j with
      | zero => simp [e]
      | succ j => simpa using ih j
    | false =>
      rw [if_neg Bool.false_ne_true]
      have none_ : ∀ (T : List Nat) (x : Nat), E x = false → (∀ m a b, (x :: T)[m]? = some a → (x :: T)[m + 1]? = some b → E b = true → E a = true) → ∀ q ∈ T, E q = false := by
        intro T
        induction T with
        | nil => intro x _ _ q hq; cases hq
        | cons y T ihT =>
          intro x hx hh q hq
          have hy : E y = false := by
            cases ey : E y with
            | false => rfl
            | true => have := hh 0 x y rfl rfl ey; rw [hx] at this; cases this
          rcases List.mem_cons.mp hq with z | z
          · rw [z]; exact hy
          · exact ihT y hy (fun m a b ha hb he => hh (m + 1) a b (by simpa using ha) (by simpa using hb) he) q z
      have hn := none_ T x e h
      rw [List.filter_eq_nil_iff.mpr fun q hq => by rw [hn q hq]; exact Bool.false_ne_true]
      cases j with
      | zero => simp [e]
      | succ j =>
        rw [List.getElem?_cons_succ]
        cases ej : T[j]? with
        | none => simp
        | some q => have := hn q (List.mem_of_getElem? ej); simp [this]
theorem dec_flt {E : Nat → Bool} {a : Nat} : ∀ {T : List Nat}, T.Pairwise (· > ·) → T.filter (fun q => decide (a ≤ q) && E q) = T.filter (fun q => decide (a + 1 ≤ q) && E q) ++ (if a ∈ T ∧ E a = true then [a] else [])
  | [], _ => by simp
  | x :: T, h => by
    obtain ⟨h1, h2⟩ := List.pairwise_cons.mp h
    have ih := dec_flt (E := E) (a := a) h2
    rcases Nat.lt_trichotomy a x with z | z | z
    · have e1 : decide (a ≤ x) = true := decide_eq_true (by omega)
      have e2 : decide (a + 1 ≤ x) = true := decide_eq_true (by omega)
      have em : (a ∈ x :: T ∧ E a = true) ↔ (a ∈ T ∧ E a = true) := by
        rw [List.mem_cons]
        exact ⟨fun ⟨y, w⟩ => ⟨y.resolve_left (by omega), w⟩, fun ⟨y, w⟩ => ⟨.inr y, w⟩⟩
      rw [List.filter_cons, List.filter_cons, e1, e2, ih]
      simp only [em]
      cases E x <;> simp
    · subst z
      have n1 : T.filter (fun q => decide (a ≤ q) && E q) = [] := List.filter_eq_nil_iff.mpr fun q hq => by have := h1 q hq; simp; omega
      have n2 : T.filter (fun q => decide (a + 1 ≤ q) && E q) = [] := List.filter_eq_nil_iff.mpr fun q hq => by have := h1 q hq; simp; omega
      rw [List.filter_cons, List.filter_cons, n1, n2]
      cases e : E a <;> simp [e]
    · have n1 : (x :: T).filter (fun q => decide (a ≤ q) && E q) = [] := List.filter_eq_nil_iff.mpr fun q hq => by
        rcases List.mem_cons.mp hq with y | y
        · subst y; simp; omega
        · have := h1 q y; simp; omega
      have n2 : (x :: T).filter (fun q => decide (a + 1 ≤ q) && E q) = [] := List.filter_eq_nil_iff.mpr fun q hq => by
        rcases List.mem_cons.mp hq with y | y
        · subst y; simp; omega
        · have := h1 q y; simp; omega
      have nm : ¬ (a ∈ x :: T ∧ E a = true) := fun ⟨y, _⟩ => by
        rcases List.mem_cons.mp y with w | w
        · omega
        · have := h1 a w; omega
      rw [n1, n2, if_neg nm]
      rfl
theorem mem_stk {o c : Nat} {l : List Nat} (hoc : o ≠ c) {i q : Nat} (hi : i ≤ l.length) (hq : q < i) (ho : l[q]? = some o) : q ∈ stk o c l i ↔ ∀ y, endO o c l q = some y → i ≤ y := by
  constructor
  · intro h y hy
    obtain ⟨m, hm⟩ := List.mem_iff_getElem?.mp h
    obtain ⟨_, _, h3⟩ := (stk_iff hoc i m q).mp hm
    rcases Nat.lt_or_ge y i with z | z
    · exfalso
      have key : ∀ d y, (wk o c l q d).2 = some y → ∀ e, y < q + 1 + e → e ≤ d → (wk o c l q e).2 = some y := by
        intro d
        induction d with
        | zero => intro y h; cases h
        | succ d ih =>
          intro y h e he hed
          have h' : (stpW o c l[q + 1 + d]? (q + 1 + d) (wk o c l q d)).2 = some y := h
          rcases Nat.lt_or_eq_of_le hed with w | w
          · cases er : wk o c l q d with
            | mk a b =>
              rw [er] at h'
              cases b with
              | some b =>
                rw [stpW_some] at h'
                have h2 : b = y := Option.some.inj h'
                subst h2
                exact ih b (by rw [er]) e he (by omega)
              | none =>
                rw [stpW_none] at h'
                split at h'
                · split at h'
                  · cases h'; omega
                  · cases h'
                · split at h' <;> cases h'
          · subst w; exact h
      have := key _ y hy (i - (q + 1)) (by omega) (by omega)
      rw [h3] at this
      cases this
    · exact z
  · intro h
    cases e : wk o c l q (i - (q + 1)) with
    | mk m b =>
      cases b with
      | none => exact List.mem_of_getElem? ((stk_iff hoc i m q).mpr ⟨hq, ho, e⟩)
      | some y =>
        exfalso
        have h1 := wk_lt (o := o) (c := c) (l := l) (p := q) (d := i - (q + 1)) (y := y) (by rw [e])
        have h2 := wk_stay (o := o) (c := c) (l := l) (p := q) (d := i - (q + 1)) (y := y) (by rw [e]) (l.length - i)
        rw [show i - (q + 1) + (l.length - i) = l.length - (q + 1) by omega] at h2
        have := h y h2
        omega
def rnd (o c : Nat) (l : List Nat) (p n : Nat) : Option (Nat × Nat) := ((stk o c l p)[n - 1]?).bind fun q => (endO o c l q).map fun y => (q, y)
end L2

set_option Elab.async false
set_option linter.all false
set_option maxRecDepth 100000
set_option maxHeartbeats 4000000
namespace L2
open PySem PyProof.Rows
theorem paired_get {α β : Type} {F : α → β → Prop} : ∀ {xs : List α} {ys : List β} {i : Nat} {x : α}, Paired F xs ys → xs[i]? = some x → ∃ y, ys[i]? = some y ∧ F x y
  | _, _, _, _, .nil, e => by simp at e
  | _, _, 0, _, .cons r _, e => by simp at e; subst e; exact ⟨_, rfl, r⟩
  | _, _, i + 1, x, .cons _ t, e => by
    obtain ⟨u, h1, h2⟩ := paired_get (i := i) (x := x) t (by simpa using e)
    exact ⟨u, by simpa using h1, h2⟩
end L2

set_option Elab.async false
set_option linter.all false
set_option maxRecDepth 100000
set_option maxHeartbeats 4000000
namespace My
open PySem L2

def top (i : Nat) : Stmt := PySem.Challenge.pw_modehand_k23_brackets_round.main.body.getD i (.Pass ⟨0, 0, 0, 0⟩)
abbrev s_has_opening : Stmt := top 23
abbrev s_has_closing : Stmt := top 24
abbrev s_closing_of : Stmt := top 25
abbrev s_opening_of : Stmt := top 26
abbrev s_partner : Stmt := top 27
abbrev s_first_even : Stmt := top 28
abbrev s_rows_from : Stmt := top 35
abbrev s_inside : Stmt := top 36
abbrev s_outside : Stmt := top 37
abbrev s_still_open : Stmt := top 38
abbrev s_brackets_round : Stmt := top 39
abbrev s_seen_stretch : Stmt := top 43
abbrev s_stretch : Stmt := top 45
abbrev s__law_cell_at : Stmt := top 47
abbrev s__law_whole : Stmt := top 48
abbrev s__law_sign_by : Stmt := top 49
abbrev s__law_text : Stmt := top 50
abbrev s__law_other_end : Stmt := top 51
abbrev s__law_due : Stmt := top 52
abbrev s__law_same : Stmt := top 53
abbrev s__law_asked : Stmt := top 54
abbrev s_law : Stmt := top 55

def cell (ns : List Int) (k : Nat) : Int := ns.getD k 0
def sp_cell (K : PySem.W.Frag) : Sp := fun vs H Q _ => ∃ (a : Addr) (ns : List Int) (k : Nat), vs = [.ref a, .int (k : Int)] ∧ SqL K H a (ns.map V.int) ∧ Q (.int (cell ns k)) H
def sp_law (K : PySem.W.Frag) : Sp := fun vs H Q _ => ∃ (a : Addr) (ns : List Int), vs = [.ref a] ∧ SqL K H a (ns.map V.int) ∧ ns.length ≤ 63 ∧ ∀ H', Q (.bl true) H'
theorem cell_at {ns : List Int} {k : Nat} (h : (k : Int) < ((ns.map V.int).length : Int)) : atI (ns.map V.int) (k : Int) = some (.int (cell ns k)) := by
  rw [List.length_map] at h
  have hk : k < ns.length := by omega
  refine atI_nat ?_
  rw [List.getElem?_map, List.getElem?_eq_getElem hk]
  show some (V.int ns[k]) = some (V.int (cell ns k))
  unfold cell
  rw [List.getD_eq_getElem?_getD, List.getElem?_eq_getElem hk] <;> rfl
theorem cell_out {ns : List Int} {k : Nat} (h : ¬ (k : Int) < ((ns.map V.int).length : Int)) : cell ns k = 0 := by
  rw [List.length_map] at h
  unfold cell
  rw [List.getD_eq_getElem?_getD, List.getElem?_eq_none (by omega)] <;> rfl
section
variable {P : Program} {w : World} {K : PySem.W.Frag} {mg : Str → Option Value} {base : Heap} {f : Addr} {fd : FuncData}
theorem sc__law_cell_at : FnScope ["_law_script", "_law_k"] ["_law_script", "_law_k"] (defScope s__law_cell_at) := ⟨rfl, rfl, rfl, by decide +kernel, rfl, by decide +kernel, by decide +kernel⟩
theorem ok_cell (F : Fun K "_law_cell_at" "_law_cell_at" s__law_cell_at f fd) (m_len : mg "len" = none) : FnOk P w K mg base CX0 1 f fd ["_law_script", "_law_k"] (sp_cell K) := by
  refine F.ok sc__law_cell_at (fun vs H Q E h => ?_) (fun cdv A outer s H vs Q E hr h => ?_)
  · obtain ⟨a, ns, k, rfl, _⟩ := h
    rfl
  obtain ⟨a, ns, k, rfl, hS, q⟩ := h
  refine ⟨_, (pss_cons (ps_if (pt_cmpR op_lt (pv 1) (pe_callB call_len_seq (by rfl) m_len PySem.boot_len (pa_cons (pv 0) pa_nil)) (nomark _)) (pss_one (ps_ret (pe_ix ix_list (pv 0) (pv 1) (fun _ _ => rfl)))) pss_nil)
      (pss_one (ps_ret pe_int))), ?_⟩
  refine ⟨_, rfl, _, rfl, a, _, rfl, .inl hS, _, _, rfl, rfl, _, rfl, ?_⟩
  refine ite2 (fun c => ?_) (fun c => ?_)
  · have c' := of_decide_eq_true c
    exact ⟨_, rfl, _, rfl, a, _, _, _, rfl, rfl, hS, cell_at c', q⟩
  · have c' := of_decide_eq_false (Bool.eq_false_iff.mpr c)
    have q' := q
    rw [cell_out c'] at q'
    exact q'
end
abbrev lit1 : List Nat := [32, 33, 34, 35, 36, 38, 39, 40, 41, 42, 43, 44, 45, 46, 47, 48, 49, 50, 51, 52, 53, 54, 55, 56, 57, 58, 59, 60, 61, 62, 63, 64, 65, 66, 67, 68, 69, 70, 71, 72, 73, 74, 75, 76, 77, 78, 79, 80, 81, 82, 83, 84, 85, 86, 87, 88, 89, 90, 91, 92, 93, 94, 95, 96]
abbrev lit2 : List Nat := [97, 98, 99, 100, 101, 102, 103, 104, 105, 106, 107, 108, 109, 110, 111, 112, 113, 114, 115, 116, 117, 118, 119, 120, 121, 122, 123, 124, 125]
abbrev lit3 : List Nat := lit2 ++ [10]
def menus : List (List Nat) := [lit1 ++ lit3, [40, 41, 91, 93, 123, 125], [40, 97, 41], [40, 41, 91, 93, 123, 125]]



/-! the text of the laws k21 to k27: menus and MN, HI, MAX are said ahead -/

def sp_sign : Sp := fun vs H Q _ => ∃ n : Int, vs = [.int n] ∧ ∀ (c : Nat) (H' : Hp), c < 128 → Same H H' → Q (.str (S [c])) H'
def ones (l : List Nat) : List V := l.map fun c => V.str (S [c])
theorem ones_eq (l : List Nat) : ones l = (l.map fun c => [c]).map fun r => V.str (S r) := by unfold ones; rw [List.map_map]; rfl
theorem ones_flat (l : List Nat) : (l.map fun c => [c]).flatten = l := by
  induction l with
  | nil => rfl
  | cons c l ih => rw [List.map_cons, List.flatten_cons, ih]; rfl
theorem menu_ok : ∀ m ∈ menus, 0 < m.length ∧ m.length ≤ 1000 ∧ ∀ c ∈ m, c < 128 := by decide
theorem comp_signs {K : PySem.W.Frag} {a D : Addr} {ns : List Int} {ix : List (Option Nat)} {te : TE} {σ : St} {H : Hp} {Q : VK} (cap : St) (hσ : around ix σ = none :: cap) (ha : SqL K H a (ns.map V.int)) (hD : H D = none) (hn : ns.length ≤ 1000)
    (ht : ∀ (x : Int) (H' : Hp) (k : VK), Same H H' → (∀ (c : Nat) (H2 : Hp), c < 128 → Same H' H2 → k (.str (S [c])) H2) → te (some (.int x) :: cap) H' k)
    (hd : ∀ (l : List Nat) (H' : Hp), Same H H' → l.length = ns.length → (∀ c ∈ l, c < 128) → H' D = some (.lst (ones l)) → Q (.ref D) H') : CompW (Itl K a) D (around ix σ) (upd H D (.lst [])) (gName 0) tYes te Q := by
  refine comp_list (xs := ns.map V.int) (fun i σ H' => ∃ (x : Option V) (l : List Nat), σ = x :: cap ∧ Same H H' ∧ H' D = some (.lst (ones l)) ∧ l.length = i ∧ ∀ c ∈ l, c < 128) ⟨none, [], hσ, same_new hD _, upd_same, rfl, fun c h => by cases h⟩ (fun i σ H' _ h => by obtain ⟨_, _, _, S2, _⟩ := h; exact S2.seq ha) ?_ ?_
  · rintro i v σ H' hv ⟨x, l, rfl, S2, hD2, hl, hc⟩
    have hi : i < ns.length := by
      have := (List.getElem?_eq_some_iff.mp hv).1
      rwa [List.length_map] at this
    obtain ⟨n, hn', rfl⟩ : ∃ n, ns[i]? = some n ∧ v = V.int n := by
      rw [List.getElem?_map] at hv
      cases e : ns[i]? with
      | none => rw [e] at hv; cases hv
      | some n => rw [e] at hv; exact ⟨n, rfl, (Option.some.inj hv).symm⟩
    refine yes (ht n H' _ S2 fun c H2 hc' S3 => ⟨_, S3 _ _ hD2, ?_, ?_⟩)
    · unfold ones
      rw [List.length_map, hl]
      exact Nat.lt_of_lt_of_le hi (small (by omega))
    · refine ⟨_, l ++ [c], rfl, same_upd (S2.trans S3) hD, ?_, by rw [List.length_append, hl]; rfl, fun c2 h2 => ?_⟩
      · rw [upd_same]
        unfold ones
        rw [List.map_append]
        rfl
      · rcases List.mem_append.mp h2 with z | z
        · exact hc _ z
        · rw [List.mem_singleton] at z; subst z; exact hc'
  · rintro σ H' ⟨x, l, rfl, S2, hD2, hl, hc⟩
    rw [List.length_map] at hl
    exact hd l H' S2 hl hc hD2
section
variable {P : Program} {w : World} {K : PySem.W.Frag} {mg : Str → Option Value} {base : Heap} {f : Addr} {fd : FuncData}
theorem sc__law_sign_by : FnScope ["_law_cell", "_law_some", "_law_menus", "_law_menu"] ["_law_cell"] (defScope s__law_sign_by) := ⟨rfl, rfl, rfl, by decide +kernel, rfl, by decide +kernel, by decide +kernel⟩
theorem ok_sign (F : Fun K "_law_sign_by" "_law_sign_by" s__law_sign_by f fd) (m_len : mg "len" = none) : FnOk P w K mg base CX0 1 f fd ["_law_cell"] sp_sign := by
  refine F.ok sc__law_sign_by (fun vs H Q E h => ?_) (fun cdv A outer s H vs Q E hr h => ?_)
  · obtain ⟨n, rfl, _⟩ := h
    rfl
  obtain ⟨n, rfl, q⟩ := h
  refine ⟨_, (pss_cons (ps_set (i := 1) sc__law_sign_by.nd rfl (Or.inl rfl) pe_str)
      (pss_cons (ps_set (i := 1) sc__law_sign_by.nd rfl (Or.inl rfl) (pe_op op_adS (pv 1) pe_str))
      (pss_cons (ps_set (i := 2) sc__law_sign_by.nd rfl (Or.inl rfl) (pe_lst (pa_cons (pv 1) (pa_cons pe_str (pa_cons pe_str (pa_cons pe_str pa_nil))))))
      (pss_cons (ps_set (i := 3) sc__law_sign_by.nd rfl (Or.inl rfl) (pe_ix ix_list (pv 2) (pe_op op_mod (pv 0) pe_int) (fun _ _ => rfl)))
      (pss_one (ps_ret (pe_ix ix_S (pv 3) (pe_op op_mod (pe_op op_mod (pe_op op_mul (pe_op op_fdiv (pv 0) pe_int) pe_int) pe_int) (pe_callB call_lenS (by rfl) m_len PySem.boot_len (pa_cons (pv 3) pa_nil))) (fun _ _ => rfl)))))))), ?_⟩
  refine ⟨_, rfl, lit1, lit3, rfl, rfl, small (by decide), ?_⟩
  refine ⟨_, rfl, small (by decide), fun a ha => ?_⟩
  have h0 : 0 ≤ n % 4 := Int.emod_nonneg _ (by decide)
  have h1 : n % 4 < 4 := Int.emod_lt_of_pos _ (by decide)
  have hz : (n % 4).toNat < (menus.map fun r => V.str (S r)).length := by rw [List.length_map]; show _ < 4; omega
  have hat := atI_in (menus.map fun r => V.str (S r)) h0 hz
  obtain ⟨m, hm, em⟩ : ∃ m, m ∈ menus ∧ (menus.map fun r => V.str (S r))[(n % 4).toNat] = V.str (S m) := ⟨menus[(n % 4).toNat]'(by rw [List.length_map] at hz; exact hz), List.getElem_mem _, by rw [List.getElem_map]⟩
  rw [em] at hat
  obtain ⟨m1, m2, m3⟩ := menu_ok m hm
  have hpos : (0 : Int) < (m.length : Int) := by omega
  refine ⟨_, rfl, _, rfl, _, _, rfl, rfl, (by show (0 : Int) < 4; decide), a, _, _, _, rfl, rfl, SqL.of upd_same, hat, ?_⟩
  have g0 : 0 ≤ n / 4 * 48271 % 2147483647 % (m.length : Int) := Int.emod_nonneg _ (by omega)
  have g1 : n / 4 * 48271 % 2147483647 % (m.length : Int) < m.length := Int.emod_lt_of_pos _ hpos
  have gz : (n / 4 * 48271 % 2147483647 % (m.length : Int)).toNat < m.length := by omega
  exact ⟨_, rfl, _, rfl, _, _, rfl, rfl, ⟨by decide, by decide⟩, _, _, rfl, rfl, .inr ⟨by decide, by decide⟩, _, _, rfl, rfl, (by show (0 : Int) < 2147483647; decide), _, rfl, m, rfl, small (by omega), _, _, rfl, rfl, hpos, m, _, _, rfl, rfl, small (by omega), atI_in m g0 gz, q _ _ (m3 _ (List.getElem_mem _)) (same_new ha _)⟩
end

def sp_text3 (K : PySem.W.Frag) : Sp := fun vs H Q _ => ∃ (a : Addr) (ns : List Int), vs = [.ref a] ∧ SqL K H a (ns.map V.int) ∧ ns.length ≤ 63 ∧ ∀ (l : List Nat) (H' : Hp), Same H H' → l.length ≤ 600 → (∀ c ∈ l, c < 128) → Q (.str (S l)) H'
section
variable {P : Program} {w : World} {K : PySem.W.Frag} {mg : Str → Option Value} {base : Heap} {f : Addr} {fd : FuncData}
theorem sc__law_text : FnScope ["_law_script", "_law_text_here"] ["_law_script"] (defScope s__law_text) := ⟨rfl, rfl, rfl, by decide +kernel, rfl, by decide +kernel, by decide +kernel⟩
theorem ok_text3 (F : Fun K "_law_text" "_law_text" s__law_text f fd) (O__law_cell_at : Own P w K mg base CX0 1 "_law_cell_at" ["_law_script", "_law_k"] (sp_cell K)) (O__law_sign_by : Own P w K mg base CX0 1 "_law_sign_by" ["_law_cell"] sp_sign) (m_len : mg "len" = none) :
    FnOk P w K mg base CX0 2 f fd ["_law_script"] (sp_text3 K) := by
  refine F.ok sc__law_text (fun vs H Q E h => ?_) (fun cdv A outer s H vs Q E hr h => ?_)
  · obtain ⟨a, ns, rfl, _⟩ := h
    rfl
  obtain ⟨a, ns, rfl, hS, h63, q⟩ := h
  refine ⟨_, (pss_cons (ps_set (i := 1) sc__law_text.nd rfl (Or.inl rfl) (pe_bm PySem.F.plainAttrs_str PySem.F.slot_str_join PySem.F.type_str_join mt_join pe_str (pa_cons (pe_comp ["_law_cell"] _ [] rfl (cl_none ["_law_cell"] (by decide +kernel) rfl (by decide +kernel)) (pi_list (pe_slice sl_list (pv 0) (po_some pe_int) (po_some pe_int))) (fun _ _ _ _ => pg_name (i := 0) (nd1 _) rfl (Or.inl rfl)) (fun _ _ _ _ => pif_nil) (fun _ _ _ _ => (pe_own O__law_sign_by hr (by rfl) pass0 (pa_cons (pv 0) pa_nil)))) pa_nil)))
      (pss_cons (ps_if (PW.pt (pw_and (pt_cmpR op_eq (pe_op op_mod (pe_own O__law_cell_at hr (by rfl) pass0 (pa_cons (pv 0) (pa_cons pe_int pa_nil))) pe_int) pe_int (nomark _)) (pw_and1 (pt_cmpR op_gt (pe_callB call_lenS (by rfl) m_len PySem.boot_len (pa_cons (pv 1) pa_nil)) pe_int (nomark _))))) (pss_one (ps_set (i := 1) sc__law_text.nd rfl (Or.inl rfl) (pe_op op_mulS (pv 1) (pe_op op_fdiv pe_int (pe_callB call_lenS (by rfl) m_len PySem.boot_len (pa_cons (pv 1) pa_nil)))))) pss_nil)
      (pss_one (ps_ret (pv 1))))), ?_⟩
  refine ⟨rfl, _, rfl, _, rfl, _, rfl, a, _, rfl, hS, fun d hd => ?_⟩
  have S1 := same_new hd (.lst (cutV (ns.map V.int) (some 2) (some 42)))
  have hcut : (cutL ns (some 2) (some 42)).length ≤ 60 := by
    have e : cutL ns (some 2) (some 42) = (ns.drop 2).take ((42 : Int).toNat - 2) := cutL_ii ns (by decide) (by decide)
    rw [e, List.length_take]
    have : (42 : Int).toNat - 2 ≤ 60 := by decide
    omega
  have sqd : SqL K (upd H d (.lst (cutV (ns.map V.int) (some 2) (some 42)))) d ((cutL ns (some 2) (some 42)).map V.int) := sq_cut
  refine ⟨d, rfl, ⟨_, sqd⟩, fun D hD => ?_⟩
  refine comp_signs [] rfl sqd hD (by omega) (fun x H' k S' h => ⟨_, rfl, x, rfl, fun c H2 hc S2 => h c H2 hc S2⟩) (fun l H2 S2 hl hc hD2 => ?_)
  have SD : SqL K H2 D ((l.map fun c => [c]).map fun r => V.str (S r)) := by rw [← ones_eq]; exact SqL.of hD2
  have SS := S1.trans S2
  refine ⟨D, l.map fun c => [c], rfl, rfl, SD, by rw [ones_flat]; omega, ?_⟩
  rw [ones_flat]
  refine ⟨_, rfl, a, ns, 0, rfl, SS.seq hS, _, _, rfl, rfl, (by show (0 : Int) < 8; decide), rfl, _, rfl, ?_⟩
  refine ite2 (fun c => ?_) (fun c => iteF ⟨_, rfl, q l H2 SS (by omega) hc⟩)
  refine ⟨_, rfl, l, rfl, small (by omega), _, _, rfl, rfl, _, rfl, ?_⟩
  refine ite2 (fun c2 => ?_) (fun c2 => ⟨_, rfl, q l H2 SS (by omega) hc⟩)
  have hl0 : (l.length : Int) > 0 := of_decide_eq_true c2
  have hq0 : 0 ≤ (200 : Int) / (l.length : Int) := Int.ediv_nonneg (by decide) (by omega)
  have hq1 : (200 : Int) / (l.length : Int) ≤ 200 := Int.ediv_le_self _ (by decide)
  have hq2 : (200 : Int) / (l.length : Int) * (l.length : Int) ≤ 200 := Int.ediv_mul_le _ (by omega)
  refine ⟨_, rfl, _, rfl, l, rfl, small (by omega), _, _, rfl, rfl, ⟨hl0, by omega⟩, l, _, rfl, rfl, by omega, by omega, by omega, ?_⟩
  refine ⟨_, rfl, q _ H2 SS ?_ (fun c h => rep_all hc c h)⟩
  rw [rep_len]
  have : ((((200 : Int) / (l.length : Int)).toNat * l.length : Nat) : Int) = 200 / (l.length : Int) * (l.length : Int) := by rw [Int.natCast_mul, Int.toNat_of_nonneg hq0]
  omega

end
/-! the law's own comparison of stretches -/
def sp_lwhole : Sp := fun vs H Q _ => ∃ i : Int, vs = [.int i] ∧ Q (.bl true) H
def sp_same3 : Sp := fun vs H Q _ => ∃ (o : St3) (u v : V), vs = [u, v] ∧ StV H o u ∧ StV H o v ∧ Q (.bl true) H
section
variable {P : Program} {w : World} {K : PySem.W.Frag} {mg : Str → Option Value} {base : Heap} {f : Addr} {fd : FuncData}
theorem sc__law_whole : FnScope ["_law_found"] ["_law_found"] (defScope s__law_whole) := ⟨rfl, rfl, rfl, by decide +kernel, rfl, by decide +kernel, by decide +kernel⟩
theorem ok_lwhole (F : Fun K "_law_whole" "_law_whole" s__law_whole f fd) (m_isinstance : mg "isinstance" = none) (m_int : mg "int" = none) (m_bool : mg "bool" = none) : FnOk P w K mg base CX0 1 f fd ["_law_found"] sp_lwhole := by
  refine F.ok sc__law_whole (fun vs H Q E h => ?_) (fun cdv A outer s H vs Q E hr h => ?_)
  · obtain ⟨x, rfl, _⟩ := h
    rfl
  obtain ⟨x, rfl, q⟩ := h
  refine ⟨_, (pss_one (ps_ret (pe_and (pe_callB call_isi (by rfl) m_isinstance boot_isi (pa_cons (pv 0) (pa_cons (pe_bltn (v := .ty "int") (by rfl) m_int boot_int rfl) pa_nil))) (pe_one (pe_not (pe_callB call_isi (by rfl) m_isinstance boot_isi (pa_cons (pv 0) (pa_cons (pe_bltn (v := .ty "bool") (by rfl) m_bool boot_bool rfl) pa_nil)))))))), ?_⟩
  refine ⟨_, rfl, _, _, _, _, rfl, ⟨_, .inl rfl⟩, .int x, kit_ii, _, rfl, iteT ?_⟩
  exact ⟨_, rfl, _, _, _, _, rfl, ⟨_, .inl rfl⟩, .int x, kit_ib, _, rfl, q⟩
theorem sc__law_same : FnScope ["_law_found", "_law_due_here"] ["_law_found", "_law_due_here"] (defScope s__law_same) := ⟨rfl, rfl, rfl, by decide +kernel, rfl, by decide +kernel, by decide +kernel⟩
theorem ok_same3 (F : Fun K "_law_same" "_law_same" s__law_same f fd) (O__law_whole : Own P w K mg base CX0 1 "_law_whole" ["_law_found"] sp_lwhole) (m_len : mg "len" = none) (m_isinstance : mg "isinstance" = none) (m_str : mg "str" = none) (m_tuple : mg "tuple" = none) : FnOk P w K mg base CX0 2 f fd ["_law_found", "_law_due_here"] sp_same3 := by
  refine F.ok sc__law_same (fun vs H Q E h => ?_) (fun cdv A outer s H vs Q E hr h => ?_)
  · obtain ⟨o, u, v, rfl, _⟩ := h
    rfl
  obtain ⟨o, u, v, rfl, hu, hv, q⟩ := h
  refine ⟨_, (pss_cons (ps_if (pt_cmpR op_isN (pv 1) pe_non (nomark _)) (pss_one (ps_ret (pe_cmpR op_isN (pv 0) pe_non (nomark _)))) pss_nil)
      (pss_cons (ps_if (PW.pt (pw_or (pt_not (pt_val (pe_callB call_isi (by rfl) m_isinstance boot_isi (pa_cons (pv 0) (pa_cons (pe_bltn (v := .ty "tuple") (by rfl) m_tuple boot_tuple rfl) pa_nil))))) (pw_or1 (pt_cmpR op_ne (pe_callB call_len_seq (by rfl) m_len PySem.boot_len (pa_cons (pv 0) pa_nil)) pe_int (nomark _))))) (pss_one (ps_ret pe_bl)) pss_nil)
      (pss_cons (ps_if (PW.pt (pw_or (pt_not (pt_val (pe_own O__law_whole hr (by rfl) pass0 (pa_cons (pe_ix ix_tup (pv 0) pe_int (fun _ _ => rfl)) pa_nil)))) (pw_or (pt_not (pt_val (pe_own O__law_whole hr (by rfl) pass0 (pa_cons (pe_ix ix_tup (pv 0) pe_int (fun _ _ => rfl)) pa_nil)))) (pw_or1 (pt_not (pt_val (pe_callB call_isi (by rfl) m_isinstance boot_isi (pa_cons (pe_ix ix_tup (pv 0) pe_int (fun _ _ => rfl)) (pa_cons (pe_bltn (v := .ty "str") (by rfl) m_str boot_str rfl) pa_nil))))))))) (pss_one (ps_ret pe_bl)) pss_nil)
      (pss_one (ps_ret (pe_cmpR (op_eqQ hr.units0) (pv 0) (pv 1) (nomark _))))))), ?_⟩
  cases o with
  | none =>
    cases hu
    cases hv
    exact ⟨_, rfl, rfl, _, rfl, iteDT rfl ⟨_, rfl, rfl, q⟩⟩
  | some o =>
    obtain ⟨a, b, k⟩ := o
    obtain ⟨t, rfl, ht⟩ := hu
    obtain ⟨t', rfl, ht'⟩ := hv
    refine ⟨_, rfl, rfl, _, rfl, iteDF (fun z => by cases z) ?_⟩
    refine ⟨_, rfl, _, _, _, _, rfl, ⟨_, .inl rfl⟩, .tup ht, kit_tt, _, rfl, iteF ?_⟩
    refine ⟨_, rfl, t, _, rfl, .inr (SqT.of ht), rfl, _, rfl, iteF ?_⟩
    refine ⟨_, rfl, t, _, _, _, rfl, rfl, SqT.of ht, rfl, _, rfl, _, rfl, iteF ?_⟩
    refine ⟨_, rfl, t, _, _, _, rfl, rfl, SqT.of ht, rfl, _, rfl, _, rfl, iteF ?_⟩
    refine ⟨_, rfl, t, _, _, _, rfl, rfl, SqT.of ht, rfl, _, _, _, _, rfl, ⟨_, .inl rfl⟩, .str _, kit_ss, _, rfl, iteF ?_⟩
    have e : eqs [nV a, nV b, .str (S k)] [nV a, nV b, .str (S k)] = true := by unfold eqs nV; simp [eqV, eqs]
    refine ⟨_, rfl, _, rfl, t, t', _, _, rfl, rfl, .inr ⟨SqT.of ht, SqT.of ht'⟩, rfl, rfl, ?_⟩
    rw [e]
    exact q
end

/-! brackets -/

def sp_hasO : Sp := fun vs H Q _ => ∃ (l : List Nat) (p : Int), vs = [.str (S l), .int p] ∧ l.length ≤ 100000 ∧ Q (.bl (opn l p)) H
def sp_hasC : Sp := fun vs H Q _ => ∃ (l : List Nat) (p : Int), vs = [.str (S l), .int p] ∧ l.length ≤ 100000 ∧ Q (.bl (cls l p)) H
def sp_closing : Sp := fun vs H Q _ => ∃ x c : Nat, vs = [.str (S [x])] ∧ clo x = some c ∧ Q (.str (S [c])) H
def sp_opening : Sp := fun vs H Q _ => ∃ x c : Nat, vs = [.str (S [x])] ∧ ope x = some c ∧ Q (.str (S [c])) H
def sp_even : Sp := fun vs H Q _ => ∃ (l : List Nat) (p x y : Nat) (st : Int), vs = [.str (S l), .int (p : Int), .int st, .str (S [y])] ∧ l.length ≤ 100000 ∧ l[p]? = some x ∧
  ((st = 1 ∧ clo x = some y ∧ Q (optV (wk x y l p (l.length - (p + 1))).2) H) ∨ (st = -1 ∧ ope x = some y ∧ Q (optV (stk y x l p).head?) H))
def sp_partner : Sp := fun vs H Q _ => ∃ (l : List Nat) (p : Int), vs = [.str (S l), .int p] ∧ l.length ≤ 100000 ∧ 0 ≤ p ∧ Q (optV (pt l l.length p.toNat)) H
section
variable {P : Program} {w : World} {K : PySem.W.Frag} {mg : Str → Option Value} {base : Heap} {f A_OPENING A_CLOSING : Addr} {fd : FuncData}
theorem sc_has_opening : FnScope ["text", "place"] ["text", "place"] (defScope s_has_opening) := ⟨rfl, rfl, rfl, by decide +kernel, rfl, by decide +kernel, by decide +kernel⟩
theorem ok_hasO (F : Fun K "has_opening" "has_opening" s_has_opening f fd) (m_len : mg "len" = none) (m_OPENING : mg "OPENING" = some (.ref A_OPENING)) (TO : TupK K A_OPENING tupO) : FnOk P w K mg base CX0 1 f fd ["text", "place"] sp_hasO := by
  refine F.ok sc_has_opening (fun vs H Q E h => ?_) (fun cdv A outer s H vs Q E hr h => ?_)
  · obtain ⟨l, p, rfl, _⟩ := h
    rfl
  obtain ⟨l, p, rfl, hl, q⟩ := h
  refine ⟨_, (pss_one (ps_ret (pe_and (pe_chain op_le op_lt pe_int (pv 1) (pe_callB call_lenS (by rfl) m_len PySem.boot_len (pa_cons (pv 0) pa_nil))) (pe_one (pe_cmpR op_in_seq (pe_ix ix_S (pv 0) (pv 1) (fun _ _ => rfl)) (pe_glob (v := .ref A_OPENING) (by rfl) m_OPENING rfl) rfl))))), ?_⟩
  refine ⟨_, rfl, _, _, rfl, rfl, _, rfl, ?_⟩
  refine ite2 (fun c => ?_) (fun c => ?_)
  · have c0 := of_decide_eq_true c
    refine ⟨_, rfl, l, rfl, small (by omega), _, _, rfl, rfl, _, rfl, ?_⟩
    refine ite2 (fun d => ?_) (fun d => ?_)
    · have d' := of_decide_eq_true d
      have hp : p.toNat < l.length := by omega
      refine ⟨_, rfl, _, rfl, l, _, _, rfl, rfl, small (by omega), atI_in l c0 hp, A_OPENING, tupO, rfl, .inr TO.sq, rfl, rfl, ?_⟩
      rw [inO, ← opn_in c0 hp]
      exact q
    · have d' := of_decide_eq_false (Bool.eq_false_iff.mpr d)
      rw [opn_out d'] at q
      exact q
  · have c0 := of_decide_eq_false (Bool.eq_false_iff.mpr c)
    rw [opn_neg c0] at q
    exact ⟨false, rfl, iteF q⟩
theorem sc_has_closing : FnScope ["text", "place"] ["text", "place"] (defScope s_has_closing) := ⟨rfl, rfl, rfl, by decide +kernel, rfl, by decide +kernel, by decide +kernel⟩
theorem ok_hasC (F : Fun K "has_closing" "has_closing" s_has_closing f fd) (m_len : mg "len" = none) (m_CLOSING : mg "CLOSING" = some (.ref A_CLOSING)) (TC : TupK K A_CLOSING tupC) : FnOk P w K mg base CX0 1 f fd ["text", "place"] sp_hasC := by
  refine F.ok sc_has_closing (fun vs H Q E h => ?_) (fun cdv A outer s H vs Q E hr h => ?_)
  · obtain ⟨l, p, rfl, _⟩ := h
    rfl
  obtain ⟨l, p, rfl, hl, q⟩ := h
  refine ⟨_, (pss_one (ps_ret (pe_and (pe_chain op_le op_lt pe_int (pv 1) (pe_callB call_lenS (by rfl) m_len PySem.boot_len (pa_cons (pv 0) pa_nil))) (pe_one (pe_cmpR op_in_seq (pe_ix ix_S (pv 0) (pv 1) (fun _ _ => rfl)) (pe_glob (v := .ref A_CLOSING) (by rfl) m_CLOSING rfl) rfl))))), ?_⟩
  refine ⟨_, rfl, _, _, rfl, rfl, _, rfl, ?_⟩
  refine ite2 (fun c => ?_) (fun c => ?_)
  · have c0 := of_decide_eq_true c
    refine ⟨_, rfl, l, rfl, small (by omega), _, _, rfl, rfl, _, rfl, ?_⟩
    refine ite2 (fun d => ?_) (fun d => ?_)
    · have d' := of_decide_eq_true d
      have hp : p.toNat < l.length := by omega
      refine ⟨_, rfl, _, rfl, l, _, _, rfl, rfl, small (by omega), atI_in l c0 hp, A_CLOSING, tupC, rfl, .inr TC.sq, rfl, rfl, ?_⟩
      rw [inC, ← cls_in c0 hp]
      exact q
    · have d' := of_decide_eq_false (Bool.eq_false_iff.mpr d)
      rw [cls_out d'] at q
      exact q
  · have c0 := of_decide_eq_false (Bool.eq_false_iff.mpr c)
    rw [cls_neg c0] at q
    exact ⟨false, rfl, iteF q⟩
theorem sc_closing_of : FnScope ["opening"] ["opening"] (defScope s_closing_of) := ⟨rfl, rfl, rfl, by decide +kernel, rfl, by decide +kernel, by decide +kernel⟩
theorem ok_closing (F : Fun K "closing_of" "closing_of" s_closing_of f fd) (m_OPENING : mg "OPENING" = some (.ref A_OPENING)) (TO : TupK K A_OPENING tupO) (m_CLOSING : mg "CLOSING" = some (.ref A_CLOSING)) (TC : TupK K A_CLOSING tupC) : FnOk P w K mg base CX0 1 f fd ["opening"] sp_closing := by
  refine F.ok sc_closing_of (fun vs H Q E h => ?_) (fun cdv A outer s H vs Q E hr h => ?_)
  · obtain ⟨x, c, rfl, _⟩ := h
    rfl
  obtain ⟨x, c, rfl, hc, q⟩ := h
  obtain ⟨h1, h2⟩ := clo_at hc
  refine ⟨_, (pss_one (ps_ret (pe_ix ix_tup (pe_glob (v := .ref A_CLOSING) (by rfl) m_CLOSING rfl) (pe_bm PySem.F.plainAttrs_tuple PySem.F.slot_tuple_index PySem.F.type_tuple_index mt_tindex (pe_glob (v := .ref A_OPENING) (by rfl) m_OPENING rfl) (pa_cons (pv 0) pa_nil)) (fun _ _ => rfl)))), ?_⟩
  exact ⟨TO.ty, _, rfl, A_OPENING, 40, 91, 123, x, rfl, rfl, TO.sq, h1, A_CLOSING, _, _, _, rfl, rfl, TC.sq, h2, q⟩
theorem sc_opening_of : FnScope ["closing"] ["closing"] (defScope s_opening_of) := ⟨rfl, rfl, rfl, by decide +kernel, rfl, by decide +kernel, by decide +kernel⟩
theorem ok_opening (F : Fun K "opening_of" "opening_of" s_opening_of f fd) (m_OPENING : mg "OPENING" = some (.ref A_OPENING)) (TO : TupK K A_OPENING tupO) (m_CLOSING : mg "CLOSING" = some (.ref A_CLOSING)) (TC : TupK K A_CLOSING tupC) : FnOk P w K mg base CX0 1 f fd ["closing"] sp_opening := by
  refine F.ok sc_opening_of (fun vs H Q E h => ?_) (fun cdv A outer s H vs Q E hr h => ?_)
  · obtain ⟨x, c, rfl, _⟩ := h
    rfl
  obtain ⟨x, c, rfl, hc, q⟩ := h
  obtain ⟨h1, h2⟩ := ope_at hc
  refine ⟨_, (pss_one (ps_ret (pe_ix ix_tup (pe_glob (v := .ref A_OPENING) (by rfl) m_OPENING rfl) (pe_bm PySem.F.plainAttrs_tuple PySem.F.slot_tuple_index PySem.F.type_tuple_index mt_tindex (pe_glob (v := .ref A_CLOSING) (by rfl) m_CLOSING rfl) (pa_cons (pv 0) pa_nil)) (fun _ _ => rfl)))), ?_⟩
  exact ⟨TC.ty, _, rfl, A_CLOSING, 41, 93, 125, x, rfl, rfl, TC.sq, h1, A_OPENING, _, _, _, rfl, rfl, TO.sq, h2, q⟩
/-! first_even -/
def feP (l : List Nat) (p x y : Nat) (H : Hp) (σ : St) (H' : Hp) : Prop := H = H' ∧ ∃ m d : Nat, σ = [some (.str (S l)), some (.int (p : Int)), some (.int 1), some (.str (S [y])), some (.str (S [x])), some (.int (m : Int)), some (.int ((p + 1 + d : Nat) : Int))] ∧ p + 1 + d ≤ l.length ∧ wk x y l p d = (m, none)
def feM (l : List Nat) (σ : St) (_ : Hp) : Nat := match σ with | [_, _, _, _, _, _, some (.int k)] => ((l.length : Int) + 1 - k).toNat | _ => 0
def feQ (l : List Nat) (p x y : Nat) (H : Hp) (σ : St) (H' : Hp) : Prop := H = H' ∧ ∃ m i : Nat, σ = [some (.str (S l)), some (.int (p : Int)), some (.int (-1)), some (.str (S [y])), some (.str (S [x])), some (.int (m : Int)), some (.int ((i : Int) - 1))] ∧ i ≤ p ∧ (stk y x l i)[m]? = (stk y x l p).head?
def feN (σ : St) (_ : Hp) : Nat := match σ with | [_, _, _, _, _, _, some (.int k)] => (k + 1).toNat | _ => 0
theorem neS {a b : Nat} (h : a ≠ b) : ¬ V.str (S [a]) = V.str (S [b]) := fun z => h (List.cons.inj (S_inj (V.str.inj z))).1
theorem nat_i (n : Nat) (h : n ≠ 0) : ¬ V.int (n : Int) = V.int 0 := fun z => by have := V.int.inj z; omega
theorem sc_first_even : FnScope ["text", "place", "step", "wanted", "own", "more", "at"] ["text", "place", "step", "wanted"] (defScope s_first_even) := ⟨rfl, rfl, rfl, by decide +kernel, rfl, by decide +kernel, by decide +kernel⟩
theorem ok_even (F : Fun K "first_even" "first_even" s_first_even f fd) (m_len : mg "len" = none) : FnOk P w K mg base CX0 1 f fd ["text", "place", "step", "wanted"] sp_even := by
  refine F.ok sc_first_even (fun vs H Q E h => ?_) (fun cdv A outer s H vs Q E hr h => ?_)
  · obtain ⟨l, p, x, y, st, rfl, _⟩ := h
    rfl
  obtain ⟨l, p, x, y, st, rfl, hl, hx, q⟩ := h
  obtain ⟨hp, hx'⟩ := List.getElem?_eq_some_iff.mp hx
  refine ⟨_, (pss_cons (ps_set (i := 4) sc_first_even.nd rfl (Or.inl rfl) (pe_ix ix_S (pv 0) (pv 1) (fun _ _ => rfl)))
      (pss_cons (ps_set (i := 5) sc_first_even.nd rfl (Or.inl rfl) pe_int)
      (pss_cons (ps_set (i := 6) sc_first_even.nd rfl (Or.inl rfl) (pe_op op_add (pv 1) (pv 2)))
      (pss_cons (ps_while PassesOwn.never (pt_chain op_le op_lt pe_int (pv 6) (pe_callB call_lenS (by rfl) m_len PySem.boot_len (pa_cons (pv 0) pa_nil))) (pss_cons (ps_if (PW.pt (pw_and (pt_cmpR op_eq (pe_ix ix_S (pv 0) (pv 6) (fun _ _ => rfl)) (pv 3) (nomark _)) (pw_and1 (pt_cmpR op_eq (pv 5) pe_int (nomark _))))) (pss_one (ps_ret (pv 6))) pss_nil)
      (pss_cons (ps_if (pt_cmpR op_eq (pe_ix ix_S (pv 0) (pv 6) (fun _ _ => rfl)) (pv 3) (nomark _)) (pss_one (ps_set (i := 5) sc_first_even.nd rfl (Or.inl rfl) (pe_op op_sub (pv 5) pe_int))) pss_nil)
      (pss_cons (ps_if (pt_cmpR op_eq (pe_ix ix_S (pv 0) (pv 6) (fun _ _ => rfl)) (pv 4) (nomark _)) (pss_one (ps_set (i := 5) sc_first_even.nd rfl (Or.inl rfl) (pe_op op_add (pv 5) pe_int))) pss_nil)
      (pss_one (ps_set (i := 6) sc_first_even.nd rfl (Or.inl rfl) (pe_op op_add (pv 6) (pv 2))))))))
      (pss_one (ps_ret pe_non)))))), ?_⟩
  refine ⟨_, rfl, _, rfl, l, _, _, rfl, rfl, small (by omega), atI_nat hx, ?_⟩
  refine ⟨_, rfl, _, rfl, _, _, rfl, rfl, ?_⟩
  rcases q with ⟨rfl, hc, q⟩ | ⟨rfl, hc, q⟩
  · refine while_in (feP l p x y H) (feM l) ⟨rfl, 0, 0, rfl, hp, rfl⟩ ?_
    rintro σ H' ⟨rfl, m, d, rfl, hd, hw⟩
    obtain ⟨_, hne, _⟩ := clo_ope hc
    refine ⟨_, rfl, _, _, rfl, rfl, _, rfl, iteDT (by omega) ?_⟩
    refine ⟨_, rfl, l, rfl, small (by omega), _, _, rfl, rfl, _, rfl, ?_⟩
    refine ite2 (fun c => ?_) (fun c => ?_)
    · have c' : ((p + 1 + d : Nat) : Int) < (l.length : Int) := of_decide_eq_true c
      have hz : p + 1 + d < l.length := by omega
      have hat : atI l ((p + 1 + d : Nat) : Int) = some (l[p + 1 + d]) := atI_nat (List.getElem?_eq_getElem hz)
      have hg : l[p + 1 + d]? = some (l[p + 1 + d]) := List.getElem?_eq_getElem hz
      have hstep : wk x y l p (d + 1) = stpW x y (some (l[p + 1 + d])) (p + 1 + d) (m, none) := by
        show stpW x y l[p + 1 + d]? _ _ = _
        rw [hg, hw]
      generalize l[p + 1 + d] = z at hat hg hstep
      have less : ∀ e : Int, e = ((p + 1 + (d + 1) : Nat) : Int) → ((l.length : Int) + 1 - e).toNat < ((l.length : Int) + 1 - ((p + 1 + d : Nat) : Int)).toNat := fun e he => by omega
      refine ⟨_, turn_N (Pv := feP l p x y H) (μ := feM l), ?_⟩
      refine ⟨_, rfl, _, rfl, l, _, _, rfl, rfl, small (by omega), hat, _, rfl, rfl, _, rfl, ?_⟩
      by_cases hzy : z = y
      · subst hzy
        refine iteDT rfl ⟨_, rfl, rfl, _, rfl, ?_⟩
        rw [stpW_none, if_pos rfl] at hstep
        by_cases hm : m = 0
        · subst hm
          rw [if_pos rfl] at hstep
          refine iteDT rfl ⟨_, rfl, ?_⟩
          have := wk_stay (o := x) (c := z) (l := l) (p := p) (d := d + 1) (y := p + 1 + d) (by rw [hstep]) (l.length - (p + 1) - (d + 1))
          rw [show d + 1 + (l.length - (p + 1) - (d + 1)) = l.length - (p + 1) by omega] at this
          rw [this] at q
          exact q
        · rw [if_neg hm] at hstep
          refine iteDF (nat_i m hm) ?_
          refine ⟨_, rfl, _, rfl, l, _, _, rfl, rfl, small (by omega), hat, _, rfl, rfl, _, rfl, iteDT rfl ?_⟩
          refine ⟨_, rfl, _, _, rfl, rfl, ?_⟩
          refine ⟨_, rfl, _, rfl, l, _, _, rfl, rfl, small (by omega), hat, _, rfl, rfl, _, rfl, iteDF (neS (Ne.symm hne)) ?_⟩
          refine ⟨_, rfl, _, rfl, _, _, rfl, rfl, ⟨rfl, m - 1, d + 1, ?_, by omega, hstep⟩, less _ rfl⟩
          rw [show ((m - 1 : Nat) : Int) = (m : Int) - 1 by omega]
          rfl
      · refine iteDF (neS hzy) (iteF ?_)
        rw [stpW_none, if_neg (fun e => hzy (Option.some.inj e))] at hstep
        refine ⟨_, rfl, _, rfl, l, _, _, rfl, rfl, small (by omega), hat, _, rfl, rfl, _, rfl, iteDF (neS hzy) ?_⟩
        refine ⟨_, rfl, _, rfl, l, _, _, rfl, rfl, small (by omega), hat, _, rfl, rfl, _, rfl, ?_⟩
        by_cases hzx : z = x
        · subst hzx
          rw [if_pos rfl] at hstep
          refine iteDT rfl ⟨_, rfl, _, _, rfl, rfl, ?_⟩
          exact ⟨_, rfl, _, rfl, _, _, rfl, rfl, ⟨rfl, m + 1, d + 1, rfl, by omega, hstep⟩, less _ rfl⟩
        · rw [if_neg (fun e => hzx (Option.some.inj e))] at hstep
          refine iteDF (neS hzx) ?_
          exact ⟨_, rfl, _, rfl, _, _, rfl, rfl, ⟨rfl, m, d + 1, rfl, by omega, hstep⟩, less _ rfl⟩
    · have c' : ¬ ((p + 1 + d : Nat) : Int) < (l.length : Int) := of_decide_eq_false (Bool.eq_false_iff.mpr c)
      rw [show l.length - (p + 1) = d by omega, hw] at q
      exact q
  · refine while_in (feQ l p x y H) feN ⟨rfl, 0, p, rfl, Nat.le_refl _, by rw [List.head?_eq_getElem?]⟩ ?_
    rintro σ H' ⟨rfl, m, i, rfl, hi, hw⟩
    obtain ⟨_, hne, _⟩ := ope_clo hc
    refine ⟨_, rfl, _, _, rfl, rfl, _, rfl, ?_⟩
    cases i with
    | zero =>
      refine iteDF (by omega) ⟨_, rfl, iteF ?_⟩
      rw [← hw] at q
      exact q
    | succ i =>
      have e1 : (((i + 1 : Nat) : Int) - 1) = (i : Int) := by omega
      rw [e1]
      refine iteDT (by omega) ?_
      refine ⟨_, rfl, l, rfl, small (by omega), _, _, rfl, rfl, _, rfl, iteDT (by omega) ?_⟩
      have hz : i < l.length := by omega
      have hat : atI l (i : Int) = some (l[i]) := atI_nat (List.getElem?_eq_getElem hz)
      have hg : l[i]? = some (l[i]) := List.getElem?_eq_getElem hz
      rw [stk_back hne, hg] at hw
      generalize l[i] = z at hat hg hw
      have less : ∀ e : Int, e = (i : Int) - 1 → (e + 1).toNat < ((i : Int) + 1).toNat := fun e he => by omega
      refine ⟨fun σ' H' => feQ l p x y H σ' H' ∧ feN σ' H' < ((i : Int) + 1).toNat, ?_, ?_⟩
      · rintro σ' H' ⟨h1, h2⟩
        exact ⟨_, h2, rfl, h1⟩
      refine ⟨_, rfl, _, rfl, l, _, _, rfl, rfl, small (by omega), hat, _, rfl, rfl, _, rfl, ?_⟩
      by_cases hzy : z = y
      · subst hzy
        refine iteDT rfl ⟨_, rfl, rfl, _, rfl, ?_⟩
        rw [if_pos rfl] at hw
        by_cases hm : m = 0
        · subst hm
          rw [if_pos rfl] at hw
          refine iteDT rfl ⟨_, rfl, ?_⟩
          rw [← hw] at q
          exact q
        · rw [if_neg hm] at hw
          refine iteDF (nat_i m hm) ?_
          refine ⟨_, rfl, _, rfl, l, _, _, rfl, rfl, small (by omega), hat, _, rfl, rfl, _, rfl, iteDT rfl ?_⟩
          refine ⟨_, rfl, _, _, rfl, rfl, ?_⟩
          refine ⟨_, rfl, _, rfl, l, _, _, rfl, rfl, small (by omega), hat, _, rfl, rfl, _, rfl, iteDF (neS hne) ?_⟩
          refine ⟨_, rfl, _, rfl, _, _, rfl, rfl, ⟨rfl, m - 1, i, ?_, by omega, hw⟩, less _ rfl⟩
          rw [show ((m - 1 : Nat) : Int) = (m : Int) - 1 by omega]
          rfl
      · refine iteDF (neS hzy) (iteF ?_)
        rw [if_neg (fun e => hzy (Option.some.inj e))] at hw
        refine ⟨_, rfl, _, rfl, l, _, _, rfl, rfl, small (by omega), hat, _, rfl, rfl, _, rfl, iteDF (neS hzy) ?_⟩
        refine ⟨_, rfl, _, rfl, l, _, _, rfl, rfl, small (by omega), hat, _, rfl, rfl, _, rfl, ?_⟩
        by_cases hzx : z = x
        · subst hzx
          rw [if_pos rfl] at hw
          refine iteDT rfl ⟨_, rfl, _, _, rfl, rfl, ?_⟩
          exact ⟨_, rfl, _, rfl, _, _, rfl, rfl, ⟨rfl, m + 1, i, rfl, by omega, hw⟩, less _ rfl⟩
        · rw [if_neg (fun e => hzx (Option.some.inj e))] at hw
          refine iteDF (neS hzx) ?_
          exact ⟨_, rfl, _, rfl, _, _, rfl, rfl, ⟨rfl, m, i, rfl, by omega, hw⟩, less _ rfl⟩
theorem sc_partner : FnScope ["text", "place"] ["text", "place"] (defScope s_partner) := ⟨rfl, rfl, rfl, by decide +kernel, rfl, by decide +kernel, by decide +kernel⟩
theorem ok_partner (F : Fun K "partner" "partner" s_partner f fd) (O_has_opening : Own P w K mg base CX0 1 "has_opening" ["text", "place"] sp_hasO) (O_has_closing : Own P w K mg base CX0 1 "has_closing" ["text", "place"] sp_hasC)
    (O_closing_of : Own P w K mg base CX0 1 "closing_of" ["opening"] sp_closing) (O_opening_of : Own P w K mg base CX0 1 "opening_of" ["closing"] sp_opening) (O_first_even : Own P w K mg base CX0 1 "first_even" ["text", "place", "step", "wanted"] sp_even) : FnOk P w K mg base CX0 2 f fd ["text", "place"] sp_partner := by
  refine F.ok sc_partner (fun vs H Q E h => ?_) (fun cdv A outer s H vs Q E hr h => ?_)
  · obtain ⟨l, p, rfl, _⟩ := h
    rfl
  obtain ⟨l, p, rfl, hl, h0, q⟩ := h
  have ep : p = ((p.toNat : Nat) : Int) := by omega
  refine ⟨_, (pss_cons (ps_if (pt_val (pe_own O_has_opening hr (by rfl) pass0 (pa_cons (pv 0) (pa_cons (pv 1) pa_nil)))) (pss_one (ps_ret (pe_own O_first_even hr (by rfl) pass0 (pa_cons (pv 0) (pa_cons (pv 1) (pa_cons pe_int (pa_cons (pe_own O_closing_of hr (by rfl) pass0 (pa_cons (pe_ix ix_S (pv 0) (pv 1) (fun _ _ => rfl)) pa_nil)) pa_nil))))))) pss_nil)
      (pss_cons (ps_if (pt_val (pe_own O_has_closing hr (by rfl) pass0 (pa_cons (pv 0) (pa_cons (pv 1) pa_nil)))) (pss_one (ps_ret (pe_own O_first_even hr (by rfl) pass0 (pa_cons (pv 0) (pa_cons (pv 1) (pa_cons (pe_un un_neg pe_int) (pa_cons (pe_own O_opening_of hr (by rfl) pass0 (pa_cons (pe_ix ix_S (pv 0) (pv 1) (fun _ _ => rfl)) pa_nil)) pa_nil))))))) pss_nil)
      (pss_one (ps_ret pe_non)))), ?_⟩
  refine ⟨_, rfl, _, rfl, l, p, rfl, hl, _, rfl, ?_⟩
  cases e : opn l p with
  | true =>
    obtain ⟨_, x, c, hx, hc⟩ := opn_yes e
    have hp : p.toNat < l.length := (List.getElem?_eq_some_iff.mp hx).1
    have eq : pt l l.length p.toNat = (wk x c l p.toNat (l.length - (p.toNat + 1))).2 := by
      unfold pt
      rw [hx]
      dsimp only
      rw [hc]
      dsimp only
      rw [if_pos hp]
    rw [eq] at q
    refine iteT ⟨_, rfl, _, rfl, _, rfl, _, rfl, l, _, _, rfl, rfl, small (by omega), (by rw [ep]; exact atI_nat hx), x, c, rfl, hc, l, p.toNat, x, c, 1, (by rw [← ep]; rfl), hl, hx, .inl ⟨rfl, hc, q⟩⟩
  | false =>
    refine iteF ⟨_, rfl, _, rfl, l, p, rfl, hl, _, rfl, ?_⟩
    have nc : ∀ x, l[p.toNat]? = some x → clo x = none := fun x hx => by
      have hp : p.toNat < l.length := (List.getElem?_eq_some_iff.mp hx).1
      rw [opn_in h0 hp, (List.getElem?_eq_some_iff.mp hx).2] at e
      exact Option.isNone_iff_eq_none.mp (by rw [Option.isNone_iff_eq_none]; cases z : clo x with | none => rfl | some c => rw [z] at e; cases e)
    cases e2 : cls l p with
    | true =>
      obtain ⟨_, x, c, hx, hc⟩ := cls_yes e2
      have hp : p.toNat < l.length := (List.getElem?_eq_some_iff.mp hx).1
      have eq : pt l l.length p.toNat = (stk c x l p.toNat).head? := by
        unfold pt
        rw [hx]
        dsimp only
        rw [nc x hx]
        dsimp only
        rw [hc]
        dsimp only
        rw [if_pos hp]
      rw [eq] at q
      refine iteT ⟨_, rfl, _, rfl, _, rfl, _, rfl, _, rfl, l, _, _, rfl, rfl, small (by omega), (by rw [ep]; exact atI_nat hx), x, c, rfl, hc, l, p.toNat, x, c, -1, (by rw [← ep]; rfl), hl, hx, .inr ⟨rfl, hc, q⟩⟩
    | false =>
      have eq : pt l l.length p.toNat = none := by
        unfold pt
        cases hx : l[p.toNat]? with
        | none => rfl
        | some x =>
          dsimp only
          rw [nc x hx]
          dsimp only
          have hp : p.toNat < l.length := (List.getElem?_eq_some_iff.mp hx).1
          rw [cls_in h0 hp, (List.getElem?_eq_some_iff.mp hx).2] at e2
          cases z : ope x with
          | none => rfl
          | some c => rw [z] at e2; cases e2
      rw [eq] at q
      exact iteF q
end

end My

set_option Elab.async false
set_option linter.all false
set_option maxRecDepth 100000
set_option maxHeartbeats 4000000
namespace My
open PySem L2



/-! modehand.things: the quotes -/

def sp_inside : Sp := fun vs H Q _ => ∃ (o : Option (Nat × Nat)) (u : V), vs = [u] ∧ PrV H o u ∧ ∀ v H', Same H H' → StV H' (o.map fun q => (q.1 + 1, q.2, cSigns)) v → Q v H'
def sp_outside : Sp := fun vs H Q _ => ∃ (o : Option (Nat × Nat)) (u : V), vs = [u] ∧ PrV H o u ∧ ∀ v H', Same H H' → StV H' (o.map fun q => (q.1, q.2 + 1, cSigns)) v → Q v H'
section
variable {P : Program} {w : World} {K : PySem.W.Frag} {mg : Str → Option Value} {base : Heap} {f : Addr} {fd : FuncData}
theorem sc_inside : FnScope ["pair"] ["pair"] (defScope s_inside) := ⟨rfl, rfl, rfl, by decide +kernel, rfl, by decide +kernel, by decide +kernel⟩
theorem ok_inside (F : Fun K "inside" "inside" s_inside f fd) : FnOk P w K mg base CX0 1 f fd ["pair"] sp_inside := by
  refine F.ok sc_inside (fun vs H Q E h => ?_) (fun cdv A outer s H vs Q E hr h => ?_)
  · obtain ⟨o, u, rfl, _⟩ := h
    rfl
  obtain ⟨o, u, rfl, hu, q⟩ := h
  refine ⟨_, (pss_one (ps_ret (pe_ifExp (pt_cmpR op_isN (pv 0) pe_non (nomark _)) pe_non (pe_tup (pa_cons (pe_op op_add (pe_ix ix_tup (pv 0) pe_int (fun _ _ => rfl)) pe_int) (pa_cons (pe_ix ix_tup (pv 0) pe_int (fun _ _ => rfl)) (pa_cons pe_str pa_nil))))))), ?_⟩
  rcases o with _ | ⟨x, y⟩
  · cases hu
    exact ⟨_, rfl, rfl, _, rfl, iteDT rfl (q _ H (Same.refl _) rfl)⟩
  · obtain ⟨t, rfl, ht⟩ := hu
    refine ⟨_, rfl, rfl, _, rfl, iteDF (fun z => by cases z) ?_⟩
    exact ⟨_, rfl, t, _, _, _, rfl, rfl, SqT.of ht, rfl, _, _, rfl, rfl, _, rfl, t, _, _, _, rfl, rfl, SqT.of ht, rfl, (by show 3 ≤ sizeLine; decide), fun d hd => q _ _ (same_new hd _) ⟨d, rfl, upd_same⟩⟩
theorem sc_outside : FnScope ["pair"] ["pair"] (defScope s_outside) := ⟨rfl, rfl, rfl, by decide +kernel, rfl, by decide +kernel, by decide +kernel⟩
theorem ok_outside (F : Fun K "outside" "outside" s_outside f fd) : FnOk P w K mg base CX0 1 f fd ["pair"] sp_outside := by
  refine F.ok sc_outside (fun vs H Q E h => ?_) (fun cdv A outer s H vs Q E hr h => ?_)
  · obtain ⟨o, u, rfl, _⟩ := h
    rfl
  obtain ⟨o, u, rfl, hu, q⟩ := h
  refine ⟨_, (pss_one (ps_ret (pe_ifExp (pt_cmpR op_isN (pv 0) pe_non (nomark _)) pe_non (pe_tup (pa_cons (pe_ix ix_tup (pv 0) pe_int (fun _ _ => rfl)) (pa_cons (pe_op op_add (pe_ix ix_tup (pv 0) pe_int (fun _ _ => rfl)) pe_int) (pa_cons pe_str pa_nil))))))), ?_⟩
  rcases o with _ | ⟨x, y⟩
  · cases hu
    exact ⟨_, rfl, rfl, _, rfl, iteDT rfl (q _ H (Same.refl _) rfl)⟩
  · obtain ⟨t, rfl, ht⟩ := hu
    refine ⟨_, rfl, rfl, _, rfl, iteDF (fun z => by cases z) ?_⟩
    exact ⟨_, rfl, t, _, _, _, rfl, rfl, SqT.of ht, rfl, _, rfl, t, _, _, _, rfl, rfl, SqT.of ht, rfl, _, _, rfl, rfl, (by show 3 ≤ sizeLine; decide), fun d hd => q _ _ (same_new hd _) ⟨d, rfl, upd_same⟩⟩

end
/-! modehand.things: brackets round a place -/

def sp_still : Sp := fun vs H Q _ => ∃ (l : List Nat) (p o c : Nat), vs = [.str (S l), .int (p : Int), .str (S [o])] ∧ clo o = some c ∧ l.length ≤ 100000 ∧ p ≤ l.length ∧ ∀ (D : Addr) (H' : Hp), Same H H' → H' D = some (.lst (((stk o c l p).reverse).map nV)) → Q (.ref D) H'
def sp_round : Sp := fun vs H Q _ => ∃ (l : List Nat) (p o c n : Nat), vs = [.str (S l), .int (p : Int), .str (S [o]), .int (n : Int)] ∧ clo o = some c ∧ l.length ≤ 100000 ∧ p ≤ l.length ∧ 1 ≤ n ∧ ∀ v H', Same H H' → PrV H' (rnd o c l p n) v → Q v H'
section
variable {P : Program} {w : World} {K : PySem.W.Frag} {mg : Str → Option Value} {base : Heap} {f : Addr} {fd : FuncData}
theorem sc_still_open : FnScope ["text", "place", "opening", "closing", "found", "at"] ["text", "place", "opening"] (defScope s_still_open) := ⟨rfl, rfl, rfl, by decide +kernel, rfl, by decide +kernel, by decide +kernel⟩
theorem ok_still (F : Fun K "still_open" "still_open" s_still_open f fd) (O_closing_of : Own P w K mg base CX0 1 "closing_of" ["opening"] sp_closing) (m_range : mg "range" = none) : FnOk P w K mg base CX0 2 f fd ["text", "place", "opening"] sp_still := by
  refine F.ok sc_still_open (fun vs H Q E h => ?_) (fun cdv A outer s H vs Q E hr h => ?_)
  · obtain ⟨l, p, o, c, rfl, _⟩ := h
    rfl
  obtain ⟨l, p, o, c, rfl, hc, hl, hp, q⟩ := h
  obtain ⟨_, hoc, _, _⟩ := clo_ope hc
  refine ⟨_, (pss_cons (ps_set (i := 3) sc_still_open.nd rfl (Or.inl rfl) (pe_own O_closing_of hr (by rfl) pass0 (pa_cons (pv 2) pa_nil)))
      (pss_cons (ps_set (i := 4) sc_still_open.nd rfl (Or.inl rfl) (pe_lst pa_nil))
      (pss_cons (ps_for PassesOwn.never rfl (pi_range1 (by rfl) m_range (pa_cons (pv 1) pa_nil)) (pg_name (i := 5) sc_still_open.nd rfl (Or.inl rfl)) (pss_one (ps_if (pt_cmpR op_eq (pe_ix ix_S (pv 0) (pv 5) (fun _ _ => rfl)) (pv 2) (nomark _)) (pss_one (ps_expr (pe_bm PySem.F.plainAttrs_list PySem.F.slot_list_append PySem.F.type_list_append mt_append (pv 4) (pa_cons (pv 5) pa_nil)))) (pss_one (ps_if (PW.pt (pw_and (pt_cmpR op_eq (pe_ix ix_S (pv 0) (pv 5) (fun _ _ => rfl)) (pv 3) (nomark _)) (pw_and1 (pt_truth (pv 4) (by intro _; rfl))))) (pss_one (ps_expr (pe_bm0 PySem.F.plainAttrs_list PySem.F.slot_list_pop PySem.F.type_list_pop mt_pop (pv 4)))) pss_nil)))))
      (pss_one (ps_ret (pv 4)))))), ?_⟩
  refine ⟨_, rfl, o, c, rfl, hc, ?_⟩
  refine ⟨Nat.zero_le _, fun D hD => ?_⟩
  refine ⟨_, rfl, _, rfl, by omega, by omega, ?_⟩
  refine for_range (fun i σ H' => (∃ x : Option V, σ = [some (.str (S l)), some (.int (p : Int)), some (.str (S [o])), some (.str (S [c])), some (.ref D), x]) ∧ Same H H' ∧ H' D = some (.lst (((stk o c l i).reverse).map nV))) ⟨⟨none, rfl⟩, same_new hD _, upd_same⟩ ?_ ?_
  · rintro i σ H' hi ⟨⟨x, rfl⟩, SS, hD'⟩
    have hi' : i < p := by
      have : i < ((p : Int)).toNat := hi
      omega
    rw [Int.zero_add]
    have hz : i < l.length := by omega
    have hg : l[i]? = some (l[i]) := List.getElem?_eq_getElem hz
    have hat : atI l (i : Int) = some (l[i]) := atI_nat hg
    generalize l[i] = y at hg hat
    have hlen := stk_len o c l i
    have es : stk o c l (i + 1) = if l[i]? = some o then i :: stk o c l i else if l[i]? = some c then (stk o c l i).tail else stk o c l i := rfl
    rw [hg] at es
    refine ⟨_, rfl, _, rfl, l, _, _, rfl, rfl, small (by omega), hat, _, rfl, rfl, _, rfl, ?_⟩
    by_cases e1 : y = o
    · subst e1
      rw [if_pos rfl] at es
      refine iteDT rfl ⟨_, rfl, .inl ⟨rfl, _, SqL.of hD'⟩, _, rfl, D, _, _, rfl, rfl, hD', ?_, ⟨_, rfl⟩, same_upd SS hD, ?_⟩
      · rw [List.length_map, List.length_reverse]
        exact Nat.lt_of_lt_of_le (show _ < 1000000 by omega) (small (Nat.le_refl _))
      · rw [upd_same, es, List.reverse_cons, List.map_append]
        rfl
    rw [if_neg (fun z => e1 (Option.some.inj z))] at es
    refine iteDF (neS e1) ⟨_, rfl, _, rfl, l, _, _, rfl, rfl, small (by omega), hat, _, rfl, rfl, _, rfl, ?_⟩
    by_cases e2 : y = c
    · subst e2
      rw [if_pos rfl] at es
      refine iteDT rfl ⟨_, rfl, !((((stk o y l i).reverse).map nV)).isEmpty, .inl ⟨_, SqL.of hD', rfl⟩, ?_⟩
      cases et : stk o y l i with
      | nil =>
        rw [et] at es hD'
        exact iteF ⟨⟨_, rfl⟩, SS, by rw [es]; exact hD'⟩
      | cons t T =>
        rw [et] at es hD'
        refine ite2 (fun _ => ?_) (fun z => ?_)
        · refine ⟨_, rfl, .inl ⟨rfl, _, SqL.of hD'⟩, D, _, nV t, rfl, rfl, hD', ?_, ⟨_, rfl⟩, same_upd SS hD, ?_⟩
          · rw [List.reverse_cons, List.map_append]
            simp
          · rw [upd_same, es, List.reverse_cons, List.map_append]
            simp
        · exfalso
          apply z
          rw [List.reverse_cons, List.map_append]
          simp
    · rw [if_neg (fun z => e2 (Option.some.inj z))] at es
      exact iteDF (neS e2) (iteF ⟨⟨_, rfl⟩, SS, by rw [es]; exact hD'⟩)
  · rintro σ H' ⟨⟨x, rfl⟩, SS, hD'⟩
    exact ⟨_, rfl, q D H' SS hD'⟩
theorem sc_brackets_round : FnScope ["text", "place", "opening", "many", "found", "low", "high"] ["text", "place", "opening", "many"] (defScope s_brackets_round) := ⟨rfl, rfl, rfl, by decide +kernel, rfl, by decide +kernel, by decide +kernel⟩
theorem ok_round (F : Fun K "brackets_round" "brackets_round" s_brackets_round f fd) (O_still_open : Own P w K mg base CX0 2 "still_open" ["text", "place", "opening"] sp_still) (O_partner : Own P w K mg base CX0 2 "partner" ["text", "place"] sp_partner) (m_len : mg "len" = none) : FnOk P w K mg base CX0 3 f fd ["text", "place", "opening", "many"] sp_round := by
  refine F.ok sc_brackets_round (fun vs H Q E h => ?_) (fun cdv A outer s H vs Q E hr h => ?_)
  · obtain ⟨l, p, o, c, n, rfl, _⟩ := h
    rfl
  obtain ⟨l, p, o, c, n, rfl, hc, hl, hp, hn, q⟩ := h
  obtain ⟨_, hoc, _, _⟩ := clo_ope hc
  refine ⟨_, (pss_cons (ps_set (i := 4) sc_brackets_round.nd rfl (Or.inl rfl) (pe_own O_still_open hr (by rfl) pass0 (pa_cons (pv 0) (pa_cons (pv 1) (pa_cons (pv 2) pa_nil)))))
      (pss_cons (ps_if (pt_not (pt_chain op_le op_le pe_int (pv 3) (pe_callB call_len_seq (by rfl) m_len PySem.boot_len (pa_cons (pv 4) pa_nil)))) (pss_one (ps_ret pe_non)) pss_nil)
      (pss_cons (ps_set (i := 5) sc_brackets_round.nd rfl (Or.inl rfl) (pe_ix ix_list (pv 4) (pe_op op_sub (pe_callB call_len_seq (by rfl) m_len PySem.boot_len (pa_cons (pv 4) pa_nil)) (pv 3)) (fun _ _ => rfl)))
      (pss_cons (ps_set (i := 6) sc_brackets_round.nd rfl (Or.inl rfl) (pe_own O_partner hr (by rfl) pass0 (pa_cons (pv 0) (pa_cons (pv 5) pa_nil))))
      (pss_one (ps_ret (pe_ifExp (pt_cmpR op_isN (pv 6) pe_non (nomark _)) pe_non (pe_tup (pa_cons (pv 5) (pa_cons (pv 6) pa_nil)))))))))), ?_⟩
  refine ⟨_, rfl, _, rfl, _, rfl, l, p, o, c, rfl, hc, hl, hp, fun D H1 S1 hD => ?_⟩
  have hlen : ((((stk o c l p).reverse).map nV).length : Int) = ((stk o c l p).length : Int) := by rw [List.length_map, List.length_reverse]
  refine ⟨_, rfl, _, _, rfl, rfl, _, rfl, iteDT (by omega) ⟨_, rfl, D, _, rfl, .inl (SqL.of hD), _, _, rfl, rfl, _, rfl, ?_⟩⟩
  rw [hlen]
  unfold rnd at q
  by_cases z : n ≤ (stk o c l p).length
  · obtain ⟨t, ht⟩ : ∃ t, (stk o c l p)[n - 1]? = some t := ⟨_, List.getElem?_eq_getElem (by omega)⟩
    obtain ⟨t1, t2, _⟩ := (stk_iff hoc p (n - 1) t).mp ht
    have hat : atI (((stk o c l p).reverse).map nV) ((((stk o c l p).length - n : Nat)) : Int) = some (nV t) := atI_nat (by
      rw [List.getElem?_map, List.getElem?_reverse (by omega), show (stk o c l p).length - 1 - ((stk o c l p).length - n) = n - 1 by omega, ht]
      rfl)
    have e1 : (((stk o c l p).length - n : Nat) : Int) = ((stk o c l p).length : Int) - (n : Int) := by omega
    rw [e1, ← hlen] at hat
    refine iteNS (by omega) ⟨_, rfl, _, rfl, D, _, rfl, .inl (SqL.of hD), _, rfl, _, _, rfl, rfl, D, _, _, _, rfl, rfl, SqL.of hD, hat, ?_⟩
    refine ⟨_, rfl, _, rfl, l, _, rfl, hl, by show (0 : Int) ≤ ((t : Nat) : Int); omega, ?_⟩
    have ept : pt l l.length t = endO o c l t := by
      unfold pt
      rw [t2]
      dsimp only
      rw [hc]
      dsimp only
      rw [if_pos (by omega)]
      rfl
    rw [ht] at q
    show gName _ (optV (pt l l.length (((t : Nat) : Int)).toNat)) _ _ _
    rw [show (((t : Nat) : Int)).toNat = t from rfl, ept]
    cases ee : endO o c l t with
    | none =>
      rw [show (some t).bind (fun q => (endO o c l q).map fun y => (q, y)) = none from by show (endO o c l t).map _ = none; rw [ee]; rfl] at q
      exact ⟨_, rfl, rfl, _, rfl, iteDT rfl (q _ H1 S1 rfl)⟩
    | some y =>
      rw [show (some t).bind (fun q => (endO o c l q).map fun y => (q, y)) = some (t, y) from by show (endO o c l t).map _ = some (t, y); rw [ee]; rfl] at q
      exact ⟨_, rfl, rfl, _, rfl, iteDF (fun z => by cases z) ⟨_, rfl, _, rfl, (by show 2 ≤ sizeLine; decide), fun u hu => q _ _ (S1.trans (same_new hu _)) ⟨u, rfl, upd_same⟩⟩⟩
  · rw [List.getElem?_eq_none (by omega)] at q
    exact iteNF (by omega) (q _ H1 S1 rfl)
end

/-! stretch, for brackets -/

def rndS (o c : Nat) (l : List Nat) (p n b : Nat) : St3 := (rnd o c l p n).map fun q => (q.1 + 1 - b, q.2 + b, cSigns)
def sp_stretch : Sp := fun vs H Q _ => ∃ (o c : Nat) (l : List Nat) (p b : Nat) (n : Option Nat), vs = [.str (S [if b = 0 then o else c]), .str (S l), .int (p : Int), optV n, .non] ∧ clo o = some c ∧ b ≤ 1 ∧ l.length ≤ 100000 ∧ p ≤ l.length ∧ (∀ m, n = some m → 1 ≤ m) ∧ ∀ v H', Same H H' → StV H' (rndS o c l p (n.getD 1) b) v → Q v H'
theorem fn_false {P : Program} {w : World} {K : PySem.W.Frag} {mg : Str → Option Value} {base : Heap} {f : Addr} {fd : FuncData} {k : Nat} {ps : List Str} : FnOk P w K mg base CX0 k f fd ps (fun _ _ _ _ => False) := ⟨fun _ _ _ _ h => h.elim, fun _ _ _ _ _ _ _ _ _ _ _ _ _ h => h.elim⟩
section
variable {P : Program} {w : World} {K : PySem.W.Frag} {mg : Str → Option Value} {base : Heap} {f A_OPENING A_CLOSING A_COUNT_PASSED_OVER : Addr} {fd : FuncData}
theorem sc_stretch : FnScope ["key", "text", "place", "count", "seen", "many"] ["key", "text", "place", "count", "seen"] (defScope s_stretch) := ⟨rfl, rfl, rfl, by decide +kernel, rfl, by decide +kernel, by decide +kernel⟩
theorem ok_stretch {dV : Value} (F : FunD K "stretch" "stretch" s_stretch dV f fd) (m_OPENING : mg "OPENING" = some (.ref A_OPENING)) (TO : TupK K A_OPENING tupO) (m_CLOSING : mg "CLOSING" = some (.ref A_CLOSING)) (TC : TupK K A_CLOSING tupC)
    (m_COUNT_PASSED_OVER : mg "COUNT_PASSED_OVER" = some (.ref A_COUNT_PASSED_OVER))
    (O_inside : Own P w K mg base CX0 1 "inside" ["pair"] sp_inside) (O_outside : Own P w K mg base CX0 1 "outside" ["pair"] sp_outside) (O_brackets_round : Own P w K mg base CX0 3 "brackets_round" ["text", "place", "opening", "many"] sp_round) (O_opening_of : Own P w K mg base CX0 1 "opening_of" ["closing"] sp_opening)
    (O_seen_stretch : Own P w K mg base CX0 1 "seen_stretch" ["text", "place", "seen"] (fun _ _ _ _ => False)) (O_rows_from : Own P w K mg base CX0 1 "rows_from" ["text", "place", "many"] (fun _ _ _ _ => False)) :
    FnOk P w K mg base CX0 4 f fd ["key", "text", "place", "count", "seen"] sp_stretch := by
  refine F.ok sc_stretch (fun vs H Q E h => ?_) (fun cdv A outer s H vs Q E hr h => ?_)
  · obtain ⟨o, c, l, p, b, n, rfl, _⟩ := h
    rfl
  obtain ⟨o, c, l, p, b, n, rfl, hc, hb, hl, hp, hn, q⟩ := h
  have hn1 : 1 ≤ n.getD 1 := by
    cases n with
    | none => exact Nat.le_refl _
    | some m => exact hn m rfl
  refine ⟨_, (pss_cons (ps_set (i := 5) sc_stretch.nd rfl (Or.inl rfl) (pe_ifExp (pt_cmpR op_isN (pv 3) pe_non (nomark _)) pe_int (pv 3)))
      (pss_cons (ps_if (pt_cmpR op_eq (pv 0) pe_str (nomark _)) (pss_one (ps_ret (pe_own O_seen_stretch hr (by rfl) pass0 (pa_cons (pv 1) (pa_cons (pv 2) (pa_cons (pv 4) pa_nil)))))) pss_nil)
      (pss_cons (ps_if (pt_cmpR op_eq (pv 0) pe_str (nomark _)) (pss_one (ps_ret (pe_own O_rows_from hr (by rfl) pass0 (pa_cons (pv 1) (pa_cons (pv 2) (pa_cons (pv 5) pa_nil)))))) pss_nil)
      (pss_cons (ps_if (pt_cmpR op_in_seq (pv 0) (pe_glob (v := .ref A_OPENING) (by rfl) m_OPENING rfl) rfl) (pss_one (ps_ret (pe_own O_inside hr (by rfl) pass0 (pa_cons (pe_own O_brackets_round hr (by rfl) pass0 (pa_cons (pv 1) (pa_cons (pv 2) (pa_cons (pv 0) (pa_cons (pv 5) pa_nil))))) pa_nil)))) pss_nil)
      (pss_cons (ps_if (pt_cmpR op_in_seq (pv 0) (pe_glob (v := .ref A_CLOSING) (by rfl) m_CLOSING rfl) rfl) (pss_one (ps_ret (pe_own O_outside hr (by rfl) pass0 (pa_cons (pe_own O_brackets_round hr (by rfl) pass0 (pa_cons (pv 1) (pa_cons (pv 2) (pa_cons (pe_own O_opening_of hr (by rfl) pass0 (pa_cons (pv 0) pa_nil)) (pa_cons (pv 5) pa_nil))))) pa_nil)))) pss_nil)
      (pss_cons (ps_if (pt_cmp (pc_kin (pv 0) (pe_glob (v := .ref A_COUNT_PASSED_OVER) (by rfl) m_COUNT_PASSED_OVER rfl))) (pss_one (ps_ret (pe_callF hr (pe_kget (pe_glob (v := .ref A_COUNT_PASSED_OVER) (by rfl) m_COUNT_PASSED_OVER rfl) (pv 0) (fun _ _ => rfl)) pass0 (pa_cons (pv 1) (pa_cons (pv 2) pa_nil))))) pss_nil)
      (pss_one (ps_ret pe_non)))))))), ?_⟩
  refine seq_to (fun σ H' => H = H' ∧ σ = [some (.str (S [if b = 0 then o else c])), some (.str (S l)), some (.int (p : Int)), some (optV n), some .non, some (.int ((n.getD 1 : Nat) : Int))]) (fun nx fin => ?_) ?_
  · cases n with
    | none => exact ⟨_, rfl, rfl, _, rfl, iteDT rfl (fin _ _ ⟨rfl, rfl⟩)⟩
    | some m => exact ⟨_, rfl, rfl, _, rfl, iteDF (fun z => by cases z) ⟨_, rfl, fin _ _ ⟨rfl, rfl⟩⟩⟩
  rintro σ H' ⟨rfl, rfl⟩
  obtain ⟨h1, h2, h3, h4⟩ := clo_ope hc
  have no : ∀ x : Nat, clo x = none → ope x = none → o ≠ x ∧ c ≠ x := fun x e1 e2 => ⟨(fun z => by rw [z, e1] at hc; cases hc), (fun z => by rw [z, e2] at h1; cases h1)⟩
  obtain ⟨s1, s2⟩ := no 115 rfl rfl
  obtain ⟨r1, r2⟩ := no 114 rfl rfl
  rcases Nat.le_one_iff_eq_zero_or_eq_one.mp hb with rfl | rfl
  · rw [if_pos rfl]
    refine ⟨_, rfl, rfl, _, rfl, iteDF (neS s1) ?_⟩
    refine ⟨_, rfl, rfl, _, rfl, iteDF (neS r1) ?_⟩
    refine ⟨_, rfl, A_OPENING, tupO, rfl, .inr TO.sq, rfl, rfl, _, rfl, ?_⟩
    rw [inO, hc]
    refine iteT ⟨_, rfl, _, rfl, _, rfl, _, rfl, l, p, o, c, n.getD 1, rfl, hc, hl, hp, hn1, fun u H1 S1 hu => ?_⟩
    exact ⟨_, u, rfl, hu, fun v H2 S2 hv => q v H2 (S1.trans S2) hv⟩
  · rw [if_neg (by decide)]
    refine ⟨_, rfl, rfl, _, rfl, iteDF (neS s2) ?_⟩
    refine ⟨_, rfl, rfl, _, rfl, iteDF (neS r2) ?_⟩
    refine ⟨_, rfl, A_OPENING, tupO, rfl, .inr TO.sq, rfl, rfl, _, rfl, ?_⟩
    rw [inO, h4]
    refine iteF ⟨_, rfl, A_CLOSING, tupC, rfl, .inr TC.sq, rfl, rfl, _, rfl, ?_⟩
    rw [inC, h1]
    refine iteT ⟨_, rfl, _, rfl, _, rfl, c, o, rfl, h1, _, rfl, l, p, o, c, n.getD 1, rfl, hc, hl, hp, hn1, fun u H1 S1 hu => ?_⟩
    exact ⟨_, u, rfl, hu, fun v H2 S2 hv => q v H2 (S1.trans S2) hv⟩
end

end My

set_option Elab.async false
set_option linter.all false
set_option maxRecDepth 100000
set_option maxHeartbeats 4000000
namespace My
open PySem L2




def sp_oend : Sp := fun vs H Q _ => ∃ (l : List Nat) (a o c : Nat), vs = [.str (S l), .int (a : Int), .str (S [o]), .str (S [c])] ∧ l.length ≤ 1000 ∧ l[a]? = some o ∧ o ≠ c ∧ Q (optV (endO o c l a)) H
def kdO (k : Nat) : Nat := [40, 91, 123].getD k 0
def kdC (k : Nat) : Nat := [41, 93, 125].getD k 0
theorem kd_clo {k : Nat} (h : k < 3) : clo (kdO k) = some (kdC k) := by
  have : k = 0 ∨ k = 1 ∨ k = 2 := by omega
  rcases this with rfl | rfl | rfl <;> rfl
theorem kd_at {k : Nat} (h : k < 3) : atI [40, 91, 123] (k : Int) = some (kdO k) ∧ atI [41, 93, 125] (k : Int) = some (kdC k) := by
  have : k = 0 ∨ k = 1 ∨ k = 2 := by omega
  rcases this with rfl | rfl | rfl <;> exact ⟨rfl, rfl⟩
def sp_due : Sp := fun vs H Q _ => ∃ (l : List Nat) (p k n b : Nat), vs = [.str (S l), .int (p : Int), .int (k : Int), .int (n : Int), .int (b : Int)] ∧ l.length ≤ 1000 ∧ p ≤ l.length ∧ k < 3 ∧ 1 ≤ n ∧ b ≤ 1 ∧ ∀ v H', Same H H' → StV H' (rndS (kdO k) (kdC k) l p n b) v → Q v H'
def sp_asked : Sp := fun vs H Q _ => ∃ (l : List Nat) (n : Int), vs = [.str (S l), .int n] ∧ l.length ≤ 1000 ∧ ∀ H', Same H H' → Q (.bl true) H'
def RQ (o c : Nat) (l : List Nat) (b : Nat) (H : Hp) (q t : Nat) : Prop := ∃ y, endO o c l q = some y ∧ H t = some (.tup [nV (q + 1 - b), nV (y + b), .str (S cSigns)])
def rdL (o c : Nat) (l : List Nat) (p a : Nat) : List Nat := (stk o c l p).filter fun q => decide (a ≤ q) && (endO o c l q).isSome
section
variable {P : Program} {w : World} {K : PySem.W.Frag} {mg : Str → Option Value} {base : Heap} {f : Addr} {fd : FuncData}
theorem sc__law_other_end : FnScope ["_law_text_here", "_law_at", "_law_opening", "_law_closing", "_law_depth", "_law_k"] ["_law_text_here", "_law_at", "_law_opening", "_law_closing"] (defScope s__law_other_end) := ⟨rfl, rfl, rfl, by decide +kernel, rfl, by decide +kernel, by decide +kernel⟩
theorem ok_oend (F : Fun K "_law_other_end" "_law_other_end" s__law_other_end f fd) (m_len : mg "len" = none) (m_range : mg "range" = none) : FnOk P w K mg base CX0 1 f fd ["_law_text_here", "_law_at", "_law_opening", "_law_closing"] sp_oend := by
  refine F.ok sc__law_other_end (fun vs H Q E h => ?_) (fun cdv A outer s H vs Q E hr h => ?_)
  · obtain ⟨l, a, o, c, rfl, _⟩ := h
    rfl
  obtain ⟨l, a, o, c, rfl, hl, ha, hoc, q⟩ := h
  have hal : a < l.length := (List.getElem?_eq_some_iff.mp ha).1
  refine ⟨_, (pss_cons (ps_set (i := 4) sc__law_other_end.nd rfl (Or.inl rfl) pe_int)
      (pss_cons (ps_for PassesOwn.never rfl (pi_range2 (by rfl) m_range (pa_cons (pv 1) (pa_cons (pe_callB call_lenS (by rfl) m_len PySem.boot_len (pa_cons (pv 0) pa_nil)) pa_nil))) (pg_name (i := 5) sc__law_other_end.nd rfl (Or.inl rfl)) (pss_cons (ps_if (pt_cmpR op_eq (pe_ix ix_S (pv 0) (pv 5) (fun _ _ => rfl)) (pv 2) (nomark _)) (pss_one (ps_set (i := 4) sc__law_other_end.nd rfl (Or.inl rfl) (pe_op op_add (pv 4) pe_int))) pss_nil)
      (pss_cons (ps_if (pt_cmpR op_eq (pe_ix ix_S (pv 0) (pv 5) (fun _ _ => rfl)) (pv 3) (nomark _)) (pss_one (ps_set (i := 4) sc__law_other_end.nd rfl (Or.inl rfl) (pe_op op_sub (pv 4) pe_int))) pss_nil)
      (pss_one (ps_if (pt_cmpR op_eq (pv 4) pe_int (nomark _)) (pss_one (ps_ret (pv 5))) pss_nil)))))
      (pss_one (ps_ret pe_non)))), ?_⟩
  refine ⟨_, rfl, _, rfl, l, rfl, small (by omega), _, _, rfl, ⟨by omega, by omega, by omega, by omega⟩, ?_⟩
  have en : ((l.length : Int) - (a : Int)).toNat = l.length - a := by omega
  have S0 : ∀ (d : Int) (x : Option V), St := fun d x => [some (.str (S l)), some (.int (a : Int)), some (.str (S [o])), some (.str (S [c])), some (.int d), x]
  refine for_range (fun i σ H' => H = H' ∧ ∃ (d : Int) (x : Option V), σ = [some (.str (S l)), some (.int (a : Int)), some (.str (S [o])), some (.str (S [c])), some (.int d), x] ∧ ((i = 0 ∧ d = 0) ∨ ∃ j m : Nat, i = j + 1 ∧ d = (m : Int) + 1 ∧ wk o c l a j = (m, none))) ⟨rfl, 0, none, rfl, .inl ⟨rfl, rfl⟩⟩ ?_ ?_
  · rintro i σ H' hi ⟨rfl, d, x, rfl, hd⟩
    rw [en] at hi
    rw [show (a : Int) + (i : Int) = ((a + i : Nat) : Int) by omega]
    have hz : a + i < l.length := by omega
    have hg : l[a + i]? = some (l[a + i]) := List.getElem?_eq_getElem hz
    have hat : atI l ((a + i : Nat) : Int) = some (l[a + i]) := atI_nat hg
    generalize l[a + i] = y at hg hat
    -- behind the first test
    refine gname_go (seq_to (fun σ H' => H = H' ∧ σ = [some (.str (S l)), some (.int (a : Int)), some (.str (S [o])), some (.str (S [c])), some (.int (if y = o then d + 1 else d)), some (.int ((a + i : Nat) : Int))]) (fun nx fin => ?_) ?_)
    · refine ⟨_, rfl, _, rfl, l, _, _, rfl, rfl, small (by omega), hat, _, rfl, rfl, _, rfl, ?_⟩
      by_cases e : y = o
      · rw [if_pos e] at fin
        subst e
        exact iteDT rfl ⟨_, rfl, _, _, rfl, rfl, fin _ _ ⟨rfl, rfl⟩⟩
      · rw [if_neg e] at fin
        exact iteDF (neS e) (fin _ _ ⟨rfl, rfl⟩)
    rintro σ H' ⟨rfl, rfl⟩
    refine seq_to (fun σ H' => H = H' ∧ σ = [some (.str (S l)), some (.int (a : Int)), some (.str (S [o])), some (.str (S [c])), some (.int (if y = c then d - 1 else if y = o then d + 1 else d)), some (.int ((a + i : Nat) : Int))]) (fun nx fin => ?_) ?_
    · refine ⟨_, rfl, _, rfl, l, _, _, rfl, rfl, small (by omega), hat, _, rfl, rfl, _, rfl, ?_⟩
      by_cases e : y = c
      · rw [if_pos e] at fin
        subst e
        rw [if_neg (show ¬ y = o from fun z => hoc z.symm)]
        exact iteDT rfl ⟨_, rfl, _, _, rfl, rfl, fin _ _ ⟨rfl, rfl⟩⟩
      · rw [if_neg e] at fin
        exact iteDF (neS e) (fin _ _ ⟨rfl, rfl⟩)
    rintro σ H' ⟨rfl, rfl⟩
    refine ⟨_, rfl, rfl, _, rfl, ?_⟩
    rcases hd with ⟨rfl, rfl⟩ | ⟨j, m, rfl, rfl, hw⟩
    · have ey : y = o := by
        rw [Nat.add_zero, ha] at hg
        exact (Option.some.inj hg).symm
      subst ey
      rw [if_neg hoc, if_pos rfl]
      refine iteDF (fun z => by have := V.int.inj z; omega) ⟨rfl, _, _, rfl, .inr ⟨0, 0, rfl, rfl, rfl⟩⟩
    · have hs : wk o c l a (j + 1) = stpW o c (some y) (a + 1 + j) (m, none) := by
        show stpW o c l[a + 1 + j]? (a + 1 + j) (wk o c l a j) = _
        rw [hw, show a + 1 + j = a + (j + 1) by omega, hg]
      rw [stpW_none] at hs
      by_cases e1 : y = c
      · subst e1
        rw [if_pos rfl]
        rw [if_pos rfl] at hs
        by_cases e2 : m = 0
        · subst e2
          rw [if_pos rfl] at hs
          refine iteDT (by show V.int (((0 : Nat) : Int) + 1 - 1) = V.int 0; rfl) ⟨_, rfl, ?_⟩
          have he : endO o y l a = some (a + (j + 1)) := by
            unfold endO
            have := wk_stay (o := o) (c := y) (l := l) (p := a) (d := j + 1) (y := a + 1 + j) (by rw [hs]) (l.length - (a + 1) - (j + 1))
            rw [show j + 1 + (l.length - (a + 1) - (j + 1)) = l.length - (a + 1) by omega] at this
            rw [this, show a + 1 + j = a + (j + 1) by omega]
          rw [he] at q
          exact q
        · rw [if_neg e2] at hs
          refine iteDF (fun z => by have := V.int.inj z; omega) ⟨rfl, _, _, rfl, .inr ⟨j + 1, m - 1, rfl, by omega, hs⟩⟩
      · rw [if_neg e1]
        rw [if_neg (fun z => e1 (Option.some.inj z))] at hs
        by_cases e2 : y = o
        · subst e2
          rw [if_pos rfl]
          rw [if_pos rfl] at hs
          exact iteDF (fun z => by have := V.int.inj z; omega) ⟨rfl, _, _, rfl, .inr ⟨j + 1, m + 1, rfl, by omega, hs⟩⟩
        · rw [if_neg e2]
          rw [if_neg (fun z => e2 (Option.some.inj z))] at hs
          exact iteDF (fun z => by have := V.int.inj z; omega) ⟨rfl, _, _, rfl, .inr ⟨j + 1, m, rfl, rfl, hs⟩⟩
  · rintro σ H' ⟨rfl, d, x, rfl, hd⟩
    rw [en] at hd
    rcases hd with ⟨z, _⟩ | ⟨j, m, hj, _, hw⟩
    · omega
    · have he : endO o c l a = none := by
        unfold endO
        rw [show l.length - (a + 1) = j by omega, hw]
      rw [he] at q
      exact q
theorem sc__law_due : FnScope ["_law_text_here", "_law_place", "_law_kind", "_law_count", "_law_both", "_law_opening", "_law_closing", "_law_rounds", "_law_at", "_law_end"] ["_law_text_here", "_law_place", "_law_kind", "_law_count", "_law_both"] (defScope s__law_due) := ⟨rfl, rfl, rfl, by decide +kernel, rfl, by decide +kernel, by decide +kernel⟩
theorem ok_due (F : Fun K "_law_due" "_law_due" s__law_due f fd) (O__law_other_end : Own P w K mg base CX0 1 "_law_other_end" ["_law_text_here", "_law_at", "_law_opening", "_law_closing"] sp_oend) (m_len : mg "len" = none) (m_range : mg "range" = none) : FnOk P w K mg base CX0 2 f fd ["_law_text_here", "_law_place", "_law_kind", "_law_count", "_law_both"] sp_due := by
  refine F.ok sc__law_due (fun vs H Q E h => ?_) (fun cdv A outer s H vs Q E hr h => ?_)
  · obtain ⟨l, p, k, n, b, rfl, _⟩ := h
    rfl
  obtain ⟨l, p, k, n, b, rfl, hl, hp, hk, hn, hb, q⟩ := h
  have hc := kd_clo hk
  obtain ⟨a1, a2⟩ := kd_at hk
  generalize kdO k = o at hc a1 q
  generalize kdC k = c at hc a2 q
  obtain ⟨_, hoc, _, _⟩ := clo_ope hc
  have hsl := stk_len o c l p
  have hdec := (stk_dec o c l p).1
  refine ⟨_, (pss_cons (ps_set (i := 5) sc__law_due.nd rfl (Or.inl rfl) (pe_ix ix_S pe_str (pv 2) (fun _ _ => rfl)))
      (pss_cons (ps_set (i := 6) sc__law_due.nd rfl (Or.inl rfl) (pe_ix ix_S pe_str (pv 2) (fun _ _ => rfl)))
      (pss_cons (ps_set (i := 7) sc__law_due.nd rfl (Or.inl rfl) (pe_lst pa_nil))
      (pss_cons (ps_for PassesOwn.never rfl (pi_range3 (by rfl) m_range (pa_cons (pe_op op_sub (pv 1) pe_int) (pa_cons (pe_un un_neg pe_int) (pa_cons (pe_un un_neg pe_int) pa_nil)))) (pg_name (i := 8) sc__law_due.nd rfl (Or.inl rfl)) (pss_one (ps_if (pt_cmpR op_eq (pe_ix ix_S (pv 0) (pv 8) (fun _ _ => rfl)) (pv 5) (nomark _)) (pss_cons (ps_set (i := 9) sc__law_due.nd rfl (Or.inl rfl) (pe_own O__law_other_end hr (by rfl) pass0 (pa_cons (pv 0) (pa_cons (pv 8) (pa_cons (pv 5) (pa_cons (pv 6) pa_nil))))))
      (pss_one (ps_if (PW.pt (pw_and (pt_cmpR op_notN (pv 9) pe_non (nomark _)) (pw_and1 (pt_cmpR op_ge (pv 9) (pv 1) (nomark _))))) (pss_one (ps_expr (pe_bm PySem.F.plainAttrs_list PySem.F.slot_list_append PySem.F.type_list_append mt_append (pv 7) (pa_cons (pe_tup (pa_cons (pe_op op_sub (pe_op op_add (pv 8) pe_int) (pv 4)) (pa_cons (pe_op op_add (pv 9) (pv 4)) (pa_cons pe_str pa_nil)))) pa_nil)))) pss_nil))) pss_nil)))
      (pss_cons (ps_if (pt_cmpR op_gt (pv 3) (pe_callB call_len_seq (by rfl) m_len PySem.boot_len (pa_cons (pv 7) pa_nil)) (nomark _)) (pss_one (ps_ret pe_non)) pss_nil)
      (pss_one (ps_ret (pe_ix ix_list (pv 7) (pe_op op_sub (pv 3) pe_int) (fun _ _ => rfl))))))))), ?_⟩
  refine ⟨_, rfl, [40, 91, 123], _, _, rfl, rfl, small (by decide), a1, ?_⟩
  refine ⟨_, rfl, [41, 93, 125], _, _, rfl, rfl, small (by decide), a2, ?_⟩
  refine ⟨Nat.zero_le _, fun D hD => ?_⟩
  refine ⟨_, rfl, _, _, rfl, rfl, _, rfl, _, rfl, _, _, _, _, rfl, Stp.down (by omega) (by omega) (by decide) (by decide), ?_⟩
  have en : ((p : Int) - 1 - -1).toNat = p := by omega
  refine for_step (fun i σ H' => (∃ x y : Option V, σ = [some (.str (S l)), some (.int (p : Int)), some (.int (k : Int)), some (.int (n : Int)), some (.int (b : Int)), some (.str (S [o])), some (.str (S [c])), some (.ref D), x, y]) ∧ Same H H' ∧ ∃ ts : List Addr, H' D = some (.lst (ts.map V.ref)) ∧ Paired (RQ o c l b H') (rdL o c l p (p - i)) ts) ⟨⟨none, none, rfl⟩, same_new hD _, [], upd_same, ?_⟩ ?_ ?_
  · have : rdL o c l p (p - 0) = [] := by
      unfold rdL
      rw [List.filter_eq_nil_iff]
      intro q hq
      have := (stk_dec o c l p).2 q hq
      simp
      omega
    rw [this]
    exact .nil
  · rintro i σ H' hi ⟨⟨x, y, rfl⟩, SS, ts, hD', hP⟩
    have hi' : i < p := by
      have : i < ((p : Int) - 1 - -1).toNat := hi
      omega
    rw [show (p : Int) - 1 + (i : Int) * -1 = ((p - 1 - i : Nat) : Int) by omega]
    have ea : p - (i + 1) = p - 1 - i := by omega
    have eb : p - i = p - 1 - i + 1 := by omega
    generalize p - 1 - i = a at ea eb
    rw [eb] at hP
    have hap : a < p := by omega
    have hstep : rdL o c l p a = rdL o c l p (a + 1) ++ (if a ∈ stk o c l p ∧ (endO o c l a).isSome = true then [a] else []) := dec_flt hdec
    have hz : a < l.length := by omega
    have hg : l[a]? = some (l[a]) := List.getElem?_eq_getElem hz
    have hat : atI l (a : Int) = some (l[a]) := atI_nat hg
    generalize l[a] = z at hg hat
    have stay : ¬ (a ∈ stk o c l p ∧ (endO o c l a).isSome = true) → Paired (RQ o c l b H') (rdL o c l p (p - (i + 1))) ts := fun h => by
      rw [ea, hstep, if_neg h, List.append_nil]
      exact hP
    have lts : ts.length ≤ 1000 := by
      have h1 := Paired.length hP
      have h2 : (rdL o c l p (a + 1)).length ≤ (stk o c l p).length := List.length_filter_le _ _
      omega
    refine ⟨_, rfl, _, rfl, l, _, _, rfl, rfl, small (by omega), hat, _, rfl, rfl, _, rfl, ?_⟩
    by_cases e1 : z = o
    · subst e1
      have mem := mem_stk hoc hp hap hg
      refine iteDT rfl ⟨_, rfl, _, rfl, _, rfl, _, rfl, l, a, z, c, rfl, hl, hg, hoc, ?_⟩
      cases ee : endO z c l a with
      | none => exact ⟨_, rfl, rfl, _, rfl, iteNS rfl (iteF ⟨⟨_, _, rfl⟩, SS, ts, hD', stay (by rw [ee]; exact fun h => by cases h.2)⟩)⟩
      | some y =>
        refine ⟨_, rfl, rfl, _, rfl, iteNF (fun z => by cases z) ⟨_, rfl, _, rfl, (y : Int), _, rfl, rfl, _, rfl, ?_⟩⟩
        by_cases e2 : p ≤ y
        · refine iteDT (by omega) ?_
          have hin : a ∈ stk z c l p ∧ (endO z c l a).isSome = true := ⟨mem.mpr fun y' hy' => by rw [ee] at hy'; cases hy'; exact e2, by rw [ee]; rfl⟩
          refine ⟨_, rfl, .inl ⟨rfl, _, SqL.of hD'⟩, _, rfl, _, _, rfl, rfl, _, rfl, _, _, rfl, rfl, _, rfl, _, rfl, (y : Int), _, rfl, rfl, (by show 3 ≤ sizeLine; decide), fun t ht => ?_⟩
          have S2 := same_new ht (.tup [.int ((a : Int) + 1 - (b : Int)), .int ((y : Int) + (b : Int)), .str (S cSigns)])
          have hD2 := S2 _ _ hD'
          have htup : upd H' t (.tup [.int ((a : Int) + 1 - (b : Int)), .int ((y : Int) + (b : Int)), .str (S cSigns)]) t = some (.tup [nV (a + 1 - b), nV (y + b), .str (S cSigns)]) := by
            rw [upd_same]
            unfold nV
            rw [show ((a + 1 - b : Nat) : Int) = (a : Int) + 1 - (b : Int) by omega, show ((y + b : Nat) : Int) = (y : Int) + (b : Int) by omega]
          refine ⟨D, _, _, rfl, rfl, hD2, Nat.lt_of_lt_of_le (show _ < 1000000 by rw [List.length_map]; omega) (small (Nat.le_refl _)), ⟨_, _, rfl⟩, same_upd (SS.trans S2) hD, ts ++ [t], ?_, ?_⟩
          · rw [upd_same, List.map_append]
            rfl
          · rw [ea, hstep, if_pos hin]
            refine Paired.snoc (L2.Paired.imp' (fun q u ⟨y', h1, h2⟩ => ⟨y', h1, upd_tup hD2 (S2 _ _ h2)⟩) hP) ⟨y, ee, upd_tup hD2 htup⟩
        · refine iteDF (by omega) ⟨⟨_, _, rfl⟩, SS, ts, hD', stay fun h => e2 (mem.mp h.1 y ee)⟩
    · refine iteDF (neS e1) ⟨⟨_, _, rfl⟩, SS, ts, hD', stay fun h => ?_⟩
      obtain ⟨m, hm⟩ := List.mem_iff_getElem?.mp h.1
      have := ((stk_iff hoc p m a).mp hm).2.1
      rw [hg] at this
      exact e1 (Option.some.inj this)
  · rintro σ H' ⟨⟨x, y, rfl⟩, SS, ts, hD', hP⟩
    rw [en, Nat.sub_self] at hP
    have eL : ∀ j : Nat, (rdL o c l p 0)[j]? = ((stk o c l p)[j]?).bind fun q => if (endO o c l q).isSome = true then some q else none := fun j => by
      have : rdL o c l p 0 = (stk o c l p).filter fun q => (endO o c l q).isSome := by
        unfold rdL
        congr 1
        all_goals (funext q; rw [decide_eq_true (Nat.zero_le _), Bool.true_and])
      rw [this]
      exact pre_flt (fun m x y h1 h2 h3 => endO_down hoc hp h1 h2 h3) j
    have elen := Paired.length hP
    have hlen : ((ts.map V.ref).length : Int) = (ts.length : Int) := by rw [List.length_map]
    refine ⟨_, rfl, _, rfl, D, _, rfl, .inl (SqL.of hD'), _, _, rfl, rfl, _, rfl, ?_⟩
    rw [hlen]
    unfold rndS rnd at q
    have e1 := eL (n - 1)
    by_cases z : n ≤ ts.length
    · obtain ⟨u, hu⟩ : ∃ u, (rdL o c l p 0)[n - 1]? = some u := ⟨_, List.getElem?_eq_getElem (by omega)⟩
      obtain ⟨t, ht1, y', hy1, hy2⟩ := paired_get hP hu
      rw [hu] at e1
      cases es : (stk o c l p)[n - 1]? with
      | none => rw [es] at e1; cases e1
      | some u' =>
        rw [es] at e1 q
        have e2 : some u = if (endO o c l u').isSome = true then some u' else none := e1
        have e3 : u = u' := by
          split at e2
          · exact Option.some.inj e2
          · cases e2
        subst e3
        have hat : atI (ts.map V.ref) ((n : Int) - 1) = some (.ref t) := by
          rw [show (n : Int) - 1 = ((n - 1 : Nat) : Int) by omega]
          exact atI_nat (by rw [List.getElem?_map, ht1]; rfl)
        refine iteDF (by omega) ⟨_, rfl, _, rfl, _, _, rfl, rfl, D, _, _, _, rfl, rfl, SqL.of hD', hat, q _ H' SS ?_⟩
        have : ((some u).bind fun q => (endO o c l q).map fun y => (q, y)) = some (u, y') := by
          show (endO o c l u).map _ = _
          rw [hy1]
          first | done | rfl
        rw [this]
        exact ⟨t, rfl, hy2⟩
    · rw [List.getElem?_eq_none (by omega)] at e1
      refine iteDT (by omega) (q _ H' SS ?_)
      have : ((stk o c l p)[n - 1]?).bind (fun q => (endO o c l q).map fun y => (q, y)) = none := by
        cases es : (stk o c l p)[n - 1]? with
        | none => rfl
        | some u =>
          rw [es] at e1
          have e2 : none = if (endO o c l u).isSome = true then some u else none := e1
          show (endO o c l u).map _ = none
          cases ee : endO o c l u with
          | none => rfl
          | some y' => rw [ee] at e2; cases e2
      rw [this]
      rfl
end
end My

set_option Elab.async false
set_option linter.all false
set_option maxRecDepth 100000
set_option maxHeartbeats 4000000
namespace My
open PySem L2




theorem key_at {k b : Nat} (hk : k < 3) (hb : b ≤ 1) : ∃ m : List Nat, atI [V.str (S [40, 91, 123]), V.str (S [41, 93, 125])] (b : Int) = some (.str (S m)) ∧ m.length ≤ 1000 ∧ atI m (k : Int) = some (if b = 0 then kdO k else kdC k) := by
  obtain ⟨a1, a2⟩ := kd_at hk
  rcases Nat.le_one_iff_eq_zero_or_eq_one.mp hb with rfl | rfl
  · exact ⟨[40, 91, 123], rfl, by decide, a1⟩
  · exact ⟨[41, 93, 125], rfl, by decide, a2⟩
section
variable {P : Program} {w : World} {K : PySem.W.Frag} {mg : Str → Option Value} {base : Heap} {f : Addr} {fd : FuncData}
theorem sc__law_asked : FnScope ["_law_text_here", "_law_cell", "_law_mixed", "_law_place", "_law_kind", "_law_both", "_law_turn", "_law_key", "_law_many"] ["_law_text_here", "_law_cell"] (defScope s__law_asked) := ⟨rfl, rfl, rfl, by decide +kernel, rfl, by decide +kernel, by decide +kernel⟩
theorem ok_asked (F : Fun K "_law_asked" "_law_asked" s__law_asked f fd) (O__law_due : Own P w K mg base CX0 2 "_law_due" ["_law_text_here", "_law_place", "_law_kind", "_law_count", "_law_both"] sp_due) (O__law_same : Own P w K mg base CX0 2 "_law_same" ["_law_found", "_law_due_here"] sp_same3) (O_stretch2 : OwnD P w K mg base CX0 4 "stretch" ["key", "text", "place", "count", "seen"] sp_stretch [.non, .non]) (O_stretch1 : OwnD P w K mg base CX0 4 "stretch" ["key", "text", "place", "count", "seen"] sp_stretch [.non]) (m_len : mg "len" = none) : FnOk P w K mg base CX0 5 f fd ["_law_text_here", "_law_cell"] sp_asked := by
  refine F.ok sc__law_asked (fun vs H Q E h => ?_) (fun cdv A outer s H vs Q E hr h => ?_)
  · obtain ⟨l, n, rfl, _⟩ := h
    rfl
  obtain ⟨l, n, rfl, hl, q⟩ := h
  have hpos : (0 : Int) < (l.length : Int) + 1 := by omega
  refine ⟨_, (pss_cons (ps_set (i := 2) sc__law_asked.nd rfl (Or.inl rfl) (pe_op op_mod (pe_op op_mul (pv 1) pe_int) pe_int))
      (pss_cons (ps_set (i := 3) sc__law_asked.nd rfl (Or.inl rfl) (pe_op op_mod (pv 2) (pe_op op_add (pe_callB call_lenS (by rfl) m_len PySem.boot_len (pa_cons (pv 0) pa_nil)) pe_int)))
      (pss_cons (ps_set (i := 4) sc__law_asked.nd rfl (Or.inl rfl) (pe_op op_mod (pe_op op_fdiv (pv 2) pe_int) pe_int))
      (pss_cons (ps_set (i := 5) sc__law_asked.nd rfl (Or.inl rfl) (pe_op op_mod (pe_op op_fdiv (pv 2) pe_int) pe_int))
      (pss_cons (ps_set (i := 6) sc__law_asked.nd rfl (Or.inl rfl) (pe_op op_mod (pe_op op_fdiv (pv 2) pe_int) pe_int))
      (pss_cons (ps_set (i := 7) sc__law_asked.nd rfl (Or.inl rfl) (pe_ix ix_S (pe_ix ix_list (pe_lst (pa_cons pe_str (pa_cons pe_str pa_nil))) (pv 5) (fun _ _ => rfl)) (pv 4) (fun _ _ => rfl)))
      (pss_cons (ps_if (pt_cmpR op_eq (pv 6) pe_int (nomark _)) (pss_one (ps_ret (pe_own O__law_same hr (by rfl) pass0 (pa_cons (pe_ownD O_stretch2 hr (by rfl) pass0 (pa_cons (pv 7) (pa_cons (pv 0) (pa_cons (pv 3) pa_nil)))) (pa_cons (pe_own O__law_due hr (by rfl) pass0 (pa_cons (pv 0) (pa_cons (pv 3) (pa_cons (pv 4) (pa_cons pe_int (pa_cons (pv 5) pa_nil)))))) pa_nil))))) pss_nil)
      (pss_cons (ps_if (pt_cmpR op_eq (pv 6) pe_int (nomark _)) (pss_one (ps_ret (pe_own O__law_same hr (by rfl) pass0 (pa_cons (pe_ownD O_stretch1 hr (by rfl) pass0 (pa_cons (pv 7) (pa_cons (pv 0) (pa_cons (pv 3) (pa_cons pe_non pa_nil))))) (pa_cons (pe_own O__law_due hr (by rfl) pass0 (pa_cons (pv 0) (pa_cons (pv 3) (pa_cons (pv 4) (pa_cons pe_int (pa_cons (pv 5) pa_nil)))))) pa_nil))))) pss_nil)
      (pss_cons (ps_set (i := 8) sc__law_asked.nd rfl (Or.inl rfl) (pe_op op_add pe_int (pe_op op_mod (pe_op op_fdiv (pv 2) pe_int) pe_int)))
      (pss_cons (ps_if (PW.pt (pw_and (pt_cmpR op_eq (pv 6) pe_int (nomark _)) (pw_and1 (pt_cmpR op_eq (pe_op op_mod (pe_op op_fdiv (pv 2) pe_int) pe_int) pe_int (nomark _))))) (pss_one (ps_set (i := 8) sc__law_asked.nd rfl (Or.inl rfl) (pe_op op_add pe_int (pe_op op_mod (pe_op op_fdiv (pv 2) pe_int) pe_int)))) pss_nil)
      (pss_one (ps_ret (pe_own O__law_same hr (by rfl) pass0 (pa_cons (pe_ownD O_stretch1 hr (by rfl) pass0 (pa_cons (pv 7) (pa_cons (pv 0) (pa_cons (pv 3) (pa_cons (pv 8) pa_nil))))) (pa_cons (pe_own O__law_due hr (by rfl) pass0 (pa_cons (pv 0) (pa_cons (pv 3) (pa_cons (pv 4) (pa_cons (pv 8) (pa_cons (pv 5) pa_nil)))))) pa_nil))))))))))))))), ?_⟩
  refine ⟨_, rfl, _, _, rfl, rfl, .inr ⟨by decide, by decide⟩, _, _, rfl, rfl, (by show (0 : Int) < 2147483629; decide), ?_⟩
  show gName _ (V.int (n * 69621 % 2147483629)) _ _ _
  generalize n * 69621 % 2147483629 = mx
  have nat : ∀ x : Int, 0 ≤ x → ∃ m : Nat, x = (m : Int) := fun x h => ⟨_, (Int.toNat_of_nonneg h).symm⟩
  obtain ⟨p, hp⟩ := nat (mx % ((l.length : Int) + 1)) (Int.emod_nonneg _ (Int.ne_of_gt hpos))
  have p1 : mx % ((l.length : Int) + 1) < (l.length : Int) + 1 := Int.emod_lt_of_pos _ hpos
  obtain ⟨k, hk⟩ := nat (mx / 601 % 3) (Int.emod_nonneg _ (by decide))
  have k1 : mx / 601 % 3 < 3 := Int.emod_lt_of_pos _ (by decide)
  obtain ⟨b, hb⟩ := nat (mx / 2404 % 2) (Int.emod_nonneg _ (by decide))
  have b1 : mx / 2404 % 2 < 2 := Int.emod_lt_of_pos _ (by decide)
  refine ⟨_, rfl, _, rfl, l, rfl, small (by omega), _, _, rfl, rfl, _, _, rfl, rfl, hpos, ?_⟩
  show gName _ (V.int (mx % ((l.length : Int) + 1))) _ _ _
  rw [hp]
  rw [hp] at p1
  refine ⟨_, rfl, _, _, rfl, rfl, ⟨by decide, by decide⟩, _, _, rfl, rfl, (by show (0 : Int) < 3; decide), ?_⟩
  show gName _ (V.int (mx / 601 % 3)) _ _ _
  rw [hk]
  rw [hk] at k1
  refine ⟨_, rfl, _, _, rfl, rfl, ⟨by decide, by decide⟩, _, _, rfl, rfl, (by show (0 : Int) < 2; decide), ?_⟩
  show gName _ (V.int (mx / 2404 % 2)) _ _ _
  rw [hb]
  rw [hb] at b1
  have hp' : p ≤ l.length := by omega
  have hk' : k < 3 := by omega
  have hb' : b ≤ 1 := by omega
  have hc := kd_clo hk'
  obtain ⟨m, m1, m2, m3⟩ := key_at hk' hb'
  refine ⟨_, rfl, _, _, rfl, rfl, ⟨by decide, by decide⟩, _, _, rfl, rfl, (by show (0 : Int) < 4; decide), ?_⟩
  show gName _ (V.int (mx / 4808 % 4)) _ _ _
  generalize mx / 4808 % 4 = tn
  refine ⟨(by show 2 ≤ sizeLine; decide), fun d hd => ⟨_, rfl, d, _, _, _, rfl, rfl, SqL.of upd_same, m1, _, rfl, m, _, _, rfl, rfl, small (by omega), m3, ?_⟩⟩
  have S1 : Same H (upd H d (.lst [V.str "([{", V.str ")]}"])) := same_new hd _
  refine ⟨_, rfl, rfl, _, rfl, ?_⟩
  refine ite2 (fun _ => ?_) (fun _ => ?_)
  · refine ⟨_, rfl, _, rfl, _, rfl, _, _, l, p, b, none, rfl, hc, hb', by omega, hp', (fun m z => by cases z), fun v1 H2 S2 hv1 => ?_⟩
    refine ⟨_, rfl, _, rfl, _, rfl, _, rfl, l, p, k, 1, b, rfl, hl, hp', hk', Nat.le_refl _, hb', fun v2 H3 S3 hv2 => ?_⟩
    exact ⟨_, v1, v2, rfl, hv1.same S3, hv2, q _ (S1.trans (S2.trans S3))⟩
  refine ⟨_, rfl, rfl, _, rfl, ?_⟩
  refine ite2 (fun _ => ?_) (fun _ => ?_)
  · refine ⟨_, rfl, _, rfl, _, rfl, _, _, l, p, b, none, rfl, hc, hb', by omega, hp', (fun m z => by cases z), fun v1 H2 S2 hv1 => ?_⟩
    refine ⟨_, rfl, _, rfl, _, rfl, _, rfl, l, p, k, 1, b, rfl, hl, hp', hk', Nat.le_refl _, hb', fun v2 H3 S3 hv2 => ?_⟩
    exact ⟨_, v1, v2, rfl, hv1.same S3, hv2, q _ (S1.trans (S2.trans S3))⟩
  have g1 : 0 ≤ mx / 19232 % 4 := Int.emod_nonneg _ (by decide)
  have g2 : 0 ≤ mx / 19232 % 999 := Int.emod_nonneg _ (by decide)
  obtain ⟨n1, hn1⟩ := nat (1 + mx / 19232 % 4) (by omega)
  obtain ⟨n2, hn2⟩ := nat (1 + mx / 19232 % 999) (by omega)
  refine ⟨_, rfl, _, _, rfl, rfl, ⟨by decide, by decide⟩, _, _, rfl, rfl, (by show (0 : Int) < 4; decide), _, _, rfl, rfl, ?_⟩
  show gName _ (V.int (1 + mx / 19232 % 4)) _ _ _
  rw [hn1]
  refine gname_go (seq_at (seq_to (fun σ H' => Same H H' ∧ ∃ j : Nat, 1 ≤ j ∧ σ = [some (.str (S l)), some (.int n), some (.int mx), some (.int (p : Int)), some (.int (k : Int)), some (.int (b : Int)), some (.int tn), some (.str (S [if b = 0 then kdO k else kdC k])), some (.int (j : Int))]) (fun nx fin => ?_) ?_))
  · have out1 := fin _ _ ⟨S1, n1, by omega, rfl⟩
    refine ⟨_, rfl, rfl, _, rfl, ?_⟩
    refine ite2 (fun _ => ?_) (fun _ => iteF out1)
    refine ⟨_, rfl, _, _, rfl, rfl, ⟨by decide, by decide⟩, _, _, rfl, rfl, (by show (0 : Int) < 7; decide), rfl, _, rfl, ?_⟩
    refine ite2 (fun _ => ?_) (fun _ => out1)
    refine ⟨_, rfl, _, _, rfl, rfl, ⟨by decide, by decide⟩, _, _, rfl, rfl, (by show (0 : Int) < 999; decide), _, _, rfl, rfl, ?_⟩
    show gName _ (V.int (1 + mx / 19232 % 999)) _ _ _
    rw [hn2]
    exact fin _ _ ⟨S1, n2, by omega, rfl⟩
  clear S1
  rintro σ H1 ⟨S1, j, hj, rfl⟩
  refine ⟨_, rfl, _, rfl, _, rfl, _, rfl, _, _, l, p, b, some j, rfl, hc, hb', by omega, hp', (fun m z => by cases z; exact hj), fun v1 H2 S2 hv1 => ?_⟩
  refine ⟨_, rfl, _, rfl, _, rfl, _, rfl, _, rfl, l, p, k, j, b, rfl, hl, hp', hk', hj, hb', fun v2 H3 S3 hv2 => ?_⟩
  exact ⟨_, v1, v2, rfl, hv1.same S3, hv2, q _ (S1.trans (S2.trans S3))⟩
theorem sc_law : FnScope ["_law_script", "_law_text_here", "_law_cells", "_law_cell"] ["_law_script"] (defScope s_law) := ⟨rfl, rfl, rfl, by decide +kernel, rfl, by decide +kernel, by decide +kernel⟩
theorem ok_law (F : Fun K "law" "law" s_law f fd) (O__law_text : Own P w K mg base CX0 2 "_law_text" ["_law_script"] (sp_text3 K)) (O__law_cell_at : Own P w K mg base CX0 1 "_law_cell_at" ["_law_script", "_law_k"] (sp_cell K)) (O__law_asked : Own P w K mg base CX0 5 "_law_asked" ["_law_text_here", "_law_cell"] sp_asked) (m_len : mg "len" = none) : FnOk P w K mg base CX0 6 f fd ["_law_script"] (sp_law K) := by
  refine F.ok sc_law (fun vs H Q E h => ?_) (fun cdv A outer s H vs Q E hr h => ?_)
  · obtain ⟨a, ns, rfl, _⟩ := h
    rfl
  obtain ⟨a, ns, rfl, hS, h63, q⟩ := h
  refine ⟨_, (pss_cons (ps_set (i := 1) sc_law.nd rfl (Or.inl rfl) (pe_own O__law_text hr (by rfl) pass0 (pa_cons (pv 0) pa_nil)))
      (pss_cons (ps_if (pt_not (pt_val (pe_own O__law_asked hr (by rfl) pass0 (pa_cons (pv 1) (pa_cons (pe_own O__law_cell_at hr (by rfl) pass0 (pa_cons (pv 0) (pa_cons pe_int pa_nil))) pa_nil))))) (pss_one (ps_ret pe_bl)) pss_nil)
      (pss_cons (ps_set (i := 2) sc_law.nd rfl (Or.inl rfl) (pe_slice sl_list (pv 0) (po_some pe_int) (po_some pe_int)))
      (pss_cons (ps_if (pt_cmpR op_gt (pe_callB call_lenS (by rfl) m_len PySem.boot_len (pa_cons (pv 1) pa_nil)) pe_int (nomark _)) (pss_one (ps_set (i := 2) sc_law.nd rfl (Or.inl rfl) (pe_slice sl_list (pv 0) (po_some pe_int) (po_some pe_int)))) pss_nil)
      (pss_cons (ps_for PassesOwn.never rfl (pi_list (pv 2)) (pg_name (i := 3) sc_law.nd rfl (Or.inl rfl)) (pss_one (ps_if (pt_not (pt_val (pe_own O__law_asked hr (by rfl) pass0 (pa_cons (pv 1) (pa_cons (pv 3) pa_nil))))) (pss_one (ps_ret pe_bl)) pss_nil)))
      (pss_one (ps_ret pe_bl))))))), ?_⟩
  refine ⟨_, rfl, a, ns, rfl, hS, h63, fun l H1 S1 hl hc => ?_⟩
  refine ⟨_, rfl, _, rfl, a, ns, 1, rfl, S1.seq hS, l, _, rfl, by omega, fun H2 S2 => ⟨_, rfl, iteF ?_⟩⟩
  have SS := S1.trans S2
  refine ⟨_, rfl, _, rfl, _, rfl, a, _, rfl, SS.seq hS, fun d hd => ?_⟩
  have S3 := SS.trans (same_new hd (.lst (cutV (ns.map V.int) (some 2) (some 42))))
  refine gname_go (seq_at (seq_to (fun σ H' => ∃ (c : Addr) (cs : List Int) (x : Option V), σ = [some (.ref a), some (.str (S l)), some (.ref c), x] ∧ Same H H' ∧ SqL K H' c (cs.map V.int)) (fun nx fin => ?_) ?_))
  · refine ⟨_, rfl, l, rfl, small (by omega), _, _, rfl, rfl, _, rfl, ?_⟩
    refine ite2 (fun c => ?_) (fun c => ?_)
    · refine ⟨_, rfl, _, rfl, _, rfl, a, _, rfl, S3.seq hS, fun d2 hd2 => ?_⟩
      exact fin _ _ ⟨d2, cutL ns (some 2) (some 5), _, rfl, S3.trans (same_new hd2 _), sq_cut⟩
    · exact fin _ _ ⟨d, cutL ns (some 2) (some 42), _, rfl, S3, sq_cut⟩
  rintro σ H4 ⟨c, cs, x, rfl, S4, hc4⟩
  refine ⟨_, rfl, c, rfl, ⟨_, hc4⟩, ?_⟩
  refine for_list (xs := cs.map V.int) (fun i σ H' => Same H4 H' ∧ ∃ x : Option V, σ = [some (.ref a), some (.str (S l)), some (.ref c), x]) ⟨Same.refl _, _, rfl⟩ (fun i σ H' _ h => h.1.seq hc4) ?_ ?_
  · rintro i v σ H' hv ⟨S5, x, rfl⟩
    obtain ⟨n, hn, rfl⟩ := List.mem_map.mp (List.mem_of_getElem? hv)
    exact ⟨_, rfl, _, rfl, l, n, rfl, by omega, fun H6 S6 => ⟨_, rfl, iteF ⟨S5.trans S6, _, rfl⟩⟩⟩
  · rintro σ H' ⟨S5, x, rfl⟩
    exact q H'
end
end My

set_option Elab.async false
set_option linter.all false
set_option maxRecDepth 100000
set_option maxHeartbeats 4000000
namespace My
open PySem L2


theorem len0 {α : Type} {us : List α} (h : us.length = 0) : us = [] := List.length_eq_zero_iff.mp h
theorem len1 {α : Type} {us : List α} (h : us.length = 1) : ∃ a, us = [a] := List.length_eq_one_iff.mp h
theorem len2 {α : Type} {us : List α} (h : us.length = 2) : ∃ a b, us = [a, b] := by
  cases us with
  | nil => cases h
  | cons a r => obtain ⟨b, rfl⟩ := len1 (Nat.succ.inj h); exact ⟨a, b, rfl⟩
theorem len3 {α : Type} {us : List α} (h : us.length = 3) : ∃ a b c, us = [a, b, c] := by
  cases us with
  | nil => cases h
  | cons a r => obtain ⟨b, c, rfl⟩ := len2 (Nat.succ.inj h); exact ⟨a, b, c, rfl⟩
theorem len4 {α : Type} {us : List α} (h : us.length = 4) : ∃ a b c d, us = [a, b, c, d] := by
  cases us with
  | nil => cases h
  | cons a r => obtain ⟨b, c, d, rfl⟩ := len3 (Nat.succ.inj h); exact ⟨a, b, c, d, rfl⟩
theorem len5 {α : Type} {us : List α} (h : us.length = 5) : ∃ a b c d e, us = [a, b, c, d, e] := by
  cases us with
  | nil => cases h
  | cons a r => obtain ⟨b, c, d, e, rfl⟩ := len4 (Nat.succ.inj h); exact ⟨a, b, c, d, e, rfl⟩

theorem all_mk {l : PySem.W.OpenLaw} {w : World} {K : PySem.W.Frag} {h : Heap} {mg : Str → Option Value} {fa : Addr} (X : K.In h) (G : h.Ns mainGlobals mg) (hfa : mg "law" = some (.ref fa))
    {f_has_opening : Addr} {od_has_opening an_has_opening : Option Addr} {sl_has_opening : Array (Option Value)} {oc_has_opening kV_has_opening dc_has_opening pm_has_opening cd_has_opening ct_has_opening : Value}
    (a_has_opening : PySem.W.nsIn K mainGlobals "has_opening" = some (some (.ref f_has_opening))) (l_has_opening : K.lookup f_has_opening = some ⟨oc_has_opening, od_has_opening, .func (PySem.W.fnOf "has_opening" "has_opening" (defArgs s_has_opening) (defBody s_has_opening) (defScope s_has_opening) .none kV_has_opening dc_has_opening pm_has_opening an_has_opening cd_has_opening ct_has_opening), sl_has_opening⟩) (c_has_opening : PySem.W.codeIn K cd_has_opening "has_opening" = true) (k_has_opening : PySem.W.keepIn K (.ref f_has_opening) = true)
    {f_has_closing : Addr} {od_has_closing an_has_closing : Option Addr} {sl_has_closing : Array (Option Value)} {oc_has_closing kV_has_closing dc_has_closing pm_has_closing cd_has_closing ct_has_closing : Value}
    (a_has_closing : PySem.W.nsIn K mainGlobals "has_closing" = some (some (.ref f_has_closing))) (l_has_closing : K.lookup f_has_closing = some ⟨oc_has_closing, od_has_closing, .func (PySem.W.fnOf "has_closing" "has_closing" (defArgs s_has_closing) (defBody s_has_closing) (defScope s_has_closing) .none kV_has_closing dc_has_closing pm_has_closing an_has_closing cd_has_closing ct_has_closing), sl_has_closing⟩) (c_has_closing : PySem.W.codeIn K cd_has_closing "has_closing" = true) (k_has_closing : PySem.W.keepIn K (.ref f_has_closing) = true)
    {f_closing_of : Addr} {od_closing_of an_closing_of : Option Addr} {sl_closing_of : Array (Option Value)} {oc_closing_of kV_closing_of dc_closing_of pm_closing_of cd_closing_of ct_closing_of : Value}
    (a_closing_of : PySem.W.nsIn K mainGlobals "closing_of" = some (some (.ref f_closing_of))) (l_closing_of : K.lookup f_closing_of = some ⟨oc_closing_of, od_closing_of, .func (PySem.W.fnOf "closing_of" "closing_of" (defArgs s_closing_of) (defBody s_closing_of) (defScope s_closing_of) .none kV_closing_of dc_closing_of pm_closing_of an_closing_of cd_closing_of ct_closing_of), sl_closing_of⟩) (c_closing_of : PySem.W.codeIn K cd_closing_of "closing_of" = true) (k_closing_of : PySem.W.keepIn K (.ref f_closing_of) = true)
    {f_opening_of : Addr} {od_opening_of an_opening_of : Option Addr} {sl_opening_of : Array (Option Value)} {oc_opening_of kV_opening_of dc_opening_of pm_opening_of cd_opening_of ct_opening_of : Value}
    (a_opening_of : PySem.W.nsIn K mainGlobals "opening_of" = some (some (.ref f_opening_of))) (l_opening_of : K.lookup f_opening_of = some ⟨oc_opening_of, od_opening_of, .func (PySem.W.fnOf "opening_of" "opening_of" (defArgs s_opening_of) (defBody s_opening_of) (defScope s_opening_of) .none kV_opening_of dc_opening_of pm_opening_of an_opening_of cd_opening_of ct_opening_of), sl_opening_of⟩) (c_opening_of : PySem.W.codeIn K cd_opening_of "opening_of" = true) (k_opening_of : PySem.W.keepIn K (.ref f_opening_of) = true)
    {f_partner : Addr} {od_partner an_partner : Option Addr} {sl_partner : Array (Option Value)} {oc_partner kV_partner dc_partner pm_partner cd_partner ct_partner : Value}
    (a_partner : PySem.W.nsIn K mainGlobals "partner" = some (some (.ref f_partner))) (l_partner : K.lookup f_partner = some ⟨oc_partner, od_partner, .func (PySem.W.fnOf "partner" "partner" (defArgs s_partner) (defBody s_partner) (defScope s_partner) .none kV_partner dc_partner pm_partner an_partner cd_partner ct_partner), sl_partner⟩) (c_partner : PySem.W.codeIn K cd_partner "partner" = true) (k_partner : PySem.W.keepIn K (.ref f_partner) = true)
    {f_first_even : Addr} {od_first_even an_first_even : Option Addr} {sl_first_even : Array (Option Value)} {oc_first_even kV_first_even dc_first_even pm_first_even cd_first_even ct_first_even : Value}
    (a_first_even : PySem.W.nsIn K mainGlobals "first_even" = some (some (.ref f_first_even))) (l_first_even : K.lookup f_first_even = some ⟨oc_first_even, od_first_even, .func (PySem.W.fnOf "first_even" "first_even" (defArgs s_first_even) (defBody s_first_even) (defScope s_first_even) .none kV_first_even dc_first_even pm_first_even an_first_even cd_first_even ct_first_even), sl_first_even⟩) (c_first_even : PySem.W.codeIn K cd_first_even "first_even" = true) (k_first_even : PySem.W.keepIn K (.ref f_first_even) = true)
    {f_still_open : Addr} {od_still_open an_still_open : Option Addr} {sl_still_open : Array (Option Value)} {oc_still_open kV_still_open dc_still_open pm_still_open cd_still_open ct_still_open : Value}
    (a_still_open : PySem.W.nsIn K mainGlobals "still_open" = some (some (.ref f_still_open))) (l_still_open : K.lookup f_still_open = some ⟨oc_still_open, od_still_open, .func (PySem.W.fnOf "still_open" "still_open" (defArgs s_still_open) (defBody s_still_open) (defScope s_still_open) .none kV_still_open dc_still_open pm_still_open an_still_open cd_still_open ct_still_open), sl_still_open⟩) (c_still_open : PySem.W.codeIn K cd_still_open "still_open" = true) (k_still_open : PySem.W.keepIn K (.ref f_still_open) = true)
    {f_brackets_round : Addr} {od_brackets_round an_brackets_round : Option Addr} {sl_brackets_round : Array (Option Value)} {oc_brackets_round kV_brackets_round dc_brackets_round pm_brackets_round cd_brackets_round ct_brackets_round : Value}
    (a_brackets_round : PySem.W.nsIn K mainGlobals "brackets_round" = some (some (.ref f_brackets_round))) (l_brackets_round : K.lookup f_brackets_round = some ⟨oc_brackets_round, od_brackets_round, .func (PySem.W.fnOf "brackets_round" "brackets_round" (defArgs s_brackets_round) (defBody s_brackets_round) (defScope s_brackets_round) .none kV_brackets_round dc_brackets_round pm_brackets_round an_brackets_round cd_brackets_round ct_brackets_round), sl_brackets_round⟩) (c_brackets_round : PySem.W.codeIn K cd_brackets_round "brackets_round" = true) (k_brackets_round : PySem.W.keepIn K (.ref f_brackets_round) = true)
    {f_inside : Addr} {od_inside an_inside : Option Addr} {sl_inside : Array (Option Value)} {oc_inside kV_inside dc_inside pm_inside cd_inside ct_inside : Value}
    (a_inside : PySem.W.nsIn K mainGlobals "inside" = some (some (.ref f_inside))) (l_inside : K.lookup f_inside = some ⟨oc_inside, od_inside, .func (PySem.W.fnOf "inside" "inside" (defArgs s_inside) (defBody s_inside) (defScope s_inside) .none kV_inside dc_inside pm_inside an_inside cd_inside ct_inside), sl_inside⟩) (c_inside : PySem.W.codeIn K cd_inside "inside" = true) (k_inside : PySem.W.keepIn K (.ref f_inside) = true)
    {f_outside : Addr} {od_outside an_outside : Option Addr} {sl_outside : Array (Option Value)} {oc_outside kV_outside dc_outside pm_outside cd_outside ct_outside : Value}
    (a_outside : PySem.W.nsIn K mainGlobals "outside" = some (some (.ref f_outside))) (l_outside : K.lookup f_outside = some ⟨oc_outside, od_outside, .func (PySem.W.fnOf "outside" "outside" (defArgs s_outside) (defBody s_outside) (defScope s_outside) .none kV_outside dc_outside pm_outside an_outside cd_outside ct_outside), sl_outside⟩) (c_outside : PySem.W.codeIn K cd_outside "outside" = true) (k_outside : PySem.W.keepIn K (.ref f_outside) = true)
    {f_seen_stretch : Addr} {od_seen_stretch an_seen_stretch : Option Addr} {sl_seen_stretch : Array (Option Value)} {oc_seen_stretch kV_seen_stretch dc_seen_stretch pm_seen_stretch cd_seen_stretch ct_seen_stretch : Value}
    (a_seen_stretch : PySem.W.nsIn K mainGlobals "seen_stretch" = some (some (.ref f_seen_stretch))) (l_seen_stretch : K.lookup f_seen_stretch = some ⟨oc_seen_stretch, od_seen_stretch, .func (PySem.W.fnOf "seen_stretch" "seen_stretch" (defArgs s_seen_stretch) (defBody s_seen_stretch) (defScope s_seen_stretch) .none kV_seen_stretch dc_seen_stretch pm_seen_stretch an_seen_stretch cd_seen_stretch ct_seen_stretch), sl_seen_stretch⟩) (c_seen_stretch : PySem.W.codeIn K cd_seen_stretch "seen_stretch" = true) (k_seen_stretch : PySem.W.keepIn K (.ref f_seen_stretch) = true)
    {f_rows_from : Addr} {od_rows_from an_rows_from : Option Addr} {sl_rows_from : Array (Option Value)} {oc_rows_from kV_rows_from dc_rows_from pm_rows_from cd_rows_from ct_rows_from : Value}
    (a_rows_from : PySem.W.nsIn K mainGlobals "rows_from" = some (some (.ref f_rows_from))) (l_rows_from : K.lookup f_rows_from = some ⟨oc_rows_from, od_rows_from, .func (PySem.W.fnOf "rows_from" "rows_from" (defArgs s_rows_from) (defBody s_rows_from) (defScope s_rows_from) .none kV_rows_from dc_rows_from pm_rows_from an_rows_from cd_rows_from ct_rows_from), sl_rows_from⟩) (c_rows_from : PySem.W.codeIn K cd_rows_from "rows_from" = true) (k_rows_from : PySem.W.keepIn K (.ref f_rows_from) = true)
    {f_stretch : Addr} {od_stretch an_stretch : Option Addr} {sl_stretch : Array (Option Value)} {oc_stretch kV_stretch dc_stretch pm_stretch cd_stretch ct_stretch : Value}
    {dT_stretch : Addr} {dO_stretch : Value} {dD_stretch : Option Addr} {dN_stretch : Nat} {dS_stretch : Array (Option Value)} (dl_stretch : K.lookup dT_stretch = some ⟨dO_stretch, dD_stretch, .seq #[.none, .none] dN_stretch, dS_stretch⟩)
    (a_stretch : PySem.W.nsIn K mainGlobals "stretch" = some (some (.ref f_stretch))) (l_stretch : K.lookup f_stretch = some ⟨oc_stretch, od_stretch, .func (PySem.W.fnOf "stretch" "stretch" (defArgs s_stretch) (defBody s_stretch) (defScope s_stretch) (.ref dT_stretch) kV_stretch dc_stretch pm_stretch an_stretch cd_stretch ct_stretch), sl_stretch⟩) (c_stretch : PySem.W.codeIn K cd_stretch "stretch" = true) (k_stretch : PySem.W.keepIn K (.ref f_stretch) = true)
    {f__law_cell_at : Addr} {od__law_cell_at an__law_cell_at : Option Addr} {sl__law_cell_at : Array (Option Value)} {oc__law_cell_at kV__law_cell_at dc__law_cell_at pm__law_cell_at cd__law_cell_at ct__law_cell_at : Value}
    (a__law_cell_at : PySem.W.nsIn K mainGlobals "_law_cell_at" = some (some (.ref f__law_cell_at))) (l__law_cell_at : K.lookup f__law_cell_at = some ⟨oc__law_cell_at, od__law_cell_at, .func (PySem.W.fnOf "_law_cell_at" "_law_cell_at" (defArgs s__law_cell_at) (defBody s__law_cell_at) (defScope s__law_cell_at) .none kV__law_cell_at dc__law_cell_at pm__law_cell_at an__law_cell_at cd__law_cell_at ct__law_cell_at), sl__law_cell_at⟩) (c__law_cell_at : PySem.W.codeIn K cd__law_cell_at "_law_cell_at" = true) (k__law_cell_at : PySem.W.keepIn K (.ref f__law_cell_at) = true)
    {f__law_whole : Addr} {od__law_whole an__law_whole : Option Addr} {sl__law_whole : Array (Option Value)} {oc__law_whole kV__law_whole dc__law_whole pm__law_whole cd__law_whole ct__law_whole : Value}
    (a__law_whole : PySem.W.nsIn K mainGlobals "_law_whole" = some (some (.ref f__law_whole))) (l__law_whole : K.lookup f__law_whole = some ⟨oc__law_whole, od__law_whole, .func (PySem.W.fnOf "_law_whole" "_law_whole" (defArgs s__law_whole) (defBody s__law_whole) (defScope s__law_whole) .none kV__law_whole dc__law_whole pm__law_whole an__law_whole cd__law_whole ct__law_whole), sl__law_whole⟩) (c__law_whole : PySem.W.codeIn K cd__law_whole "_law_whole" = true) (k__law_whole : PySem.W.keepIn K (.ref f__law_whole) = true)
    {f__law_sign_by : Addr} {od__law_sign_by an__law_sign_by : Option Addr} {sl__law_sign_by : Array (Option Value)} {oc__law_sign_by kV__law_sign_by dc__law_sign_by pm__law_sign_by cd__law_sign_by ct__law_sign_by : Value}
    (a__law_sign_by : PySem.W.nsIn K mainGlobals "_law_sign_by" = some (some (.ref f__law_sign_by))) (l__law_sign_by : K.lookup f__law_sign_by = some ⟨oc__law_sign_by, od__law_sign_by, .func (PySem.W.fnOf "_law_sign_by" "_law_sign_by" (defArgs s__law_sign_by) (defBody s__law_sign_by) (defScope s__law_sign_by) .none kV__law_sign_by dc__law_sign_by pm__law_sign_by an__law_sign_by cd__law_sign_by ct__law_sign_by), sl__law_sign_by⟩) (c__law_sign_by : PySem.W.codeIn K cd__law_sign_by "_law_sign_by" = true) (k__law_sign_by : PySem.W.keepIn K (.ref f__law_sign_by) = true)
    {f__law_text : Addr} {od__law_text an__law_text : Option Addr} {sl__law_text : Array (Option Value)} {oc__law_text kV__law_text dc__law_text pm__law_text cd__law_text ct__law_text : Value}
    (a__law_text : PySem.W.nsIn K mainGlobals "_law_text" = some (some (.ref f__law_text))) (l__law_text : K.lookup f__law_text = some ⟨oc__law_text, od__law_text, .func (PySem.W.fnOf "_law_text" "_law_text" (defArgs s__law_text) (defBody s__law_text) (defScope s__law_text) .none kV__law_text dc__law_text pm__law_text an__law_text cd__law_text ct__law_text), sl__law_text⟩) (c__law_text : PySem.W.codeIn K cd__law_text "_law_text" = true) (k__law_text : PySem.W.keepIn K (.ref f__law_text) = true)
    {f__law_other_end : Addr} {od__law_other_end an__law_other_end : Option Addr} {sl__law_other_end : Array (Option Value)} {oc__law_other_end kV__law_other_end dc__law_other_end pm__law_other_end cd__law_other_end ct__law_other_end : Value}
    (a__law_other_end : PySem.W.nsIn K mainGlobals "_law_other_end" = some (some (.ref f__law_other_end))) (l__law_other_end : K.lookup f__law_other_end = some ⟨oc__law_other_end, od__law_other_end, .func (PySem.W.fnOf "_law_other_end" "_law_other_end" (defArgs s__law_other_end) (defBody s__law_other_end) (defScope s__law_other_end) .none kV__law_other_end dc__law_other_end pm__law_other_end an__law_other_end cd__law_other_end ct__law_other_end), sl__law_other_end⟩) (c__law_other_end : PySem.W.codeIn K cd__law_other_end "_law_other_end" = true) (k__law_other_end : PySem.W.keepIn K (.ref f__law_other_end) = true)
    {f__law_due : Addr} {od__law_due an__law_due : Option Addr} {sl__law_due : Array (Option Value)} {oc__law_due kV__law_due dc__law_due pm__law_due cd__law_due ct__law_due : Value}
    (a__law_due : PySem.W.nsIn K mainGlobals "_law_due" = some (some (.ref f__law_due))) (l__law_due : K.lookup f__law_due = some ⟨oc__law_due, od__law_due, .func (PySem.W.fnOf "_law_due" "_law_due" (defArgs s__law_due) (defBody s__law_due) (defScope s__law_due) .none kV__law_due dc__law_due pm__law_due an__law_due cd__law_due ct__law_due), sl__law_due⟩) (c__law_due : PySem.W.codeIn K cd__law_due "_law_due" = true) (k__law_due : PySem.W.keepIn K (.ref f__law_due) = true)
    {f__law_same : Addr} {od__law_same an__law_same : Option Addr} {sl__law_same : Array (Option Value)} {oc__law_same kV__law_same dc__law_same pm__law_same cd__law_same ct__law_same : Value}
    (a__law_same : PySem.W.nsIn K mainGlobals "_law_same" = some (some (.ref f__law_same))) (l__law_same : K.lookup f__law_same = some ⟨oc__law_same, od__law_same, .func (PySem.W.fnOf "_law_same" "_law_same" (defArgs s__law_same) (defBody s__law_same) (defScope s__law_same) .none kV__law_same dc__law_same pm__law_same an__law_same cd__law_same ct__law_same), sl__law_same⟩) (c__law_same : PySem.W.codeIn K cd__law_same "_law_same" = true) (k__law_same : PySem.W.keepIn K (.ref f__law_same) = true)
    {f__law_asked : Addr} {od__law_asked an__law_asked : Option Addr} {sl__law_asked : Array (Option Value)} {oc__law_asked kV__law_asked dc__law_asked pm__law_asked cd__law_asked ct__law_asked : Value}
    (a__law_asked : PySem.W.nsIn K mainGlobals "_law_asked" = some (some (.ref f__law_asked))) (l__law_asked : K.lookup f__law_asked = some ⟨oc__law_asked, od__law_asked, .func (PySem.W.fnOf "_law_asked" "_law_asked" (defArgs s__law_asked) (defBody s__law_asked) (defScope s__law_asked) .none kV__law_asked dc__law_asked pm__law_asked an__law_asked cd__law_asked ct__law_asked), sl__law_asked⟩) (c__law_asked : PySem.W.codeIn K cd__law_asked "_law_asked" = true) (k__law_asked : PySem.W.keepIn K (.ref f__law_asked) = true)
    {f_law : Addr} {od_law an_law : Option Addr} {sl_law : Array (Option Value)} {oc_law kV_law dc_law pm_law cd_law ct_law : Value}
    (a_law : PySem.W.nsIn K mainGlobals "law" = some (some (.ref f_law))) (l_law : K.lookup f_law = some ⟨oc_law, od_law, .func (PySem.W.fnOf "law" "law" (defArgs s_law) (defBody s_law) (defScope s_law) .none kV_law dc_law pm_law an_law cd_law ct_law), sl_law⟩) (c_law : PySem.W.codeIn K cd_law "law" = true) (k_law : PySem.W.keepIn K (.ref f_law) = true)
    {A_OPENING : Addr} {tq_OPENING_0 tq_OPENING_1 tq_OPENING_2 : Tok} {np_OPENING : Nat} {sp_OPENING : Array (Option Value)} (g_OPENING : PySem.W.nsIn K mainGlobals "OPENING" = some (some (.ref A_OPENING))) (d_OPENING : K.lookup A_OPENING = some { cls := .type "tuple", dict := none, data := .seq #[.str (S [40]) tq_OPENING_0, .str (S [91]) tq_OPENING_1, .str (S [123]) tq_OPENING_2] np_OPENING, slots := sp_OPENING })
    {A_CLOSING : Addr} {tq_CLOSING_0 tq_CLOSING_1 tq_CLOSING_2 : Tok} {np_CLOSING : Nat} {sp_CLOSING : Array (Option Value)} (g_CLOSING : PySem.W.nsIn K mainGlobals "CLOSING" = some (some (.ref A_CLOSING))) (d_CLOSING : K.lookup A_CLOSING = some { cls := .type "tuple", dict := none, data := .seq #[.str (S [41]) tq_CLOSING_0, .str (S [93]) tq_CLOSING_1, .str (S [125]) tq_CLOSING_2] np_CLOSING, slots := sp_CLOSING })
    {C_COUNT_PASSED_OVER : Addr} (n_COUNT_PASSED_OVER : PySem.W.nsIn K mainGlobals "COUNT_PASSED_OVER" = some (some (.ref C_COUNT_PASSED_OVER)))
    (z_len : PySem.W.nsIn K mainGlobals "len" = some none) (z_range : PySem.W.nsIn K mainGlobals "range" = some none) (z_isinstance : PySem.W.nsIn K mainGlobals "isinstance" = some none) (z_int : PySem.W.nsIn K mainGlobals "int" = some none) (z_bool : PySem.W.nsIn K mainGlobals "bool" = some none) (z_str : PySem.W.nsIn K mainGlobals "str" = some none) (z_tuple : PySem.W.nsIn K mainGlobals "tuple" = some none) :
    ∃ fd : FuncData, (∀ (s : Shared) (v : Value), BindsTo s fd ⟨[v], []⟩ [("_law_script", v)]) ∧ ∀ base : Heap, K.In base → base.Ns mainGlobals mg → FnOk l.prog w K mg base CX0 6 fa fd ["_law_script"] (sp_law K) := by
  have e := hfa.symm.trans (PySem.W.mg_of X G a_law)
  cases e
  have F_has_opening := fun_mk (st := s_has_opening) l_has_opening c_has_opening k_has_opening
  have b_has_opening := F_has_opening.binds (ps := ["text", "place"]) fun _ _ _ _ _ _ us hl => (by obtain ⟨_, _, rfl⟩ := len2 hl; rfl)
  have F_has_closing := fun_mk (st := s_has_closing) l_has_closing c_has_closing k_has_closing
  have b_has_closing := F_has_closing.binds (ps := ["text", "place"]) fun _ _ _ _ _ _ us hl => (by obtain ⟨_, _, rfl⟩ := len2 hl; rfl)
  have F_closing_of := fun_mk (st := s_closing_of) l_closing_of c_closing_of k_closing_of
  have b_closing_of := F_closing_of.binds (ps := ["opening"]) fun _ _ _ _ _ _ us hl => (by obtain ⟨_, rfl⟩ := len1 hl; rfl)
  have F_opening_of := fun_mk (st := s_opening_of) l_opening_of c_opening_of k_opening_of
  have b_opening_of := F_opening_of.binds (ps := ["closing"]) fun _ _ _ _ _ _ us hl => (by obtain ⟨_, rfl⟩ := len1 hl; rfl)
  have F_partner := fun_mk (st := s_partner) l_partner c_partner k_partner
  have b_partner := F_partner.binds (ps := ["text", "place"]) fun _ _ _ _ _ _ us hl => (by obtain ⟨_, _, rfl⟩ := len2 hl; rfl)
  have F_first_even := fun_mk (st := s_first_even) l_first_even c_first_even k_first_even
  have b_first_even := F_first_even.binds (ps := ["text", "place", "step", "wanted"]) fun _ _ _ _ _ _ us hl => (by obtain ⟨_, _, _, _, rfl⟩ := len4 hl; rfl)
  have F_still_open := fun_mk (st := s_still_open) l_still_open c_still_open k_still_open
  have b_still_open := F_still_open.binds (ps := ["text", "place", "opening"]) fun _ _ _ _ _ _ us hl => (by obtain ⟨_, _, _, rfl⟩ := len3 hl; rfl)
  have F_brackets_round := fun_mk (st := s_brackets_round) l_brackets_round c_brackets_round k_brackets_round
  have b_brackets_round := F_brackets_round.binds (ps := ["text", "place", "opening", "many"]) fun _ _ _ _ _ _ us hl => (by obtain ⟨_, _, _, _, rfl⟩ := len4 hl; rfl)
  have F_inside := fun_mk (st := s_inside) l_inside c_inside k_inside
  have b_inside := F_inside.binds (ps := ["pair"]) fun _ _ _ _ _ _ us hl => (by obtain ⟨_, rfl⟩ := len1 hl; rfl)
  have F_outside := fun_mk (st := s_outside) l_outside c_outside k_outside
  have b_outside := F_outside.binds (ps := ["pair"]) fun _ _ _ _ _ _ us hl => (by obtain ⟨_, rfl⟩ := len1 hl; rfl)
  have F_seen_stretch := fun_mk (st := s_seen_stretch) l_seen_stretch c_seen_stretch k_seen_stretch
  have b_seen_stretch := F_seen_stretch.binds (ps := ["text", "place", "seen"]) fun _ _ _ _ _ _ us hl => (by obtain ⟨_, _, _, rfl⟩ := len3 hl; rfl)
  have F_rows_from := fun_mk (st := s_rows_from) l_rows_from c_rows_from k_rows_from
  have b_rows_from := F_rows_from.binds (ps := ["text", "place", "many"]) fun _ _ _ _ _ _ us hl => (by obtain ⟨_, _, _, rfl⟩ := len3 hl; rfl)
  have F_stretch := funD_mk (st := s_stretch) l_stretch c_stretch k_stretch
  have b_stretch_0 : Binds K _ ["key", "text", "place", "count", "seen"] [] := fun s us X hl => match us, (show us.length = 5 by simpa using hl) with | [_, _, _, _, _], _ => PySem.W.binds_K (fd := PySem.W.fnOf "stretch" "stretch" (defArgs s_stretch) (defBody s_stretch) (defScope s_stretch) (.ref dT_stretch) kV_stretch dc_stretch pm_stretch an_stretch cd_stretch ct_stretch) X rfl dl_stretch rfl rfl rfl
  have b_stretch_1 : Binds K _ ["key", "text", "place", "count", "seen"] [.none] := fun s us X hl => match us, (show us.length = 4 by simpa using hl) with | [_, _, _, _], _ => PySem.W.binds_K (fd := PySem.W.fnOf "stretch" "stretch" (defArgs s_stretch) (defBody s_stretch) (defScope s_stretch) (.ref dT_stretch) kV_stretch dc_stretch pm_stretch an_stretch cd_stretch ct_stretch) X rfl dl_stretch rfl rfl rfl
  have b_stretch_2 : Binds K _ ["key", "text", "place", "count", "seen"] [.none, .none] := fun s us X hl => match us, (show us.length = 3 by simpa using hl) with | [_, _, _], _ => PySem.W.binds_K (fd := PySem.W.fnOf "stretch" "stretch" (defArgs s_stretch) (defBody s_stretch) (defScope s_stretch) (.ref dT_stretch) kV_stretch dc_stretch pm_stretch an_stretch cd_stretch ct_stretch) X rfl dl_stretch rfl rfl rfl
  have F__law_cell_at := fun_mk (st := s__law_cell_at) l__law_cell_at c__law_cell_at k__law_cell_at
  have b__law_cell_at := F__law_cell_at.binds (ps := ["_law_script", "_law_k"]) fun _ _ _ _ _ _ us hl => (by obtain ⟨_, _, rfl⟩ := len2 hl; rfl)
  have F__law_whole := fun_mk (st := s__law_whole) l__law_whole c__law_whole k__law_whole
  have b__law_whole := F__law_whole.binds (ps := ["_law_found"]) fun _ _ _ _ _ _ us hl => (by obtain ⟨_, rfl⟩ := len1 hl; rfl)
  have F__law_sign_by := fun_mk (st := s__law_sign_by) l__law_sign_by c__law_sign_by k__law_sign_by
  have b__law_sign_by := F__law_sign_by.binds (ps := ["_law_cell"]) fun _ _ _ _ _ _ us hl => (by obtain ⟨_, rfl⟩ := len1 hl; rfl)
  have F__law_text := fun_mk (st := s__law_text) l__law_text c__law_text k__law_text
  have b__law_text := F__law_text.binds (ps := ["_law_script"]) fun _ _ _ _ _ _ us hl => (by obtain ⟨_, rfl⟩ := len1 hl; rfl)
  have F__law_other_end := fun_mk (st := s__law_other_end) l__law_other_end c__law_other_end k__law_other_end
  have b__law_other_end := F__law_other_end.binds (ps := ["_law_text_here", "_law_at", "_law_opening", "_law_closing"]) fun _ _ _ _ _ _ us hl => (by obtain ⟨_, _, _, _, rfl⟩ := len4 hl; rfl)
  have F__law_due := fun_mk (st := s__law_due) l__law_due c__law_due k__law_due
  have b__law_due := F__law_due.binds (ps := ["_law_text_here", "_law_place", "_law_kind", "_law_count", "_law_both"]) fun _ _ _ _ _ _ us hl => (by obtain ⟨_, _, _, _, _, rfl⟩ := len5 hl; rfl)
  have F__law_same := fun_mk (st := s__law_same) l__law_same c__law_same k__law_same
  have b__law_same := F__law_same.binds (ps := ["_law_found", "_law_due_here"]) fun _ _ _ _ _ _ us hl => (by obtain ⟨_, _, rfl⟩ := len2 hl; rfl)
  have F__law_asked := fun_mk (st := s__law_asked) l__law_asked c__law_asked k__law_asked
  have b__law_asked := F__law_asked.binds (ps := ["_law_text_here", "_law_cell"]) fun _ _ _ _ _ _ us hl => (by obtain ⟨_, _, rfl⟩ := len2 hl; rfl)
  have F_law := fun_mk (st := s_law) l_law c_law k_law
  have b_law := F_law.binds (ps := ["_law_script"]) fun _ _ _ _ _ _ us hl => (by obtain ⟨_, rfl⟩ := len1 hl; rfl)
  have m := fun (x : Str) (z : PySem.W.nsIn K mainGlobals x = some none) => PySem.W.mg_none_of X G z
  have ml := m _ z_len
  have mr := m _ z_range
  refine ⟨PySem.W.fnOf "law" "law" (defArgs s_law) (defBody s_law) (defScope s_law) .none kV_law dc_law pm_law an_law cd_law ct_law, fun s v => .of_eq rfl, fun base _ _ => ?_⟩
  have mO := PySem.W.mg_of X G g_OPENING
  have mC := PySem.W.mg_of X G g_CLOSING
  have TO := TupK.three d_OPENING
  have TC := TupK.three d_CLOSING
  have Ocl : Own l.prog w K mg base CX0 1 "closing_of" ["opening"] sp_closing := ⟨_, _, ok_closing F_closing_of mO TO mC TC, b_closing_of, k_closing_of, PySem.W.mg_of X G a_closing_of⟩
  have Oop : Own l.prog w K mg base CX0 1 "opening_of" ["closing"] sp_opening := ⟨_, _, ok_opening F_opening_of mO TO mC TC, b_opening_of, k_opening_of, PySem.W.mg_of X G a_opening_of⟩
  have Opt : Own l.prog w K mg base CX0 2 "partner" ["text", "place"] sp_partner := ⟨_, _, ok_partner F_partner ⟨_, _, ok_hasO F_has_opening ml mO TO, b_has_opening, k_has_opening, PySem.W.mg_of X G a_has_opening⟩ ⟨_, _, ok_hasC F_has_closing ml mC TC, b_has_closing, k_has_closing, PySem.W.mg_of X G a_has_closing⟩ Ocl Oop ⟨_, _, ok_even F_first_even ml, b_first_even, k_first_even, PySem.W.mg_of X G a_first_even⟩, b_partner, k_partner, PySem.W.mg_of X G a_partner⟩
  have Fst := ok_stretch (P := l.prog) (w := w) (mg := mg) (base := base) F_stretch mO TO mC TC (PySem.W.mg_of X G n_COUNT_PASSED_OVER)
    ⟨_, _, ok_inside F_inside, b_inside, k_inside, PySem.W.mg_of X G a_inside⟩ ⟨_, _, ok_outside F_outside, b_outside, k_outside, PySem.W.mg_of X G a_outside⟩ ⟨_, _, ok_round F_brackets_round ⟨_, _, ok_still F_still_open Ocl mr, b_still_open, k_still_open, PySem.W.mg_of X G a_still_open⟩ Opt ml, b_brackets_round, k_brackets_round, PySem.W.mg_of X G a_brackets_round⟩ Oop
    ⟨_, _, fn_false, b_seen_stretch, k_seen_stretch, PySem.W.mg_of X G a_seen_stretch⟩ ⟨_, _, fn_false, b_rows_from, k_rows_from, PySem.W.mg_of X G a_rows_from⟩
  have Ost2 : OwnD l.prog w K mg base CX0 4 "stretch" ["key", "text", "place", "count", "seen"] sp_stretch [.non, .non] := ⟨_, _, _, Fst, b_stretch_2, .cons rfl (.cons rfl .nil), k_stretch, PySem.W.mg_of X G a_stretch⟩
  have Ost1 : OwnD l.prog w K mg base CX0 4 "stretch" ["key", "text", "place", "count", "seen"] sp_stretch [.non] := ⟨_, _, _, Fst, b_stretch_1, .cons rfl .nil, k_stretch, PySem.W.mg_of X G a_stretch⟩
  have Oce : Own l.prog w K mg base CX0 1 "_law_cell_at" ["_law_script", "_law_k"] (sp_cell K) := ⟨_, _, ok_cell F__law_cell_at ml, b__law_cell_at, k__law_cell_at, PySem.W.mg_of X G a__law_cell_at⟩
  exact ok_law F_law ⟨_, _, ok_text3 F__law_text Oce ⟨_, _, ok_sign F__law_sign_by ml, b__law_sign_by, k__law_sign_by, PySem.W.mg_of X G a__law_sign_by⟩ ml, b__law_text, k__law_text, PySem.W.mg_of X G a__law_text⟩ Oce
    ⟨_, _, ok_asked F__law_asked ⟨_, _, ok_due F__law_due ⟨_, _, ok_oend F__law_other_end ml mr, b__law_other_end, k__law_other_end, PySem.W.mg_of X G a__law_other_end⟩ ml mr, b__law_due, k__law_due, PySem.W.mg_of X G a__law_due⟩
      ⟨_, _, ok_same3 F__law_same ⟨_, _, ok_lwhole F__law_whole (m _ z_isinstance) (m _ z_int) (m _ z_bool), b__law_whole, k__law_whole, PySem.W.mg_of X G a__law_whole⟩ ml (m _ z_isinstance) (m _ z_str) (m _ z_tuple), b__law_same, k__law_same, PySem.W.mg_of X G a__law_same⟩ Ost2 Ost1 ml, b__law_asked, k__law_asked, PySem.W.mg_of X G a__law_asked⟩ ml
theorem walk {l : PySem.W.OpenLaw} {q : Program} {loose : List Str} {XP : (Str → Option Value) → Heap → Prop} {YP : World → Heap → Prop} {d : DefRec} {K : Params → PySem.W.Frag} (hn : l.most = some 63) (hdf : d.params.defaults = [])
    (hY : ∀ (w : World) (h : Heap), YP w h → (K w.params).In h)
    (F : ∀ (w : World) (mg : Str → Option Value) (fa : Addr) (h : Heap), (K w.params).In h → h.Ns mainGlobals mg → mg d.name = some (.ref fa) →
      ∃ fd : FuncData, (∀ (s : Shared) (u : Value), BindsTo s fd ⟨[u], []⟩ [("_law_script", u)]) ∧ ∀ base : Heap, (K w.params).In base → base.Ns mainGlobals mg → FnOk l.prog w (K w.params) mg base CX0 6 fa fd ["_law_script"] (sp_law (K w.params))) :
    PySem.W.WalkO q loose XP YP l.row.toRowW d [] (fun f vs => PySem.call f vs) :=
  L2.walk_of (n := 63) (k := 6) (x := "_law_script") (CX := fun _ => CX0) (sp := fun w => sp_law (K w.params)) hn (by decide) hdf ⟨rfl, by decide, by decide⟩ hY F (fun _ _ a ns hl _ hS => ⟨a, ns, rfl, hS, hl, fun _ => rfl⟩) fun _ _ _ _ _ z => z
end My
open PySem PySem.W PyProof.Rows
def PySem.W.Fast.tw5606631362151985280 : Nat := 0
def PySem.W.Fast.tw16390205846156241248 : Nat := 0
def PySem.W.Fast.tw9188638566914295136 : Nat := 0
def PySem.W.Fast.tw13993368763025617344 : Nat := 0
def PySem.W.Fast.tw16323152704286866176 : Nat := 0
def PySem.W.Fast.tw5890849026059817792 : Nat := 0
def PySem.W.Fast.tw17135078539067326368 : Nat := 0
def PySem.W.Fast.tw16270791343711818785 : Nat := 0
def PySem.W.Fast.tw12783601842072593569 : Nat := 0
def PySem.W.Fast.tw18370401317249761505 : Nat := 0
def PySem.W.Fast.tw15423021872913659201 : Nat := 0
def PySem.W.Fast.tw4079572109306510849 : Nat := 0
def PySem.W.Fast.tw9174082275679643233 : Nat := 0
def PySem.W.Fast.tw8648915122432257697 : Nat := 0
def PySem.W.Fast.tw13044348565618152129 : Nat := 0
def PySem.W.Fast.tw1540256369094883330 : Nat := 0
def PySem.W.Fast.tw16583832657801099266 : Nat := 0
def PySem.W.Fast.tw11602016890237463618 : Nat := 0
def PySem.W.Fast.tw9237827933453149282 : Nat := 0
def PySem.W.Fast.tw2452535025458225314 : Nat := 0
def PySem.W.Fast.tw9566336275017944258 : Nat := 0
def PySem.W.Fast.tw2009077253571460322 : Nat := 0
def PySem.W.Fast.tw8331034517136729314 : Nat := 0
def PySem.W.Fast.tw1844337046012769698 : Nat := 0
def PySem.W.Fast.tw11916675848645858882 : Nat := 0
def PySem.W.Fast.tw9558808937027954306 : Nat := 0
def PySem.W.Fast.tw627799586392569634 : Nat := 0
def PySem.W.Fast.tw14402425138615140419 : Nat := 0
def PySem.W.Fast.tw10177780168519757923 : Nat := 0
def PySem.W.Fast.tw13700096363664948323 : Nat := 0
def PySem.W.Fast.tw4154771177185815811 : Nat := 0
def PySem.W.Fast.tw3229685068402269539 : Nat := 0
def PySem.W.Fast.tw7819139131362361731 : Nat := 0
def PySem.W.Fast.tw6040982295946645027 : Nat := 0
def PySem.W.Fast.tw11708362009751507715 : Nat := 0
def PySem.W.Fast.tw8128764455888270115 : Nat := 0
def PySem.W.Fast.tw18208128046534515555 : Nat := 0
def PySem.W.Fast.tw4053265585907058595 : Nat := 0
def PySem.W.Fast.tw17595041037631241155 : Nat := 0
def PySem.W.Fast.tw7246746545573755875 : Nat := 0
def PySem.W.Fast.tw16094079579951114276 : Nat := 0
def PySem.W.Fast.tw1360590195503347844 : Nat := 0
def PySem.W.Fast.tw10988598797558226084 : Nat := 0
def PySem.W.Fast.tw9952954485245867236 : Nat := 0
def PySem.W.Fast.tw13518932250003879204 : Nat := 0
def PySem.W.Fast.tw2171419041283244324 : Nat := 0
def PySem.W.Fast.tw9267568784287916388 : Nat := 0
def PySem.W.Fast.tw11152048385122322852 : Nat := 0
def PySem.W.Fast.tw9582252360800496100 : Nat := 0
def PySem.W.Fast.tw635308049336555012 : Nat := 0
def PySem.W.Fast.tw17151847402647293540 : Nat := 0
def PySem.W.Fast.tw6821961526551650020 : Nat := 0
def PySem.W.Fast.tw3274926019685617412 : Nat := 0
def PySem.W.Fast.tw9176358182656537380 : Nat := 0
def PySem.W.Fast.tw7780391022327913316 : Nat := 0
def PySem.W.Fast.tw3935224874264537956 : Nat := 0
def PySem.W.Fast.tw18418489673595432836 : Nat := 0
def PySem.W.Fast.tw2894973684373349284 : Nat := 0
def PySem.W.Fast.tw14751612842788945892 : Nat := 0
def PySem.W.Fast.tw4152683713101318149 : Nat := 0
def PySem.W.Fast.tw17044957974071838757 : Nat := 0
def PySem.W.Fast.tw6496565862087112901 : Nat := 0
def PySem.W.Fast.tw10145508242806825157 : Nat := 0
def PySem.W.Fast.tw9744151869790375269 : Nat := 0
def PySem.W.Fast.tw15096690650624199109 : Nat := 0
def PySem.W.Fast.tw11207188911695751653 : Nat := 0
def PySem.W.Fast.tw10414480743492614789 : Nat := 0
def PySem.W.Fast.tw5008672752138275461 : Nat := 0
def PySem.W.Fast.tw14113778005762458277 : Nat := 0
def PySem.W.Fast.tw3376404763114833637 : Nat := 0
def PySem.W.Fast.tw14951888247191961445 : Nat := 0
def PySem.W.Fast.tw8740647791969265702 : Nat := 0
def PySem.W.Fast.tw12184496445676466374 : Nat := 0
def PySem.W.Fast.tw17989161763274317222 : Nat := 0
def PySem.W.Fast.tw10391802080130654630 : Nat := 0
def PySem.W.Fast.tw1860219468236514150 : Nat := 0
def PySem.W.Fast.tw14229873822681656230 : Nat := 0
def PySem.W.Fast.tw7897228398507908103 : Nat := 0
def PySem.W.Fast.tw9830539330882503719 : Nat := 0
def PySem.W.Fast.tw278469048242752583 : Nat := 0
def PySem.W.Fast.tw7456059270474164359 : Nat := 0
def PySem.W.Fast.tw8882464940344998087 : Nat := 0
def PySem.W.Fast.tw13584891798433852647 : Nat := 0
def PySem.W.Fast.tw6399933021848828327 : Nat := 0
def PySem.W.Fast.tw2999488908884376999 : Nat := 0
def PySem.W.Fast.tw11635846249722602023 : Nat := 0
def PySem.W.Fast.tw17415285124004625031 : Nat := 0
def PySem.W.Fast.tw5096570569450379911 : Nat := 0
def PySem.W.Fast.tw10609278869337538568 : Nat := 0
def PySem.W.Fast.tw994355349988910216 : Nat := 0
def PySem.W.Fast.tw2100396900950483080 : Nat := 0
def PySem.W.Fast.tw5994167053360151848 : Nat := 0
def PySem.W.Fast.tw5059677825455349256 : Nat := 0
def PySem.W.Fast.tw1149581565313170984 : Nat := 0
def PySem.W.Fast.tw11471200900689150504 : Nat := 0
def PySem.W.Fast.tw8401760617534574120 : Nat := 0
def PySem.W.Fast.tw6444473124404192968 : Nat := 0
def PySem.W.Fast.tw11932126057727881128 : Nat := 0
def PySem.W.Fast.tw6424038317825782889 : Nat := 0
def PySem.W.Fast.tw11239993443613270217 : Nat := 0
def PySem.W.Fast.tw13064603393414675753 : Nat := 0
def PySem.W.Fast.tw4386259805954929961 : Nat := 0
def PySem.W.Fast.tw5410381955026982217 : Nat := 0
def PySem.W.Fast.tw14706390649781994889 : Nat := 0
def PySem.W.Fast.tw16003272502568849833 : Nat := 0
def PySem.W.Fast.tw11095631664591073769 : Nat := 0
def PySem.W.Fast.tw14087559737067222537 : Nat := 0
def PySem.W.Fast.tw7473522440816862825 : Nat := 0
def PySem.W.Fast.tw8571635741052141193 : Nat := 0
def PySem.W.Fast.tw13660570739185821353 : Nat := 0
def PySem.W.Fast.tw3466921905889807081 : Nat := 0
def PySem.W.Fast.tw11227908227667642089 : Nat := 0
def PySem.W.Fast.tw10727696888889490217 : Nat := 0
def PySem.W.Fast.tw17259570535441418057 : Nat := 0
def PySem.W.Fast.tw4572561314493322153 : Nat := 0
def PySem.W.Fast.tw3200499942638556234 : Nat := 0
def PySem.W.Fast.tw7025599009124725834 : Nat := 0
def PySem.W.Fast.tw3025482314377317546 : Nat := 0
def PySem.W.Fast.tw1272099738466174122 : Nat := 0
def PySem.W.Fast.tw10178140357138222346 : Nat := 0
def PySem.W.Fast.tw3970571326193558826 : Nat := 0
def PySem.W.Fast.tw5530630505604348202 : Nat := 0
def PySem.W.Fast.tw6525031521890505034 : Nat := 0
def PySem.W.Fast.tw7075962194694436234 : Nat := 0
def PySem.W.Fast.tw3275068719616052618 : Nat := 0
def PySem.W.Fast.tw2366508101950693770 : Nat := 0
def PySem.W.Fast.tw12770958376080869802 : Nat := 0
def PySem.W.Fast.tw16817594906365810090 : Nat := 0
def PySem.W.Fast.tw3724971364959653322 : Nat := 0
def PySem.W.Fast.tw5566920268286241226 : Nat := 0
def PySem.W.Fast.tw3788706008345552522 : Nat := 0
def PySem.W.Fast.tw16820763871417148074 : Nat := 0
def PySem.W.Fast.tw9523264182153017194 : Nat := 0
def PySem.W.Fast.tw9218330170526981002 : Nat := 0
def PySem.W.Fast.tw12169076419725851594 : Nat := 0
def PySem.W.Fast.tw11007476647996951530 : Nat := 0
def PySem.W.Fast.tw6092076356197035019 : Nat := 0
def PySem.W.Fast.tw12014541968907458731 : Nat := 0
def PySem.W.Fast.tw16701770401119648011 : Nat := 0
def PySem.W.Fast.tw13376541008606940459 : Nat := 0
def PySem.W.Fast.tw622972249080983883 : Nat := 0
def PySem.W.Fast.tw10277734167862717867 : Nat := 0
def PySem.W.Fast.tw3306040042889621931 : Nat := 0
def PySem.W.Fast.tw1718671048355581387 : Nat := 0
def PySem.W.Fast.tw16580124426622609867 : Nat := 0
def PySem.W.Fast.tw10845713608204808683 : Nat := 0
def PySem.W.Fast.tw3844520606597288491 : Nat := 0
def PySem.W.Fast.tw447858690760723243 : Nat := 0
def PySem.W.Fast.tw1898804007607318411 : Nat := 0
def PySem.W.Fast.tw18318590385672777643 : Nat := 0
def PySem.W.Fast.tw15891820410563868587 : Nat := 0
def PySem.W.Fast.tw4819942215274459148 : Nat := 0
def PySem.W.Fast.tw1015819950860916812 : Nat := 0
def PySem.W.Fast.tw9052569765498932332 : Nat := 0
def PySem.W.Fast.tw5220559340618373324 : Nat := 0
def PySem.W.Fast.tw1282364890233858252 : Nat := 0
def PySem.W.Fast.tw12725535069787330796 : Nat := 0
def PySem.W.Fast.tw17310150005815632364 : Nat := 0
def PySem.W.Fast.tw15261376319573562892 : Nat := 0
def PySem.W.Fast.tw11906774375695278604 : Nat := 0
def PySem.W.Fast.tw3262789088303237708 : Nat := 0
def PySem.W.Fast.tw10877076899728706252 : Nat := 0
def PySem.W.Fast.tw1827760765592844012 : Nat := 0
def PySem.W.Fast.tw15890144420855566477 : Nat := 0
def PySem.W.Fast.tw8139932110102201517 : Nat := 0
def PySem.W.Fast.tw8040919069425528173 : Nat := 0
def PySem.W.Fast.tw7262798504548094381 : Nat := 0
def PySem.W.Fast.tw3419775232216300973 : Nat := 0
def PySem.W.Fast.tw5874612989924332333 : Nat := 0
def PySem.W.Fast.tw18029718430084941 : Nat := 0
def PySem.W.Fast.tw15677759303035858797 : Nat := 0
def PySem.W.Fast.tw16517902952773399405 : Nat := 0
def PySem.W.Fast.tw16783640823097780141 : Nat := 0
def PySem.W.Fast.tw8381960706805897165 : Nat := 0
def PySem.W.Fast.tw11759930052783404206 : Nat := 0
def PySem.W.Fast.tw9205712903801103566 : Nat := 0
def PySem.W.Fast.tw10913242004170159438 : Nat := 0
def PySem.W.Fast.tw4613822904191491406 : Nat := 0
def PySem.W.Fast.tw4396579273796203086 : Nat := 0
def PySem.W.Fast.tw15182108190982546318 : Nat := 0
def PySem.W.Fast.tw16273764293642127342 : Nat := 0
def PySem.W.Fast.tw10451321550757564431 : Nat := 0
def PySem.W.Fast.tw17862359707847013551 : Nat := 0
def PySem.W.Fast.tw13102600237980444879 : Nat := 0
def PySem.W.Fast.tw12517720581156687087 : Nat := 0
def PySem.W.Fast.tw2346018995578840335 : Nat := 0
def PySem.W.Fast.tw15779152729281859983 : Nat := 0
def PySem.W.Fast.tw12232843101049290191 : Nat := 0
def PySem.W.Fast.tw6239101687224804911 : Nat := 0
def PySem.W.Fast.tw16190053757050684079 : Nat := 0
def PySem.W.Fast.tw18364307828364095151 : Nat := 0
def PySem.W.Fast.tw4085930204344595119 : Nat := 0
def PySem.W.Fast.tw11425513280715932527 : Nat := 0
def PySem.W.Fast.tw515706521368631504 : Nat := 0
def PySem.W.Fast.tw12764494072753526160 : Nat := 0
def PySem.W.Fast.tw6669258263248504208 : Nat := 0
def PySem.W.Fast.tw11317314957113597360 : Nat := 0
def PySem.W.Fast.tw2835911247687336432 : Nat := 0
def PySem.W.Fast.tw3280218277792212496 : Nat := 0
def PySem.W.Fast.tw3337419798695307824 : Nat := 0
def PySem.W.Fast.tw12866456921502314224 : Nat := 0
def PySem.W.Fast.tw15967661178917938992 : Nat := 0
def PySem.W.Fast.tw8556689382419632016 : Nat := 0
def PySem.W.Fast.tw9745314781055091729 : Nat := 0
def PySem.W.Fast.tw12278157740097798225 : Nat := 0
def PySem.W.Fast.tw3004525566423904561 : Nat := 0
def PySem.W.Fast.tw13455520781430156593 : Nat := 0
def PySem.W.Fast.tw14330074237986233873 : Nat := 0
def PySem.W.Fast.tw9232793817965137553 : Nat := 0
def PySem.W.Fast.tw15405482889076664017 : Nat := 0
def PySem.W.Fast.tw6617357901854648145 : Nat := 0
def PySem.W.Fast.tw10782152025937606481 : Nat := 0
def PySem.W.Fast.tw5825689272210923377 : Nat := 0
def PySem.W.Fast.tw12998916805446525937 : Nat := 0
def PySem.W.Fast.tw3947131545311061042 : Nat := 0
def PySem.W.Fast.tw7392233305766650002 : Nat := 0
def PySem.W.Fast.tw11497045987033796786 : Nat := 0
def PySem.W.Fast.tw18055212971730901298 : Nat := 0
def PySem.W.Fast.tw14896163108134679890 : Nat := 0
def PySem.W.Fast.tw14248678952760168978 : Nat := 0
def PySem.W.Fast.tw2180080032761438738 : Nat := 0
def PySem.W.Fast.tw10178248233665033874 : Nat := 0
def PySem.W.Fast.tw3196936203858556626 : Nat := 0
def PySem.W.Fast.tw734091262979986130 : Nat := 0
def PySem.W.Fast.tw13741368529121010610 : Nat := 0
def PySem.W.Fast.tw17932094798385484786 : Nat := 0
def PySem.W.Fast.tw6399176449144889363 : Nat := 0
def PySem.W.Fast.tw2193612461974184019 : Nat := 0
def PySem.W.Fast.tw1716529962123127027 : Nat := 0
def PySem.W.Fast.tw4216903248215484691 : Nat := 0
def PySem.W.Fast.tw16190600732286127379 : Nat := 0
def PySem.W.Fast.tw17862394019741217139 : Nat := 0
def PySem.W.Fast.tw13247832744946206099 : Nat := 0
def PySem.W.Fast.tw9974399149995303347 : Nat := 0
def PySem.W.Fast.tw14745770704915766739 : Nat := 0
def PySem.W.Fast.tw5942884129162628595 : Nat := 0
def PySem.W.Fast.tw12983059208946367987 : Nat := 0
def PySem.W.Fast.tw17746920999266941555 : Nat := 0
def PySem.W.Fast.tw1277450278263438003 : Nat := 0
def PySem.W.Fast.tw6121620129172756211 : Nat := 0
def PySem.W.Fast.tw9959564719437150099 : Nat := 0
def PySem.W.Fast.tw3731047057497050035 : Nat := 0
def PySem.W.Fast.tw943395110415384563 : Nat := 0
def PySem.W.Fast.tw963623050720110676 : Nat := 0
def PySem.W.Fast.tw7692966327878825076 : Nat := 0
def PySem.W.Fast.tw11110710846171910260 : Nat := 0
def PySem.W.Fast.tw11368104709429848244 : Nat := 0
def PySem.W.Fast.tw15021798597892947220 : Nat := 0
def PySem.W.Fast.tw1395897062450636212 : Nat := 0
def PySem.W.Fast.tw16342325715833060052 : Nat := 0
def PySem.W.Fast.tw9529702065001048820 : Nat := 0
def PySem.W.Fast.tw5959284819159128852 : Nat := 0
def PySem.W.Fast.tw16391758716718548820 : Nat := 0
def PySem.W.Fast.tw13122405007661779828 : Nat := 0
def PySem.W.Fast.tw18163109140774980564 : Nat := 0
def PySem.W.Fast.tw163893246693446741 : Nat := 0
def PySem.W.Fast.tw17739942936699650389 : Nat := 0
def PySem.W.Fast.tw4098871212061061589 : Nat := 0
def PySem.W.Fast.tw16909747976872631861 : Nat := 0
def PySem.W.Fast.tw15266678966590662357 : Nat := 0
def PySem.W.Fast.tw6453811723196466997 : Nat := 0
def PySem.W.Fast.tw3132097773996092277 : Nat := 0
def PySem.W.Fast.tw17265323304456120374 : Nat := 0
def PySem.W.Fast.tw9713635052702995734 : Nat := 0
def PySem.W.Fast.tw15011382727121592694 : Nat := 0
def PySem.W.Fast.tw5250251901291065942 : Nat := 0
def PySem.W.Fast.tw10904278349152155318 : Nat := 0
def PySem.W.Fast.tw11621373095077433014 : Nat := 0
def PySem.W.Fast.tw6010123673432144662 : Nat := 0
def PySem.W.Fast.tw13406405880488480662 : Nat := 0
def PySem.W.Fast.tw14081274032902896630 : Nat := 0
def PySem.W.Fast.tw5305590398145547254 : Nat := 0
def PySem.W.Fast.tw16754422540012820567 : Nat := 0
def PySem.W.Fast.tw5095371084988948567 : Nat := 0
def PySem.W.Fast.tw8385560409088598199 : Nat := 0
def PySem.W.Fast.tw14503132986512968951 : Nat := 0
def PySem.W.Fast.tw5142136488446503255 : Nat := 0
def PySem.W.Fast.tw11663520488482633143 : Nat := 0
def PySem.W.Fast.tw4079783885886843511 : Nat := 0
def PySem.W.Fast.tw2928379507180092151 : Nat := 0
def PySem.W.Fast.tw12990567411301357335 : Nat := 0
def PySem.W.Fast.tw2428531898212616248 : Nat := 0
def PySem.W.Fast.tw8765892942425597016 : Nat := 0
def PySem.W.Fast.tw13432693725497779288 : Nat := 0
def PySem.W.Fast.tw2438277404614329528 : Nat := 0
def PySem.W.Fast.tw14432693495280538808 : Nat := 0
def PySem.W.Fast.tw10202804528451824856 : Nat := 0
def PySem.W.Fast.tw18338772698480711896 : Nat := 0
def PySem.W.Fast.tw4001320412327179544 : Nat := 0
def PySem.W.Fast.tw8215632543111009592 : Nat := 0
def PySem.W.Fast.tw9462506465666045304 : Nat := 0
def PySem.W.Fast.tw11519514941595967928 : Nat := 0
def PySem.W.Fast.tw4173040173427406328 : Nat := 0
def PySem.W.Fast.tw17793009851338102360 : Nat := 0
def PySem.W.Fast.tw6717483662815713944 : Nat := 0
def PySem.W.Fast.tw13443831994753812120 : Nat := 0
def PySem.W.Fast.tw3172080291396537048 : Nat := 0
def PySem.W.Fast.tw10886552198459910361 : Nat := 0
def PySem.W.Fast.tw14780958490642773273 : Nat := 0
def PySem.W.Fast.tw11753193462072162681 : Nat := 0
def PySem.W.Fast.tw2324816359168678393 : Nat := 0
def PySem.W.Fast.tw2245530885574445593 : Nat := 0
def PySem.W.Fast.tw217691071324455481 : Nat := 0
def PySem.W.Fast.tw11692523297045313145 : Nat := 0
def PySem.W.Fast.tw17304842879771234169 : Nat := 0
def PySem.W.Fast.tw2916606038820057242 : Nat := 0
def PySem.W.Fast.tw496772288440866042 : Nat := 0
def PySem.W.Fast.tw3505713499665486234 : Nat := 0
def PySem.W.Fast.tw11934051687561659834 : Nat := 0
def PySem.W.Fast.tw6798812075230947930 : Nat := 0
def PySem.W.Fast.tw9326834431271877242 : Nat := 0
def PySem.W.Fast.tw11932767823643972250 : Nat := 0
def PySem.W.Fast.tw8651010944636693338 : Nat := 0
def PySem.W.Fast.tw9962460580756024314 : Nat := 0
def PySem.W.Fast.tw10857772321708560475 : Nat := 0
def PySem.W.Fast.tw16249207597605287099 : Nat := 0
def PySem.W.Fast.tw4073031889540457691 : Nat := 0
def PySem.W.Fast.tw11340092787271745787 : Nat := 0
def PySem.W.Fast.tw8606936711596601691 : Nat := 0
def PySem.W.Fast.tw9097445589289375131 : Nat := 0
def PySem.W.Fast.tw11459739800816512507 : Nat := 0
def PySem.W.Fast.tw7203036897175712315 : Nat := 0
def PySem.W.Fast.tw4370271725190172219 : Nat := 0
def PySem.W.Fast.tw9926004704287032955 : Nat := 0
def PySem.W.Fast.tw6456338662597889691 : Nat := 0
def PySem.W.Fast.tw14557553958369808123 : Nat := 0
def PySem.W.Fast.tw17348761899308462907 : Nat := 0
def PySem.W.Fast.tw14149283389855612859 : Nat := 0
def PySem.W.Fast.tw18099660574054534139 : Nat := 0
def PySem.W.Fast.tw15296146739083988060 : Nat := 0
def PySem.W.Fast.tw3694791712595671356 : Nat := 0
def PySem.W.Fast.tw5605818811299002748 : Nat := 0
def PySem.W.Fast.tw9251698050688568988 : Nat := 0
def PySem.W.Fast.tw14239745702643806908 : Nat := 0
def PySem.W.Fast.tw10314836072402910140 : Nat := 0
def PySem.W.Fast.tw14312518037141840860 : Nat := 0
def PySem.W.Fast.tw12357013457209927901 : Nat := 0
def PySem.W.Fast.tw18215274765180203261 : Nat := 0
def PySem.W.Fast.tw18153332872304676125 : Nat := 0
def PySem.W.Fast.tw13817344605062301341 : Nat := 0
def PySem.W.Fast.tw16949130419736921757 : Nat := 0
def PySem.W.Fast.tw18409982756721588989 : Nat := 0
def PySem.W.Fast.tw7273262135990003613 : Nat := 0
def PySem.W.Fast.tw519456163484318782 : Nat := 0
def PySem.W.Fast.tw8632638021629348958 : Nat := 0
def PySem.W.Fast.tw1627783421200288958 : Nat := 0
def PySem.W.Fast.tw4857583125926146366 : Nat := 0
def PySem.W.Fast.tw18030068404257804638 : Nat := 0
def PySem.W.Fast.tw7072218381222811006 : Nat := 0
def PySem.W.Fast.tw16920774053363670430 : Nat := 0
def PySem.W.Fast.tw7271770628196484574 : Nat := 0
def PySem.W.Fast.tw7033867034322872894 : Nat := 0
def PySem.W.Fast.tw10831379478829987390 : Nat := 0
def PySem.W.Fast.tw13218367461246705214 : Nat := 0
def PySem.W.Fast.tw9157684952218912350 : Nat := 0
def PySem.W.Fast.tw8004185273078174462 : Nat := 0
def PySem.W.Fast.tw14396775002891106110 : Nat := 0
def PySem.W.Fast.tw7517238727076257694 : Nat := 0
def PySem.W.Fast.tw11128669588151014302 : Nat := 0
def PySem.W.Fast.tw8796394150937693118 : Nat := 0
def PySem.W.Fast.tw13702682603915659198 : Nat := 0
def PySem.W.Fast.tw16888212092951279550 : Nat := 0
def PySem.W.Fast.tw490543062608322687 : Nat := 0
def PySem.W.Fast.tw14042498927471456447 : Nat := 0
def PySem.W.Fast.tw13801687792108601599 : Nat := 0
def PySem.W.Fast.tw6299969556868393247 : Nat := 0
def PySem.W.Fast.tw438784571573450047 : Nat := 0
def PySem.W.Fast.tw12637166426261759327 : Nat := 0
def PySem.W.Fast.tw13536140757140303231 : Nat := 0
def PySem.W.Fast.tw13045378175312332447 : Nat := 0
def PySem.W.Fast.tw7762531822752814783 : Nat := 0
def PySem.W.Fast.tw9915757362512755423 : Nat := 0
def PySem.W.Fast.tw2166480602745519935 : Nat := 0
def PySem.W.Fast.tw8983168136949562303 : Nat := 0
def PySem.W.Fast.tw15268193366923805663 : Nat := 0
def PySem.W.Fast.tw15641186911240703999 : Nat := 0
set_option maxRecDepth 100000 in
set_option maxHeartbeats 0 in
theorem PySem.Challenge.cw_modehand_k23_brackets_round_holds : PySem.Challenge.rw_modehand_k23_brackets_round.Holds := by
  w_on; o_law; k_head; (case hw => w_witness2)
  k_fill
  refine My.walk (l := PySem.Challenge.rw_modehand_k23_brackets_round) rfl rfl (fun w h Y => PySem.W.kIn_of Y) ?F
  case F =>
    intro w mg fa h KX G hmg
    refine' My.all_mk KX G hmg ?a_has_opening ?l_has_opening ?c_has_opening ?k_has_opening ?a_has_closing ?l_has_closing ?c_has_closing ?k_has_closing ?a_closing_of ?l_closing_of ?c_closing_of ?k_closing_of ?a_opening_of ?l_opening_of ?c_opening_of ?k_opening_of ?a_partner ?l_partner ?c_partner ?k_partner ?a_first_even ?l_first_even ?c_first_even ?k_first_even ?a_still_open ?l_still_open ?c_still_open ?k_still_open ?a_brackets_round ?l_brackets_round ?c_brackets_round ?k_brackets_round ?a_inside ?l_inside ?c_inside ?k_inside ?a_outside ?l_outside ?c_outside ?k_outside ?a_seen_stretch ?l_seen_stretch ?c_seen_stretch ?k_seen_stretch ?a_rows_from ?l_rows_from ?c_rows_from ?k_rows_from ?dl_stretch ?a_stretch ?l_stretch ?c_stretch ?k_stretch ?a__law_cell_at ?l__law_cell_at ?c__law_cell_at ?k__law_cell_at ?a__law_whole ?l__law_whole ?c__law_whole ?k__law_whole ?a__law_sign_by ?l__law_sign_by ?c__law_sign_by ?k__law_sign_by ?a__law_text ?l__law_text ?c__law_text ?k__law_text ?a__law_other_end ?l__law_other_end ?c__law_other_end ?k__law_other_end ?a__law_due ?l__law_due ?c__law_due ?k__law_due ?a__law_same ?l__law_same ?c__law_same ?k__law_same ?a__law_asked ?l__law_asked ?c__law_asked ?k__law_asked ?a_law ?l_law ?c_law ?k_law ?g_OPENING ?d_OPENING ?g_CLOSING ?d_CLOSING ?n_COUNT_PASSED_OVER ?z_len ?z_range ?z_isinstance ?z_int ?z_bool ?z_str ?z_tuple
    (case a_has_opening => k_is); (case l_has_opening => k_is); (case c_has_opening => k_is); (case k_has_opening => k_is)
    (case a_has_closing => k_is); (case l_has_closing => k_is); (case c_has_closing => k_is); (case k_has_closing => k_is)
    (case a_closing_of => k_is); (case l_closing_of => k_is); (case c_closing_of => k_is); (case k_closing_of => k_is)
    (case a_opening_of => k_is); (case l_opening_of => k_is); (case c_opening_of => k_is); (case k_opening_of => k_is)
    (case a_partner => k_is); (case l_partner => k_is); (case c_partner => k_is); (case k_partner => k_is)
    (case a_first_even => k_is); (case l_first_even => k_is); (case c_first_even => k_is); (case k_first_even => k_is)
    (case a_still_open => k_is); (case l_still_open => k_is); (case c_still_open => k_is); (case k_still_open => k_is)
    (case a_brackets_round => k_is); (case l_brackets_round => k_is); (case c_brackets_round => k_is); (case k_brackets_round => k_is)
    (case a_inside => k_is); (case l_inside => k_is); (case c_inside => k_is); (case k_inside => k_is)
    (case a_outside => k_is); (case l_outside => k_is); (case c_outside => k_is); (case k_outside => k_is)
    (case a_seen_stretch => k_is); (case l_seen_stretch => k_is); (case c_seen_stretch => k_is); (case k_seen_stretch => k_is)
    (case a_rows_from => k_is); (case l_rows_from => k_is); (case c_rows_from => k_is); (case k_rows_from => k_is)
    (case a_stretch => k_is); (case l_stretch => k_is); (case c_stretch => k_is); (case k_stretch => k_is); (case dl_stretch => k_is)
    (case a__law_cell_at => k_is); (case l__law_cell_at => k_is); (case c__law_cell_at => k_is); (case k__law_cell_at => k_is)
    (case a__law_whole => k_is); (case l__law_whole => k_is); (case c__law_whole => k_is); (case k__law_whole => k_is)
    (case a__law_sign_by => k_is); (case l__law_sign_by => k_is); (case c__law_sign_by => k_is); (case k__law_sign_by => k_is)
    (case a__law_text => k_is); (case l__law_text => k_is); (case c__law_text => k_is); (case k__law_text => k_is)
    (case a__law_other_end => k_is); (case l__law_other_end => k_is); (case c__law_other_end => k_is); (case k__law_other_end => k_is)
    (case a__law_due => k_is); (case l__law_due => k_is); (case c__law_due => k_is); (case k__law_due => k_is)
    (case a__law_same => k_is); (case l__law_same => k_is); (case c__law_same => k_is); (case k__law_same => k_is)
    (case a__law_asked => k_is); (case l__law_asked => k_is); (case c__law_asked => k_is); (case k__law_asked => k_is)
    (case a_law => k_is); (case l_law => k_is); (case c_law => k_is); (case k_law => k_is)
    (case g_OPENING => k_is); (case d_OPENING => k_is); (case g_CLOSING => k_is); (case d_CLOSING => k_is); (case n_COUNT_PASSED_OVER => k_is); (case z_len => k_is); (case z_range => k_is); (case z_isinstance => k_is); (case z_int => k_is); (case z_bool => k_is); (case z_str => k_is); (case z_tuple => k_is)
#print axioms PySem.Challenge.cw_modehand_k23_brackets_round_holds
