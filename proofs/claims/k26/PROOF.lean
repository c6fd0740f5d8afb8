import PyProof.Rows.All
import Wide.All
import OpenK.AllK
import Wide.FinOn
import Lean
import PyProof.EqAt
import PyProof.EqKinds
import PyProof.TupleCall
import PySem.Challenge.RW_modehand_k26_what_is_seen
-- CHANGE: your row's module here, as the last of these rows
set_option Elab.async false
set_option linter.all false
set_option maxRecDepth 100000
/-! THE HAND LAYER, for ints, bools, texts, own classes, LISTS and tuples (index, slices, in, append, pop ..), calls, loops. Paste it whole ahead of your own text; what your proof does not reach may be deleted. -/
namespace L2
open PySem PySem.Spec PyProof.Rows

abbrev Key := Sum Int Str
def keyIs : Key → Value → Bool
  | .inl k, v => Value.isInt k v
  | .inr x, v => Value.isStrOf x v
def keyH (w : World) : Key → Int
  | .inl k => hashInt k
  | .inr x => hashStr w x
theorem keyIs_shape : ∀ {k : Key} {v : Value}, keyIs k v = true → (∃ i t, k = Sum.inl i ∧ v = Value.int i t) ∨ (∃ x t, k = Sum.inr x ∧ v = Value.str x t)
  | .inl i, v, h => by
    obtain ⟨t, e⟩ := Value.isInt_shape (k := i) (v := v) h
    exact .inl ⟨i, t, rfl, e⟩
  | .inr x, v, h => by
    obtain ⟨t, e⟩ := Value.isStrOf_shape (x := x) (v := v) h
    exact .inr ⟨x, t, rfl, e⟩
theorem key_ll (a b : Int) : decide ((Sum.inl a : Key) = Sum.inl b) = (a == b) := by
  by_cases e : a = b
  · subst e; simp
  · have h : ¬ (Sum.inl a : Key) = Sum.inl b := fun q => e (Sum.inl.inj q)
    rw [decide_eq_false h]
    exact (beq_eq_false_iff_ne.mpr e).symm
theorem key_rr (a b : Str) : decide ((Sum.inr a : Key) = Sum.inr b) = decide (a = b) := by
  by_cases e : a = b
  · subst e; simp
  · have h : ¬ (Sum.inr a : Key) = Sum.inr b := fun q => e (Sum.inr.inj q)
    rw [decide_eq_false h, decide_eq_false e]
theorem key_lr (a : Int) (b : Str) : decide ((Sum.inl a : Key) = Sum.inr b) = false := decide_eq_false (fun q => nomatch q)
theorem key_rl (a : Str) (b : Int) : decide ((Sum.inr a : Key) = Sum.inl b) = false := decide_eq_false (fun q => nomatch q)

def mixKind (prog : Program) (w : World) : PySem.KeyKind prog w Key where
  is := keyIs
  hash := keyH w
  inj := fun v a b ha hb => by
    rcases keyIs_shape ha with ⟨i, t, rfl, rfl⟩ | ⟨x, t, rfl, rfl⟩
    · rcases keyIs_shape hb with ⟨j, u, rfl, e⟩ | ⟨y, u, rfl, e⟩
      · injection e with e1 _; rw [e1]
      · exact nomatch e
    · rcases keyIs_shape hb with ⟨j, u, rfl, e⟩ | ⟨y, u, rfl, e⟩
      · exact nomatch e
      · injection e with e1 _; rw [e1]
  byValue := fun k v h => by
    rcases keyIs_shape h with ⟨i, t, rfl, rfl⟩ | ⟨x, t, rfl, rfl⟩ <;> rfl
  pyHash := fun hv h => by
    rcases keyIs_shape hv with ⟨i, t, rfl, rfl⟩ | ⟨x, t, rfl, rfl⟩
    · exact wpAny_pyHash_int h
    · exact wpAny_pyHash_str h
  eqBool := fun hu hv h => by
    rcases keyIs_shape hu with ⟨i, t, rfl, rfl⟩ | ⟨x, t, rfl, rfl⟩
    · rcases keyIs_shape hv with ⟨j, u, rfl, rfl⟩ | ⟨y, u, rfl, rfl⟩
      · rw [key_ll] at h; exact wpAny_eqBool_int h
      · rw [key_lr] at h; exact SeqAt.EqAt.int_str i t y u _ _ _ _ h
    · rcases keyIs_shape hv with ⟨j, u, rfl, rfl⟩ | ⟨y, u, rfl, rfl⟩
      · rw [key_rl] at h; exact SeqAt.EqAt.str_int x t j u _ _ _ _ h
      · rw [key_rr] at h; exact wpAny_eqBool_str h
  «strs» := fun k x t v h => by
    rcases keyIs_shape h with ⟨i, u, rfl, e⟩ | ⟨y, u, rfl, e⟩
    · exact nomatch e
    · injection e with e1 _
      subst e1
      cases v <;> rfl

end L2

namespace L2
open PySem PySem.Spec PyProof.Rows

inductive V where
  | non | bl (b : Bool) | int (i : Int) | str (x : Str) | byt (b : Array UInt8) | flt (b : UInt64) | ref (a : Addr) | ty (n : String)
  deriving DecidableEq

def RelV : V → Value → Prop
  | .non, u => u = Value.none
  | .bl b, u => u = Value.bool b
  | .int i, u => ∃ t, u = Value.int i t
  | .str x, u => ∃ t, u = Value.str x t
  | .byt b, u => ∃ t, u = Value.bytes b t
  | .flt b, u => ∃ t, u = Value.float b t
  | .ref a, u => u = Value.ref a
  | .ty n, u => u = Value.type n

abbrev Vals : List V → List Value → Prop := Paired RelV
theorem Vals.length {xs : List V} {us : List Value} (r : Vals xs us) : xs.length = us.length := Paired.length r
theorem Vals.get : ∀ {xs : List V} {us : List Value} {i : Nat} {x : V}, Vals xs us → xs[i]? = some x → ∃ u, us[i]? = some u ∧ RelV x u
  | _, _, _, _, .nil, e => by simp at e
  | _, _, 0, _, .cons r _, e => by simp at e; subst e; exact ⟨_, rfl, r⟩
  | _, _, i + 1, x, .cons _ t, e => by
    obtain ⟨u, h1, h2⟩ := Vals.get (i := i) (x := x) t (by simpa using e)
    exact ⟨u, by simpa using h1, h2⟩
theorem Vals.append : ∀ {xs ys : List V} {us ws : List Value}, Vals xs us → Vals ys ws → Vals (xs ++ ys) (us ++ ws)
  | _, _, _, _, .nil, s => s
  | _, _, _, _, .cons r t, s => .cons r (Vals.append t s)
theorem Vals.take : ∀ {xs : List V} {us : List Value} (n : Nat), Vals xs us → Vals (xs.take n) (us.take n)
  | _, _, 0, _ => .nil
  | _, _, _ + 1, .nil => .nil
  | _, _, n + 1, .cons r t => .cons r (Vals.take n t)
theorem Vals.drop : ∀ {xs : List V} {us : List Value} (n : Nat), Vals xs us → Vals (xs.drop n) (us.drop n)
  | _, _, 0, r => r
  | _, _, _ + 1, .nil => .nil
  | _, _, n + 1, .cons _ t => Vals.drop n t
def RelO : Option V → Option Value → Prop
  | some v, some u => RelV v u
  | none, none => True
  | _, _ => False
def KV {κ : Type} : List (κ × V) → List (κ × Value) → Prop := Paired fun (p : κ × V) (q : κ × Value) => p.1 = q.1 ∧ RelV p.2 q.2

def kV : Key → V
  | .inl i => .int i
  | .inr x => .str x

inductive HO where
  /-- a list -/
  | lst (xs : List V)
  /-- a tuple (never changes) -/
  | tup (xs : List V)
  /-- a dict whose keys are ints and texts; one whose keys are tuples of ints and texts (the empty one is both) -/
  | dK (kvs : List (Key × V)) | dT (kvs : List (List Key × V))
  /-- a set of ints: its members, its size -/
  | set (S : Int → Bool) (n : Nat)
  /-- an instance of the class at C, its dict at dx, its attributes -/
  | ins (C dx : Addr) (fs : List (Str × V))
  /-- the dict of the instance at x -/
  | own (x : Addr)
  /-- the dict of an exception -/
  | xd (fs : List (Str × V))
  /-- a bound method, f of x -/
  | met (f x : Addr)
  /-- a range object lo, lo + 1, .. below hi -/
  | rng (lo hi : Int)
  /-- a thing that is known to the object (the script; a dict while a loop walks it): read, never written while it is so -/
  | frz (o : Obj) (u : HO)
  /-- a code object's table -/
  | tbl (ps : Array Value)
  /-- any other thing, by what is true of its one object (a def of one's own: SetO a S n := HO.ext fun h => ..) -/
  | ext (φ : Heap → Prop)

abbrev Hp := Addr → Option HO
def upd (H : Hp) (a : Addr) (o : HO) : Hp := fun b => if b = a then some o else H b
theorem upd_same {H : Hp} {a : Addr} {o : HO} : upd H a o a = some o := by unfold upd; rw [if_pos rfl]
theorem upd_ne {H : Hp} {a b : Addr} {o : HO} (h : b ≠ a) : upd H a o b = H b := by unfold upd; rw [if_neg h]
theorem ne_of_none {H : Hp} {a b : Addr} {o : HO} (h : H a = some o) (h' : H b = none) : a ≠ b := by
  intro e; subst e; rw [h] at h'; cases h'

section
variable (P : Program) (w : World)
def ObjOk (H : Hp) (h : Heap) (a : Addr) : HO → Prop
  | .lst xs => xs.length ≤ sizeLine ∧ ∃ (its : List Value) (n : Nat), Vals xs its ∧ h.get? a = some { cls := .type "list", data := .seq its.toArray n }
  | .tup xs => xs.length ≤ sizeLine ∧ ∃ its : List Value, Vals xs its ∧ IsTup h a its.toArray
  | .dK kvs => kvs.length ≤ sizeLine ∧ (a == sysModules) = false ∧ ∃ vs, KV kvs vs ∧ h.DictOf (mixKind P w) a vs
  | .dT kvs => kvs.length ≤ sizeLine ∧ (a == sysModules) = false ∧ ∃ xs : List (List Key × Addr × Value),
      Paired (fun (p : List Key × V) (q : List Key × Addr × Value) => p.1 = q.1 ∧ H q.2.1 = some (.tup (p.1.map kV)) ∧ RelV p.2 q.2.2) kvs xs ∧
      ∃ o es ep, h.get? a = some o ∧ o.ExactDict ∧ o.data = .dict es ep ∧ es.toList = xs.map (entryOfKey (tupleKind (mixKind P w))) ∧ (xs.map (·.1)).Nodup
  | .set S n => h.SetOf (intKind P w) a S n
  | .ins C dx fs => H dx = some (.own a) ∧ fs.length ≤ 1000 ∧ dx ≠ a ∧ h.get? a = some (PySem.W.instObj C dx) ∧
      ∃ mA, h.Ns1 dx mA ∧ (∀ f, RelO (fs.lookup f) (mA f)) ∧ PySem.Within mA (fs.map (·.1))
  | .own _ => ∃ o, h.get? a = some o
  | .xd fs => ∃ mA, h.Ns1 a mA ∧ ∀ f, RelO (fs.lookup f) (mA f)
  | .rng lo hi => ∃ t u v, h.get? a = some { cls := .type "range", data := .fields #[.int lo t, .int hi u, .int 1 v] }
  | .frz o u => h.get? a = some o ∧ ObjOk H h a u
  | .tbl ps => h.get? a = some { cls := .none, data := .fields ps }
  | .met f x => h.get? a = some (PySem.W.methodObj (.ref f) (.ref x))
  | .ext φ => φ h ∧ (∃ o, h.get? a = some o) ∧ ∀ h1 h2 : Heap, φ h1 → (∀ o, h1.get? a = some o → h2.get? a = some o) → φ h2
def HOk (H : Hp) (h : Heap) : Prop := ∀ a o, H a = some o → ObjOk P w H h a o
end

section
variable {P : Program} {w : World} {H H' : Hp} {h h' : Heap} {a : Addr} {o : HO}
theorem ObjOk.lt (x : ObjOk P w H h a o) : a < h.objs.size := by
  cases o with
  | lst xs => obtain ⟨_, _, _, _, e⟩ := x; exact Heap.lt_size e
  | tup xs => obtain ⟨_, _, _, p⟩ := x; exact p.lt
  | dK kvs => obtain ⟨_, _, _, _, o, _, _, e, _⟩ := x; exact Heap.lt_size e
  | dT kvs => obtain ⟨_, _, _, _, o, _, _, e, _⟩ := x; exact Heap.lt_size e
  | set S n => obtain ⟨o, _, _, _, e, _⟩ := x; exact Heap.lt_size e
  | ins C dx fs => obtain ⟨_, _, _, e, _⟩ := x; exact Heap.lt_size e
  | own y => obtain ⟨_, e⟩ := x; exact Heap.lt_size e
  | xd fs => obtain ⟨_, ⟨_, _, _, e, _⟩, _⟩ := x; exact Heap.lt_size e
  | rng lo hi => obtain ⟨_, _, _, e⟩ := x; exact Heap.lt_size e
  | frz ob u => obtain ⟨e, _⟩ := x; exact Heap.lt_size e
  | tbl ps => exact Heap.lt_size (show h.get? a = some _ from x)
  | met f y => exact Heap.lt_size (show h.get? a = some _ from x)
  | ext φ => obtain ⟨_, ⟨_, e⟩, _⟩ := x; exact Heap.lt_size e
theorem Paired.mapP {α β : Type} {F G : α → β → Prop} : ∀ {l₁ : List α} {l₂ : List β}, Paired F l₁ l₂ → (∀ a b, F a b → G a b) → Paired G l₁ l₂
  | _, _, .nil, _ => .nil
  | _, _, .cons r t, f => .cons (f _ _ r) (Paired.mapP t f)
theorem ObjOk.stay (x : ObjOk P w H h a o) (k : ∀ b u, (b = a ∨ H b = some (.own a)) → h.get? b = some u → h'.get? b = some u)
    (ho : ∀ b, H b = some (.own a) → H' b = some (.own a)) (ht : ∀ b xs, H b = some (.tup xs) → H' b = some (.tup xs)) : ObjOk P w H' h' a o := by
  induction o with
  | lst xs => obtain ⟨z, its, n, r, e⟩ := x; exact ⟨z, its, n, r, k _ _ (.inl rfl) e⟩
  | tup xs => obtain ⟨z, its, r, ob, e, c⟩ := x; exact ⟨z, its, r, ob, k _ _ (.inl rfl) e, c⟩
  | dK kvs => obtain ⟨z, y, vs, r, ob, es, ep, e, c⟩ := x; exact ⟨z, y, vs, r, ob, es, ep, k _ _ (.inl rfl) e, c⟩
  | dT kvs =>
    obtain ⟨z, y, xs, r, ob, es, ep, e, c⟩ := x
    exact ⟨z, y, xs, Paired.mapP r fun p q z => ⟨z.1, ht _ _ z.2.1, z.2.2⟩, ob, es, ep, k _ _ (.inl rfl) e, c⟩
  | set S n => obtain ⟨ob, es, ep, t, e, c⟩ := x; exact ⟨ob, es, ep, t, k _ _ (.inl rfl) e, c⟩
  | ins C dx fs =>
    obtain ⟨d, z, ne, e, mA, ⟨od, es, ep, e2, c⟩, r⟩ := x
    exact ⟨ho _ d, z, ne, k _ _ (.inl rfl) e, mA, ⟨od, es, ep, k _ _ (.inr d) e2, c⟩, r⟩
  | own y => obtain ⟨ob, e⟩ := x; exact ⟨ob, k _ _ (.inl rfl) e⟩
  | xd fs => obtain ⟨mA, ⟨od, es, ep, e, c⟩, r⟩ := x; exact ⟨mA, ⟨od, es, ep, k _ _ (.inl rfl) e, c⟩, r⟩
  | rng lo hi => obtain ⟨t, u, v, e⟩ := x; exact ⟨t, u, v, k _ _ (.inl rfl) e⟩
  | frz ob u ih => obtain ⟨e, q⟩ := x; exact ⟨k _ _ (.inl rfl) e, ih q⟩
  | tbl ps =>
    have e : h.get? a = some { cls := .none, data := .fields ps } := x
    show h'.get? a = some { cls := .none, data := .fields ps }
    exact k a _ (.inl rfl) e
  | met f y =>
    have e : h.get? a = some (PySem.W.methodObj (.ref f) (.ref y)) := x
    show h'.get? a = some (PySem.W.methodObj (.ref f) (.ref y))
    exact k a _ (.inl rfl) e
  | ext φ => obtain ⟨p, ⟨o, e⟩, st⟩ := x; exact ⟨st _ _ p fun o q => k _ _ (.inl rfl) q, ⟨o, k _ _ (.inl rfl) e⟩, st⟩
theorem HOk.lt (x : HOk P w H h) (e : H a = some o) : a < h.objs.size := (x a o e).lt
theorem HOk.fresh (x : HOk P w H h) (e : h.objs.size ≤ a) : H a = none := by
  cases q : H a with
  | none => rfl
  | some u => exact absurd (Nat.lt_of_lt_of_le (x.lt q) e) (Nat.lt_irrefl _)
theorem HOk.kept (x : HOk P w H h) (k : ∀ b u, h.get? b = some u → h'.get? b = some u) : HOk P w H h' := fun a o e =>
  (x a o e).stay (fun b u _ q => k b u q) (fun _ q => q) fun _ _ q => q
theorem HOk.laid (x : HOk P w H h) (k : ∀ b u, h.get? b = some u → h'.get? b = some u) (hp : h.objs.size ≤ a) (new : ObjOk P w (upd H a o) h' a o) : HOk P w (upd H a o) h' := fun b u e => by
  have hn := x.fresh hp
  by_cases hb : b = a
  · subst hb; rw [upd_same] at e; cases e; exact new
  · rw [upd_ne hb] at e
    exact (x b u e).stay (fun c v _ q => k c v q) (fun c q => by rw [upd_ne (ne_of_none q hn)]; exact q) fun c xs q => by rw [upd_ne (ne_of_none q hn)]; exact q
end

def Rd (H : Hp) (a : Addr) (u : HO) : Prop := H a = some u ∨ ∃ o, H a = some (.frz o u)
theorem Rd.ok {P : Program} {w : World} {H : Hp} {h : Heap} {a : Addr} {u : HO} (r : Rd H a u) (x : HOk P w H h) : ObjOk P w H h a u := by
  rcases r with r | ⟨o, r⟩
  · exact x a u r
  · obtain ⟨_, q⟩ := x a _ r
    exact q
def Mut : Option HO → Prop
  | some (.lst _) => True
  | some (.dK _) => True
  | some (.dT _) => True
  | some (.set _ _) => True
  | some (.ins _ _ _) => True
  | some (.ext _) => True
  | _ => False
section
variable {P : Program} {w : World} {H : Hp} {h h' : Heap} {x e : Addr} {o' : HO}
theorem HOk.write (ok : HOk P w H h) (mu : Mut (H x)) (he : e = x ∨ H e = some (.own x)) (k : ∀ b u, b ≠ e → h.get? b = some u → h'.get? b = some u) (heo : ∃ u, h'.get? e = some u)
    (new : ObjOk P w (upd H x o') h' x o') : HOk P w (upd H x o') h' := fun b u q => by
  have nown : ∀ c y, H c = some (.own y) → c ≠ x := fun c y r z => by subst z; rw [r] at mu; exact mu
  have ntup : ∀ c xs, H c = some (.tup xs) → c ≠ x := fun c xs r z => by subst z; rw [r] at mu; exact mu
  by_cases hb : b = x
  · subst hb; rw [upd_same] at q; cases q; exact new
  · rw [upd_ne hb] at q
    by_cases hbe : b = e
    · have q' : H b = some (.own x) := by
        rcases he with z | z
        · exact absurd (hbe.trans z) hb
        · rw [hbe]; exact z
      rw [q] at q'; cases q'
      obtain ⟨v, hv⟩ := heo
      exact ⟨v, by rw [hbe]; exact hv⟩
    · refine (ok b u q).stay (fun c v hc r => k c v ?_ r) (fun c r => by rw [upd_ne (nown c b r)]; exact r) fun c xs r => by rw [upd_ne (ntup c xs r)]; exact r
      rcases hc with rfl | hc
      · exact hbe
      · rintro rfl
        rcases he with z | z
        · exact nown c b hc z
        · rw [hc] at z; cases z; exact hb rfl
end

/-! ### kept unless tracked; of the frames at fs (the callers') the slots may change (an exception that passes writes there); of the records at ex (iterators) nothing is said -/
structure Un (fs ex : List Addr) (H H' : Hp) (h h' : Heap) : Prop where
  keep : ∀ b o, h.get? b = some o → H b = none → b ∉ fs → b ∉ ex → h'.get? b = some o
  slot : ∀ b o, h.get? b = some o → H b = none → b ∈ fs → b ∉ ex → ∃ sl, h'.get? b = some { o with slots := sl }
  free : ∀ b o, h.get? b = some o → H b = none → b ∉ ex → H' b = none
  there : ∀ b o, h.get? b = some o → b ∉ ex → ∃ o', h'.get? b = some o'
  tups : ∀ b xs, H b = some (.tup xs) → H' b = some (.tup xs)
  frzs : ∀ b o u, H b = some (.frz o u) → H' b = some (.frz o u)
  tbls : ∀ b ps, H b = some (.tbl ps) → ∃ more, H' b = some (.tbl (ps ++ more))
section
variable {fs fs' ex ex' : List Addr} {H H1 H2 : Hp} {h h1 h2 h' : Heap} {a x e : Addr} {o : HO}
theorem Un.any (u : Un fs ex H H1 h h1) {b : Addr} {ob : Obj} (q : h.get? b = some ob) (n : H b = none) (hx : b ∉ ex) : ∃ sl, h1.get? b = some { ob with slots := sl } := by
  by_cases hb : b ∈ fs
  · exact u.slot b ob q n hb hx
  · exact ⟨ob.slots, u.keep b ob q n hb hx⟩
theorem Un.kept (k : ∀ b u, h.get? b = some u → h'.get? b = some u) : Un fs ex H H h h' :=
  ⟨fun b ob q _ _ _ => k b ob q, fun b ob q _ _ _ => ⟨ob.slots, k b ob q⟩, fun _ _ _ n _ => n, fun b ob q _ => ⟨ob, k b ob q⟩, fun _ _ q => q, fun _ _ _ q => q, fun _ ps q => ⟨#[], by rw [q]; simp⟩⟩
theorem Un.refl : Un fs ex H H h h := Un.kept fun _ _ q => q
theorem Un.laid (k : ∀ b u, h.get? b = some u → h'.get? b = some u) (hp : h.objs.size ≤ a) (hn : H a = none) : Un fs ex H (upd H a o) h h' where
  keep := fun b u q _ _ _ => k b u q
  slot := fun b u q _ _ _ => ⟨u.slots, k b u q⟩
  free := fun b u q n _ => by rw [upd_ne (Nat.ne_of_lt (Nat.lt_of_lt_of_le (Heap.lt_size q) hp))]; exact n
  there := fun b u q _ => ⟨u, k b u q⟩
  tups := fun b xs q => by rw [upd_ne (ne_of_none q hn)]; exact q
  frzs := fun b u xs q => by rw [upd_ne (ne_of_none q hn)]; exact q
  tbls := fun b ps q => ⟨#[], by rw [upd_ne (ne_of_none q hn), q]; simp⟩
theorem Un.write (mu : Mut (H x)) (he : e = x ∨ H e = some (.own x)) (k : ∀ b u, b ≠ e → h.get? b = some u → h'.get? b = some u) (heo : ∃ u, h'.get? e = some u) : Un fs ex H (upd H x o) h h' := by
  have hx : ∀ b, H b = none → b ≠ x := fun b n z => by subst z; rw [n] at mu; exact mu
  have hb : ∀ b, H b = none → b ≠ e := fun b n z => by
    subst z
    rcases he with r | r
    · exact hx b n r
    · rw [n] at r; cases r
  have hm : ∀ b u, H b = some u → ¬ Mut (some u) → b ≠ x := fun b u q nm z => by subst z; rw [q] at mu; exact nm mu
  refine ⟨fun b u q n _ _ => k b u (hb b n) q, fun b u q n _ _ => ⟨u.slots, k b u (hb b n) q⟩, fun b u q n _ => by rw [upd_ne (hx b n)]; exact n, fun b u q _ => ?_,
    fun b xs q => by rw [upd_ne (hm b _ q fun z => z)]; exact q, fun b u xs q => by rw [upd_ne (hm b _ q fun z => z)]; exact q, fun b ps q => ⟨#[], by rw [upd_ne (hm b _ q fun z => z), q]; simp⟩⟩
  by_cases hbe : b = e
  · subst hbe; exact heo
  · exact ⟨u, k b u hbe q⟩
end

/-! ### the heap without what is tracked -/
def trk (h : Heap) (H : Hp) : List Addr := (List.range h.objs.size).filter fun a => (H a).isSome
def hidT (h : Heap) (H : Hp) : Heap := PySem.W.hideAll h (trk h H)
theorem hidT_size (h : Heap) (H : Hp) : (hidT h H).objs.size = h.objs.size := PySem.W.hideAll_size _ _
theorem hidT_get {h : Heap} {H : Hp} {b : Addr} {o : Obj} (e : h.get? b = some o) (n : H b = none) : (hidT h H).get? b = some o :=
  PySem.W.hideAll_get _ e fun hm => by
    have q : (H b).isSome = true := (List.mem_filter.mp hm).2
    rw [n] at q; simp at q
theorem of_hidT {h : Heap} {H : Hp} {b : Addr} {o : Obj} (e : (hidT h H).get? b = some o) : h.get? b = some o ∧ H b = none := by
  have e' : h.get? b = some o := PySem.W.of_hideAll (trk h H) e
  refine ⟨e', ?_⟩
  cases q : H b with
  | none => rfl
  | some x =>
    have hm : b ∈ trk h H := List.mem_filter.mpr ⟨List.mem_range.mpr (Heap.lt_size e'), by simp [q]⟩
    have z : (hidT h H).get? b = none := PySem.W.hideAll_none (trk h H) hm
    rw [z] at e; cases e

/-! ### OpenK's ledger, filled with every new object but one -/
end L2

namespace L2
open PySem PySem.Spec PyProof.Rows

structure Mod (K : PySem.W.Frag) (mg : Str → Option Value) (base : Heap) : Prop where
  kin : K.In base
  glob : base.Ns mainGlobals mg
  blt : ∃ mb, base.Ns builtinsNs mb ∧ ∀ x : Str, x ≠ "__name__" → mb x = bootBuiltins x
  nolimit : base.NoLimit

structure Cx where
  prog : Program
  w : World
  K : PySem.W.Frag
  mg : Str → Option Value
  base : Heap
  A : Around
  N : List Str
  s₀ : Shared
  H₀ : Hp
  env : Env
  outer : List Env
  stack : List Env
  ex : List Addr
  fn : Str → Bool
  calm : Bool
  pn : List (Addr × Obj)
  xe : Value → Shared → Prop
def frs (l : List Env) : List Addr := l.filterMap (·.frame)
abbrev Cx.fs (X : Cx) : List Addr := frs X.outer

def Vis (sc : Scope) (x : Str) : Prop := sc.names.lookup x = some .local ∨ sc.names.lookup x = some .cell ∨ sc.names.lookup x = some .free
def Loc (sc : Scope) (x : Str) : Prop := sc.names.lookup x = some .local ∨ sc.names.lookup x = some .cell
def Look (env : Env) (h : Heap) (m : Str → Option Value) (x : Str) (u : Value) : Prop :=
  (env.kindOf x = some .local ∧ m x = some u) ∨ ((env.kindOf x = some .cell ∨ env.kindOf x = some .free) ∧ ∃ c, env.cells.lookup x = some c ∧ h.IsCell c (some u))

structure Cx.Ok (X : Cx) : Prop where
  mod : Mod X.K X.mg X.base
  kind : X.env.scope.kind = .function
  glob : X.env.globals = mainGlobals
  blt : X.env.builtins = builtinsNs
  above : X.s₀.heap.objs.size ≤ X.env.locals
  inj : ∀ x y c, X.env.cells.lookup x = some c → X.env.cells.lookup y = some c → x = y
  has : ∀ x, (X.env.kindOf x = some .cell ∨ X.env.kindOf x = some .free) → ∃ c, X.env.cells.lookup x = some c
  cab : ∀ x c, X.fn x = true → X.env.cells.lookup x = some c → X.s₀.heap.objs.size ≤ c
  hd : X.calm = true → X.A.handled = none
  frames : X.A.frames = some X.stack
  stk : X.stack = X.outer ∨ (X.stack = X.env :: X.outer ∧ X.env.frame = some X.env.locals)
  exf : ∀ b ∈ X.ex, b ≠ X.env.locals ∧ ∀ x c, X.env.cells.lookup x = some c → c ≠ b
  bs : ∀ b o, X.base.get? b = some o → X.s₀.heap.get? b = some o ∧ X.H₀ b = none
  bsz : X.base.objs.size ≤ X.s₀.heap.objs.size
  noex : ∀ b o, X.base.get? b = some o → b ∉ X.ex
  exfs : ∀ b ∈ X.ex, b ∉ X.fs
  funs : X.s₀.heap.FunFrames X.base X.outer
  frf : ∀ b ∈ X.fs, X.H₀ b = none

structure Inv (X : Cx) (pins : List (Addr × Obj)) (σ : List (Option V)) (H : Hp) (s : Shared) : Prop where
  ok : X.Ok
  os : s.os = X.s₀.os
  bare : AllBare s.gens
  base : Un X.fs X.ex X.H₀ H X.s₀.heap s.heap
  loc : ∃ m, s.heap.Ns X.env.locals m ∧ ∀ (i : Nat) (x : Str) (v : V), X.N[i]? = some x → σ[i]? = some (some v) → Vis X.env.scope x → ∃ u, RelV v u ∧ Look X.env s.heap m x u
  cell : ∀ x c, X.env.cells.lookup x = some c → ∃ v, s.heap.IsCell c v
  free : H X.env.locals = none
  freeC : ∀ x c, X.env.cells.lookup x = some c → H c = none
  pin : ∀ p ∈ X.pn ++ pins, s.heap.get? p.1 = some p.2 ∧ H p.1 = none ∧ p.1 ≠ X.env.locals ∧ p.1 ∉ X.fs ∧ ∀ v, p.2.data ≠ .cell v
  hok : HOk X.prog X.w H s.heap
  len : σ.length = X.N.length

section
variable {X : Cx} {pins : List (Addr × Obj)} {σ : List (Option V)} {H H' : Hp} {s : Shared} {h' : Heap}

theorem Cx.Ok.nofr (ok : X.Ok) {b : Addr} {o : Obj} (e : X.base.get? b = some o) : b ∉ X.fs := fun hb => by
  have := (ok.funs.mem hb).1
  rw [e] at this; cases this
theorem Inv.bs (I : Inv X pins σ H s) : ∀ b o, X.base.get? b = some o → s.heap.get? b = some o ∧ H b = none := fun b o e =>
  ⟨I.base.keep b o (I.ok.bs b o e).1 (I.ok.bs b o e).2 (I.ok.nofr e) (I.ok.noex b o e), I.base.free b o (I.ok.bs b o e).1 (I.ok.bs b o e).2 (I.ok.noex b o e)⟩
theorem Inv.bk (I : Inv X pins σ H s) : ∀ b o, X.base.get? b = some o → s.heap.get? b = some o := fun b o e => (I.bs b o e).1
theorem Inv.mod (I : Inv X pins σ H s) : Mod X.K X.mg X.base := I.ok.mod
theorem Inv.kIn (I : Inv X pins σ H s) : X.K.In s.heap := I.ok.mod.kin.keeps I.bk
theorem Inv.lt (I : Inv X pins σ H s) : X.env.locals < s.heap.objs.size := let ⟨_, hn, _⟩ := I.loc; hn.lt
theorem Inv.sz (I : Inv X pins σ H s) : X.s₀.heap.objs.size ≤ s.heap.objs.size := Nat.le_trans I.ok.above (Nat.le_of_lt I.lt)
theorem Inv.nofs (I : Inv X pins σ H s) {a : Addr} (h : s.heap.objs.size ≤ a) : a ∉ X.fs := fun hb => by
  obtain ⟨_, o, ho, _⟩ := I.ok.funs.mem hb
  exact absurd (Nat.lt_of_lt_of_le (Heap.lt_size ho) (Nat.le_trans I.sz h)) (Nat.lt_irrefl _)
theorem Inv.cne (I : Inv X pins σ H s) : ∀ x c, X.env.cells.lookup x = some c → c ≠ X.env.locals := fun x c e z => by
  obtain ⟨v, o, ho, hd⟩ := I.cell x c e
  obtain ⟨m, ⟨o', es, ep, ho', hd', _⟩, _⟩ := I.loc
  rw [z, ho'] at ho; cases ho; rw [hd'] at hd; cases hd
theorem Inv.funs (I : Inv X pins σ H s) : s.heap.FunFrames X.base X.outer := by
  have all : ∀ (l : List Env), (∀ b ∈ frs l, b ∈ X.fs) → X.s₀.heap.FunFrames X.base l → s.heap.FunFrames X.base l := by
    intro l
    induction l with
    | nil => intro _ _; trivial
    | cons env r ih =>
      intro hs hl
      obtain ⟨hk, ⟨L, o, hf, hn, ho, hd⟩, hr⟩ := hl
      have hL : L ∈ X.fs := hs L (by unfold frs; rw [List.filterMap_cons, hf]; exact List.mem_cons_self)
      obtain ⟨sl, e⟩ := I.base.slot L o ho (I.ok.frf L hL) hL fun z => I.ok.exfs L z hL
      exact ⟨hk, ⟨L, _, hf, hn, e, hd⟩, ih (fun b hb => hs b (by unfold frs; rw [List.filterMap_cons, hf]; exact List.mem_cons_of_mem _ hb)) hr⟩
  exact all X.outer (fun _ hb => hb) I.ok.funs

theorem Inv.stack (I : Inv X pins σ H s) : s.heap.FunFrames X.base X.stack := by
  rcases I.ok.stk with e | ⟨e, hf⟩
  · rw [e]; exact I.funs
  · rw [e]
    obtain ⟨m, hn, _⟩ := I.loc
    refine .cons (by rw [I.ok.kind]; decide) hf hn ?_ I.funs
    exact Heap.get?_none_of_le (Nat.le_trans I.ok.bsz I.ok.above)
theorem Inv.stkSub (I : Inv X pins σ H s) : ∀ b ∈ frs X.stack, b ∈ X.env.locals :: X.fs := fun b hb => by
  rcases I.ok.stk with e | ⟨e, hf⟩
  · rw [e] at hb; exact List.mem_cons_of_mem _ hb
  · rw [e] at hb
    unfold frs at hb
    rw [List.filterMap_cons, hf] at hb
    exact hb
theorem Inv.stkFree (I : Inv X pins σ H s) : ∀ b ∈ frs X.stack, H b = none := fun b hb => by
  rcases List.mem_cons.mp (I.stkSub b hb) with e | hb
  · rw [e]; exact I.free
  · obtain ⟨_, o, ho, _⟩ := I.ok.funs.mem hb
    exact I.base.free b o ho (I.ok.frf b hb) fun z => I.ok.exfs b z hb

theorem Inv.step {g' : Array GenState} {t' : Nat} {d' : Drawn} {ch : List Addr} (I : Inv X pins σ H s)
    (hch : ∀ b ∈ ch, (b ∈ X.ex ∨ X.s₀.heap.objs.size ≤ b) ∧ b ≠ X.env.locals ∧ (∀ x c, X.env.cells.lookup x = some c → c ≠ b) ∧ ∀ p ∈ X.pn ++ pins, p.1 ≠ b)
    (keep : ∀ b o, b ≠ X.env.locals → b ∉ X.fs → b ∉ ch → s.heap.get? b = some o → H b = none → h'.get? b = some o)
    (slot : ∀ b o, b ≠ X.env.locals → b ∈ X.fs → b ∉ ch → s.heap.get? b = some o → H b = none → ∃ sl, h'.get? b = some { o with slots := sl }) (free : ∀ b o, b ∉ ch → s.heap.get? b = some o → H b = none → H' b = none)
    (there : ∀ b o, b ∉ ch → s.heap.get? b = some o → ∃ o', h'.get? b = some o')
    (tups : ∀ b xs, H b = some (.tup xs) → H' b = some (.tup xs)) (frzs : ∀ b o u, H b = some (.frz o u) → H' b = some (.frz o u)) (tbls : ∀ b ps, H b = some (.tbl ps) → ∃ more, H' b = some (.tbl (ps ++ more)))
    (ns : ∀ m, s.heap.Ns X.env.locals m → h'.Ns X.env.locals m) (hok : HOk X.prog X.w H' h') (hg : AllBare g') :
    Inv X pins σ H' { s with heap := h', gens := g', drawn := d', toks := t' } := by
  have neL : ∀ b o, X.s₀.heap.get? b = some o → b ≠ X.env.locals := fun b o e => Nat.ne_of_lt (Nat.lt_of_lt_of_le (Heap.lt_size e) I.ok.above)
  have neC : ∀ b o, X.s₀.heap.get? b = some o → b ∉ X.ex → b ∉ ch := fun b o e hx hb => by
    rcases (hch b hb).1 with z | z
    · exact hx z
    · exact absurd (Nat.lt_of_lt_of_le (Heap.lt_size e) z) (Nat.lt_irrefl _)
  have cellK : ∀ x c, X.env.cells.lookup x = some c → ∀ v, s.heap.IsCell c v → h'.IsCell c v := fun x c e v ⟨o, ho, hd⟩ => by
    have nch : c ∉ ch := fun z => (hch c z).2.2.1 x c e rfl
    by_cases hc : c ∈ X.fs
    · obtain ⟨sl, q⟩ := slot c o (I.cne x c e) hc nch ho (I.freeC x c e)
      exact ⟨_, q, hd⟩
    · exact ⟨o, keep c o (I.cne x c e) hc nch ho (I.freeC x c e), hd⟩
  refine ⟨I.ok, I.os, hg, ⟨fun b o e n hb hx => ?_, fun b o e n hb hx => ?_, fun b o e n hx => ?_, fun b o e hx => ?_, fun b xs e => tups b xs (I.base.tups b xs e), fun b o xs e => frzs b o xs (I.base.frzs b o xs e), fun b ps e => ?_⟩, ?_, fun x c e => ?_, ?_, fun x c e => ?_, fun p hp => ?_, hok, I.len⟩
  · exact keep b o (neL b o e) hb (neC b o e hx) (I.base.keep b o e n hb hx) (I.base.free b o e n hx)
  · obtain ⟨sl, e1⟩ := I.base.slot b o e n hb hx
    obtain ⟨sl', e2⟩ := slot b _ (neL b o e) hb (neC b o e hx) e1 (I.base.free b o e n hx)
    exact ⟨sl', e2⟩
  · obtain ⟨o', e1⟩ := I.base.there b o e hx
    exact free b o' (neC b o e hx) e1 (I.base.free b o e n hx)
  · obtain ⟨o', e1⟩ := I.base.there b o e hx
    exact there b o' (neC b o e hx) e1
  · obtain ⟨m1, e1⟩ := I.base.tbls b ps e
    obtain ⟨m2, e2⟩ := tbls b _ e1
    exact ⟨m1 ++ m2, by rw [e2, Array.append_assoc]⟩
  · obtain ⟨m, hn, hl⟩ := I.loc
    refine ⟨m, ns m hn, fun i x v e1 e2 e3 => ?_⟩
    obtain ⟨u, r, l⟩ := hl i x v e1 e2 e3
    refine ⟨u, r, ?_⟩
    rcases l with l | ⟨k, c, e, z⟩
    · exact .inl l
    · exact .inr ⟨k, c, e, cellK x c e _ z⟩
  · obtain ⟨v, z⟩ := I.cell x c e
    exact ⟨v, cellK x c e v z⟩
  · obtain ⟨m, ⟨o, _, _, ho, _⟩, _⟩ := I.loc
    exact free _ o (fun z => (hch _ z).2.1 rfl) ho I.free
  · obtain ⟨v, o, ho, hd⟩ := I.cell x c e
    exact free c o (fun z => (hch c z).2.2.1 x c e rfl) ho (I.freeC x c e)
  · obtain ⟨e, n, ne, nf, d⟩ := I.pin p hp
    have nch : p.1 ∉ ch := fun z => (hch p.1 z).2.2.2 p hp rfl
    exact ⟨keep p.1 p.2 ne nf nch e n, free p.1 p.2 nch e n, ne, nf, d⟩
theorem Inv.un {t' : Nat} (I : Inv X pins σ H s) (u : Un X.fs [] H H' s.heap h') (hok : HOk X.prog X.w H' h') : Inv X pins σ H' { s with heap := h', toks := t' } := by
  obtain ⟨m, ⟨o, es, ep, ho, r⟩, _⟩ := id I.loc
  obtain ⟨sl, hL⟩ := u.any ho I.free (by simp)
  exact I.step (g' := s.gens) (d' := s.drawn) (ch := []) (fun _ z => nomatch z) (fun b o _ hb _ e n => u.keep b o e n hb (by simp)) (fun b o _ hb _ e n => u.slot b o e n hb (by simp)) (fun b o _ e n => u.free b o e n (by simp)) (fun b o _ e => u.there b o e (by simp)) u.tups u.frzs u.tbls (fun m' hm => by
    obtain ⟨o', es', ep', ho', r'⟩ := hm
    rw [ho] at ho'; cases ho'
    exact ⟨_, es', ep', hL, r'⟩) hok I.bare
theorem Inv.call {g' : Array GenState} {t' : Nat} {d' : Drawn} {ch : List Addr} (I : Inv X pins σ H s) (u : Un (frs X.stack) ch H H' s.heap h') (hok : HOk X.prog X.w H' h') (hg : AllBare g')
    (hch : ∀ b ∈ ch, (b ∈ X.ex ∨ X.s₀.heap.objs.size ≤ b) ∧ b ≠ X.env.locals ∧ (∀ x c, X.env.cells.lookup x = some c → c ≠ b) ∧ ∀ p ∈ X.pn ++ pins, p.1 ≠ b) :
    Inv X pins σ H' { s with heap := h', gens := g', drawn := d', toks := t' } := by
  obtain ⟨m, ⟨o, es, ep, ho, r⟩, _⟩ := id I.loc
  obtain ⟨sl, hL⟩ := u.any ho I.free fun z => (hch _ z).2.1 rfl
  exact I.step (ch := ch) hch (fun b o hL hb hc e n => u.keep b o e n (fun z => (List.mem_cons.mp (I.stkSub b z)).elim hL hb) hc) (fun b o _ _ hc e n => u.any e n hc) (fun b o hc e n => u.free b o e n hc) (fun b o hc e => u.there b o e hc) u.tups u.frzs u.tbls (fun m' hm => by
    obtain ⟨o', es', ep', ho', r'⟩ := hm
    rw [ho] at ho'; cases ho'
    exact ⟨_, es', ep', hL, r'⟩) hok hg
theorem Inv.turned {t' : Nat} {it : Addr} (I : Inv X pins σ H s) (k : ∀ b o, b ≠ it → s.heap.get? b = some o → h'.get? b = some o) (hn : H it = none) (hL : it ≠ X.env.locals)
    (h1 : it ∈ X.ex ∨ X.s₀.heap.objs.size ≤ it) (h2 : ∀ x c, X.env.cells.lookup x = some c → c ≠ it) (h3 : ∀ p ∈ X.pn ++ pins, p.1 ≠ it) : Inv X pins σ H { s with heap := h', toks := t' } := by
  have nit : ∀ b u, H b = some u → b ≠ it := fun b u e z => by rw [z, hn] at e; cases e
  refine I.step (g' := s.gens) (d' := s.drawn) (ch := [it]) (fun b hb => ?_) (fun b o _ _ hc e _ => k b o (fun z => hc (by simp [z])) e) (fun b o _ _ hc e _ => ⟨o.slots, k b o (fun z => hc (by simp [z])) e⟩) (fun _ _ _ _ n => n)
    (fun b o hc e => ⟨o, k b o (fun z => hc (by simp [z])) e⟩) (fun _ _ e => e) (fun _ _ _ e => e) (fun b ps e => ⟨#[], by rw [e]; simp⟩) (fun m hm => ?_) (fun b u e => ?_) I.bare
  · have e : b = it := by simpa using hb
    subst e
    exact ⟨h1, hL, h2, h3⟩
  · obtain ⟨o, es, ep, ho, r⟩ := hm
    exact ⟨o, es, ep, k _ o (Ne.symm hL) ho, r⟩
  · refine (I.hok b u e).stay (fun c v hc q => k c v ?_ q) (fun _ q => q) fun _ _ q => q
    rcases hc with z | z
    · rw [z]; exact nit b u e
    · exact nit c _ z
theorem Inv.tok (I : Inv X pins σ H s) (t : Nat) : Inv X pins σ H { s with toks := t } := I.un (h' := s.heap) (t' := t) Un.refl I.hok
theorem Inv.kept {t' : Nat} (I : Inv X pins σ H s) (k : ∀ b u, s.heap.get? b = some u → h'.get? b = some u) : Inv X pins σ H { s with heap := h', toks := t' } := I.un (Un.kept k) (I.hok.kept k)
theorem Inv.laid {a : Addr} {o : HO} {t' : Nat} (I : Inv X pins σ H s) (k : ∀ b u, s.heap.get? b = some u → h'.get? b = some u) (hp : s.heap.objs.size ≤ a) (new : ObjOk X.prog X.w (upd H a o) h' a o) :
    Inv X pins σ (upd H a o) { s with heap := h', toks := t' } := I.un (Un.laid k hp (I.hok.fresh hp)) (I.hok.laid k hp new)
theorem Inv.write {x e : Addr} {o : HO} {t' : Nat} (I : Inv X pins σ H s) (mu : Mut (H x)) (he : e = x ∨ H e = some (.own x)) (k : ∀ b u, b ≠ e → s.heap.get? b = some u → h'.get? b = some u) (heo : ∃ u, h'.get? e = some u)
    (new : ObjOk X.prog X.w (upd H x o) h' x o) : Inv X pins σ (upd H x o) { s with heap := h', toks := t' } := I.un (Un.write mu he k heo) (I.hok.write mu he k heo new)
theorem Inv.pins_of {pins' : List (Addr × Obj)} (I : Inv X pins σ H s) (h : ∀ p ∈ pins', s.heap.get? p.1 = some p.2 ∧ H p.1 = none ∧ p.1 ≠ X.env.locals ∧ p.1 ∉ X.fs ∧ ∀ v, p.2.data ≠ .cell v) : Inv X pins' σ H s :=
  ⟨I.ok, I.os, I.bare, I.base, I.loc, I.cell, I.free, I.freeC, fun p hp => (List.mem_append.mp hp).elim (fun z => I.pin p (List.mem_append_left _ z)) (h p), I.hok, I.len⟩

theorem nodup_ix {N : List Str} (hN : N.Nodup) {i j : Nat} {x : Str} (a : N[i]? = some x) (b : N[j]? = some x) : i = j := by
  obtain ⟨h1, e1⟩ := List.getElem?_eq_some_iff.mp a
  obtain ⟨h2, e2⟩ := List.getElem?_eq_some_iff.mp b
  exact (List.getElem_inj hN).mp (e1.trans e2.symm)

theorem store_ok2 {M : Model} {A : Around} {E : Value → Shared → Prop} {i : Nat} {x : Str} {v : V} {u : Value} {Q : Unit → Shared → Prop} (I : Inv X pins σ H s) (hN : X.N.Nodup) (hi : X.N[i]? = some x) (hx : Loc X.env.scope x) (r : RelV v u)
    (h : ∀ s', Inv X pins (σ.set i (some v)) H s' → (∃ a, Heap.SameBut a s.heap s'.heap ∧ (a = X.env.locals ∨ X.env.cells.lookup x = some a)) → Q () s') (hf : X.fn x = true ∨ X.env.scope.names.lookup x = some .local := by first | exact .inl rfl | exact .inr rfl | assumption) : wpAny M A (storeName X.env x u) Q E s := by
  obtain ⟨m, hn, hl⟩ := id I.loc
  have hcls : (X.env.scope.kind == .class || (X.env.scope.kind == .module && X.env.locals != X.env.globals)) = false := by rw [I.ok.kind]; rfl
  have hiσ : i < σ.length := by rw [I.len]; exact (List.getElem?_eq_some_iff.mp hi).1
  have cne := I.cne
  have tracked : ∀ {a : Addr} {h' : Heap}, (∃ o, s.heap.get? a = some o ∧ H a = none) → Heap.SameBut a s.heap h' → HOk X.prog X.w H h' := fun {a h'} ha hs b ob e => by
    obtain ⟨_, _, hfree⟩ := ha
    refine (I.hok b ob e).stay (fun c w' hc q => (hs.2 c ?_).trans q) (fun _ q => q) fun _ _ q => q
    rintro rfl
    rcases hc with rfl | hc
    · rw [hfree] at e; cases e
    · rw [hfree] at hc; cases hc
  rcases hx with hk | hk
  · refine wpAny_storeName_local hk hn (fun h' hn' hs => ?_) hcls
    obtain ⟨oL, _, _, hoL, _⟩ := id hn
    refine h _ ⟨I.ok, I.os, I.bare, ⟨fun b o e n hb hx => ?_, fun b o e n hb hx => ?_, I.base.free, fun b o e hx => ?_, I.base.tups, I.base.frzs, I.base.tbls⟩, ⟨_, hn', fun j y v' e1 e2 e3 => ?_⟩, fun y c e => ?_, I.free, I.freeC, fun p hp => ?_, tracked ⟨oL, hoL, I.free⟩ hs, by simpa using I.len⟩ ⟨_, hs, .inl rfl⟩
    · exact (hs.2 b (Nat.ne_of_lt (Nat.lt_of_lt_of_le (Heap.lt_size e) I.ok.above))).trans (I.base.keep b o e n hb hx)
    · obtain ⟨sl, e1⟩ := I.base.slot b o e n hb hx
      exact ⟨sl, (hs.2 b (Nat.ne_of_lt (Nat.lt_of_lt_of_le (Heap.lt_size e) I.ok.above))).trans e1⟩
    · obtain ⟨o', e1⟩ := I.base.there b o e hx
      exact ⟨o', (hs.2 b (Nat.ne_of_lt (Nat.lt_of_lt_of_le (Heap.lt_size e) I.ok.above))).trans e1⟩
    · by_cases hj : j = i
      · subst hj
        rw [hi] at e1; cases e1
        rw [List.getElem?_set_self hiσ] at e2
        cases e2
        exact ⟨u, r, .inl ⟨hk, by simp⟩⟩
      · rw [List.getElem?_set_ne (Ne.symm hj)] at e2
        obtain ⟨u', r', q⟩ := hl j y v' e1 e2 e3
        refine ⟨u', r', ?_⟩
        rcases q with ⟨k, e⟩ | ⟨k, c, e, z⟩
        · refine .inl ⟨k, ?_⟩
          have : y ≠ x := fun e => hj (nodup_ix hN e1 (e ▸ hi))
          simp [this, e]
        · exact .inr ⟨k, c, e, z.sameBut hs (cne y c e)⟩
    · obtain ⟨w', z⟩ := I.cell y c e
      exact ⟨w', z.sameBut hs (cne y c e)⟩
    · obtain ⟨e, n, ne, nf, d⟩ := I.pin p hp
      exact ⟨(hs.2 p.1 ne).trans e, n, ne, nf, d⟩
  · have hfn : X.fn x = true := by
      rcases hf with z | z
      · exact z
      · rw [z] at hk; cases hk
    obtain ⟨c, hc⟩ := I.ok.has x (.inl hk)
    obtain ⟨w', z⟩ := I.cell x c hc
    refine wpAny_storeName_cell I.ok.kind hk hc z (fun h' hc' hs => ?_)
    obtain ⟨oc, hoc, hocd⟩ := id z
    refine h { s with heap := h' } ⟨I.ok, I.os, I.bare, ⟨fun b o e n hb hx => ?_, fun b o e n hb hx => ?_, I.base.free, fun b o e hx => ?_, I.base.tups, I.base.frzs, I.base.tbls⟩, ⟨m, hn.sameBut hs (Ne.symm (cne x c hc)), fun j y v' e1 e2 e3 => ?_⟩, fun y c' e => ?_, I.free, I.freeC, fun p hp => ?_, tracked ⟨oc, hoc, I.freeC x c hc⟩ hs, by simpa using I.len⟩ ⟨c, hs, .inr hc⟩
    · exact (hs.2 b (Nat.ne_of_lt (Nat.lt_of_lt_of_le (Heap.lt_size e) (I.ok.cab x c hfn hc)))).trans (I.base.keep b o e n hb hx)
    · obtain ⟨sl, e1⟩ := I.base.slot b o e n hb hx
      exact ⟨sl, (hs.2 b (Nat.ne_of_lt (Nat.lt_of_lt_of_le (Heap.lt_size e) (I.ok.cab x c hfn hc)))).trans e1⟩
    · obtain ⟨o', e1⟩ := I.base.there b o e hx
      exact ⟨o', (hs.2 b (Nat.ne_of_lt (Nat.lt_of_lt_of_le (Heap.lt_size e) (I.ok.cab x c hfn hc)))).trans e1⟩
    · by_cases hj : j = i
      · subst hj
        rw [hi] at e1; cases e1
        rw [List.getElem?_set_self hiσ] at e2
        cases e2
        exact ⟨u, r, .inr ⟨.inl hk, c, hc, hc'⟩⟩
      · rw [List.getElem?_set_ne (Ne.symm hj)] at e2
        obtain ⟨u', r', q⟩ := hl j y v' e1 e2 e3
        refine ⟨u', r', ?_⟩
        rcases q with q | ⟨k, c', e, z'⟩
        · exact .inl q
        · refine .inr ⟨k, c', e, z'.sameBut hs ?_⟩
          rintro rfl
          exact hj (nodup_ix hN e1 (I.ok.inj _ _ _ e hc ▸ hi))
    · by_cases hcc : c' = c
      · subst hcc; exact ⟨_, hc'⟩
      · obtain ⟨w2, z2⟩ := I.cell y c' e
        exact ⟨w2, z2.sameBut hs hcc⟩
    · obtain ⟨e, n, ne, nf, d⟩ := I.pin p hp
      refine ⟨(hs.2 p.1 ?_).trans e, n, ne, nf, d⟩
      intro q
      rw [q, hoc] at e
      have q' : oc = p.2 := Option.some.inj e
      exact d w' (by rw [← q']; exact hocd)
theorem store_ok {M : Model} {A : Around} {E : Value → Shared → Prop} {i : Nat} {x : Str} {v : V} {u : Value} {Q : Unit → Shared → Prop} (I : Inv X pins σ H s) (hN : X.N.Nodup) (hi : X.N[i]? = some x) (hx : Loc X.env.scope x) (r : RelV v u)
    (h : ∀ s', Inv X pins (σ.set i (some v)) H s' → Q () s') (hf : X.fn x = true ∨ X.env.scope.names.lookup x = some .local := by first | exact .inl rfl | exact .inr rfl | assumption) : wpAny M A (storeName X.env x u) Q E s :=
  store_ok2 I hN hi hx r (fun s' I' _ => h s' I') hf
theorem Inv.call' {s' : Shared} {ch : List Addr} (I : Inv X pins σ H s) (ho : s'.os = s.os) (u : Un (frs X.stack) ch H H' s.heap s'.heap) (hok : HOk X.prog X.w H' s'.heap) (hg : AllBare s'.gens)
    (hch : ∀ b ∈ ch, (b ∈ X.ex ∨ X.s₀.heap.objs.size ≤ b) ∧ b ≠ X.env.locals ∧ (∀ x c, X.env.cells.lookup x = some c → c ≠ b) ∧ ∀ p ∈ X.pn ++ pins, p.1 ≠ b) : Inv X pins σ H' s' := by
  obtain ⟨h', g', d', t', o'⟩ := s'
  have e : o' = s.os := ho
  subst e
  exact I.call (g' := g') (t' := t') (d' := d') u hok hg hch
end

/-! ### the judgements -/
abbrev XK := Value → Option Addr → Hp → Prop
abbrev St := List (Option V)
abbrev VK := V → Hp → Prop
abbrev TE := St → Hp → VK → Prop
abbrev TT := St → Hp → (Bool → Hp → Prop) → Prop
abbrev TA := St → Hp → (List V → Hp → Prop) → Prop
structure Ends where
  nx : St → Hp → Prop
  rt : VK
  bk : St → Hp → Prop := fun _ _ => False
  ct : St → Hp → Prop := fun _ _ => False
abbrev TS := Ends → St → Hp → Prop

def EP (X : Cx) (pins : List (Addr × Obj)) (σ : St) (Q : VK) (u : Value) (s' : Shared) : Prop := ∃ v H', Inv X pins σ H' s' ∧ RelV v u ∧ Q v H'
def TP (X : Cx) (pins : List (Addr × Obj)) (σ : St) (Q : Bool → Hp → Prop) (b : Bool) (s' : Shared) : Prop := ∃ H', Inv X pins σ H' s' ∧ Q b H'
def AP (X : Cx) (pins : List (Addr × Obj)) (σ : St) (Q : List V → Hp → Prop) (us : List Value) (s' : Shared) : Prop := ∃ vs H', Inv X pins σ H' s' ∧ Vals vs us ∧ Q vs H'
def SP (X : Cx) (pins : List (Addr × Obj)) (D : Ends) (f : Flow) (s' : Shared) : Prop :=
  match f with
  | .next => ∃ σ' H', Inv X pins σ' H' s' ∧ D.nx σ' H'
  | .brk => ∃ σ' H', Inv X pins σ' H' s' ∧ D.bk σ' H'
  | .cont => ∃ σ' H', Inv X pins σ' H' s' ∧ D.ct σ' H'
  | .ret u => ∃ v σ' H', Inv X pins σ' H' s' ∧ RelV v u ∧ D.rt v H'

def PE (X : Cx) (e : Expr) (t : TE) : Prop :=
  ∀ (pins : List (Addr × Obj)) (s : Shared) (σ : St) (H : Hp) (Q : VK), Inv X pins σ H s → t σ H Q → wpAny (model X.prog X.w) X.A (eval e X.env) (EP X pins σ Q) X.xe s
def PT (X : Cx) (e : Expr) (t : TT) : Prop :=
  ∀ (pins : List (Addr × Obj)) (s : Shared) (σ : St) (H : Hp) (Q : Bool → Hp → Prop), Inv X pins σ H s → t σ H Q → wpAny (model X.prog X.w) X.A (isTrue e X.env (eval e X.env)) (TP X pins σ Q) X.xe s
def PW (X : Cx) (e : Expr) (t : TT) : Prop :=
  ∀ (whole : Sem Value) (pins : List (Addr × Obj)) (s : Shared) (σ : St) (H : Hp) (Q : Bool → Hp → Prop), Inv X pins σ H s → t σ H Q → wpAny (model X.prog X.w) X.A (isTrue e X.env whole) (TP X pins σ Q) X.xe s
theorem PW.pt {X : Cx} {e : Expr} {t : TT} (h : PW X e t) : PT X e t := h _
def PA (X : Cx) (es : List Expr) (t : TA) : Prop :=
  ∀ (pos : Pos) (pins : List (Addr × Obj)) (s : Shared) (σ : St) (H : Hp) (Q : List V → Hp → Prop), Inv X pins σ H s → t σ H Q → wpAny (model X.prog X.w) X.A (spliced (backTo pos (starEach es X.env))) (AP X pins σ Q) X.xe s
def PS (X : Cx) (st : Stmt) (t : TS) : Prop :=
  ∀ (pins : List (Addr × Obj)) (s : Shared) (σ : St) (H : Hp) (D : Ends), Inv X pins σ H s → t D σ H → wpAny (model X.prog X.w) X.A (exec st X.env) (SP X pins D) X.xe s
def PSs (X : Cx) (st : List Stmt) (t : TS) : Prop :=
  ∀ (pins : List (Addr × Obj)) (s : Shared) (σ : St) (H : Hp) (D : Ends), Inv X pins σ H s → t D σ H → wpAny (model X.prog X.w) X.A (execs st X.env) (SP X pins D) X.xe s
theorem thn {α : Type} {t : Sem α} {Q Q' : α → Shared → Prop} {M : Model} {A : Around} {E : Value → Shared → Prop} {s : Shared} (h : wpAny M A t Q E s) (hQ : ∀ a s, Q a s → Q' a s) : wpAny M A t Q' E s := wpAny_mono h hQ fun _ _ x => x
end L2

namespace L2
open PySem PySem.Spec PyProof.Rows
section
variable {X : Cx}

/-! ### names and constants -/
def tVar (i : Nat) : TE := fun σ H Q => ∃ v, σ[i]? = some (some v) ∧ Q v H
def tC (v : V) : TE := fun _ H Q => Q v H
theorem pe_var {i : Nat} {x : Str} {pos : Pos} (hN : X.N[i]? = some x) (hv : Vis X.env.scope x) (hd : (x == ("__debug__" : Str)) = false := by decide) (hcd : (x == ("__classdict__" : Str)) = false := by decide) : PE X (.Name x pos) (tVar i) := by
  intro pins s σ H Q I h
  obtain ⟨v, e, h⟩ := h
  obtain ⟨m, hn, hl⟩ := I.loc
  obtain ⟨u, r, l⟩ := hl i x v hN e hv
  have fin : EP X pins σ Q u s := ⟨v, H, I, r, h⟩
  rcases l with ⟨hk, hm⟩ | ⟨hk, c, hc, hcell⟩
  · exact wpAny_Name (wpAny_loadName_local I.ok.kind hk hn hm fin) hd
  · rcases hk with hk | hk
    · exact wpAny_Name (wpAny_loadName_cell I.ok.kind hk hc hcell fin) hd
    · exact wpAny_Name (wpAny_loadName_free I.ok.kind hk hc hcell fin hcd) hd
theorem pe_int {i j pos} : PE X (.Constant (.int i) j pos) (tC (.int i)) := fun _ _ _ H _ I h => wpAny_Constant_int ⟨.int i, H, I.tok _, ⟨_, rfl⟩, h⟩
theorem pe_bl {b j pos} : PE X (.Constant (.bool b) j pos) (tC (.bl b)) := fun _ _ _ H _ I h => Constant_bool ⟨.bl b, H, I, rfl, h⟩
theorem pe_non {j pos} : PE X (.Constant .none j pos) (tC .non) := fun _ _ _ H _ I h => Constant_none ⟨.non, H, I, rfl, h⟩
theorem pe_str {x j pos} : PE X (.Constant (.str x) j pos) (tC (.str x)) := fun _ _ _ H _ I h => Calls.Constant_str ⟨.str x, H, I.tok _, ⟨_, rfl⟩, h⟩

def Gl (X : Cx) (x : Str) : Prop := X.env.kindOf x = some .globalImplicit
theorem ld_glob {E : Value → Shared → Prop} {pins : List (Addr × Obj)} {s : Shared} {σ : St} {H : Hp} {x : Str} {u : Value} {pos : Pos} {Q : Value → Shared → Prop} (I : Inv X pins σ H s) (hg : Gl X x) (hm : X.mg x = some u) (h : Q u s)
    (hd : (x == ("__debug__" : Str)) = false := by decide) : wpAny (model X.prog X.w) X.A (eval (.Name x pos) X.env) Q E s :=
  Calls.Name_function_global I.ok.kind hg (Calls.loadGlobal_global (by rw [I.ok.glob]; exact I.mod.glob.keeps I.bk) hm h) hd
theorem ld_blt {E : Value → Shared → Prop} {pins : List (Addr × Obj)} {s : Shared} {σ : St} {H : Hp} {x : Str} {u : Value} {pos : Pos} {Q : Value → Shared → Prop} (I : Inv X pins σ H s) (hg : Gl X x) (hm : X.mg x = none) (hv : bootBuiltins x = some u) (h : Q u s)
    (hn : x ≠ "__name__" := by decide) (hd : (x == ("__debug__" : Str)) = false := by decide) : wpAny (model X.prog X.w) X.A (eval (.Name x pos) X.env) Q E s := by
  obtain ⟨mb, h1, h2⟩ := I.mod.blt
  exact Calls.Name_function_global I.ok.kind hg (Calls.loadGlobal_builtin (by rw [I.ok.glob]; exact I.mod.glob.keeps I.bk) hm (by rw [I.ok.blt]; exact h1.keeps I.bk) ((h2 x hn).trans hv) h) hd
theorem pe_glob {x : Str} {v : V} {u : Value} {pos : Pos} (hg : Gl X x) (hm : X.mg x = some u) (r : RelV v u) (hd : (x == ("__debug__" : Str)) = false := by decide) : PE X (.Name x pos) (tC v) :=
  fun _ _ _ H _ I h => ld_glob I hg hm ⟨v, H, I, r, h⟩ hd
theorem pe_bltn {x : Str} {v : V} {u : Value} {pos : Pos} (hg : Gl X x) (hm : X.mg x = none) (hv : bootBuiltins x = some u) (r : RelV v u) (hn : x ≠ "__name__" := by decide) (hd : (x == ("__debug__" : Str)) = false := by decide) : PE X (.Name x pos) (tC v) :=
  fun _ _ _ H _ I h => ld_blt I hg hm hv ⟨v, H, I, r, h⟩ hn hd

/-! ### arithmetic -/
variable {a b : Expr} {ta tb : TE} {pos : Pos}
/-! ### comparisons -/
def PC (X : Cx) (op : CmpOp) (a b : Expr) (t : TE) : Prop :=
  ∀ (pins : List (Addr × Obj)) (s : Shared) (σ : St) (H : Hp) (Q : VK), Inv X pins σ H s → t σ H Q →
    wpAny (model X.prog X.w) X.A (eval a X.env) (fun v s₁ => wpAny (model X.prog X.w) X.A (eval b X.env) (fun u s₂ => wpAny (model X.prog X.w) X.A (compareOp op v u) (EP X pins σ Q) X.xe s₂) X.xe s₁) X.xe s
def tB (t : TE) : TT := fun σ H Q => t σ H fun x H1 => ∃ c, x = .bl c ∧ Q c H1
theorem pt_cmp {op : CmpOp} {t : TE} (h : PC X op a b t) (h1 : behindInMarks op b = false := by first | exact nobehind _ (by decide) (by decide) | rfl) : PT X (.Compare a [op] [b] pos) (tB t) := by
  intro pins s σ H Q I hw
  refine wpAny_isTrue_Compare1 (thn (h pins s σ H _ I hw) fun v s1 h1 => thn h1 fun u s2 h2 => thn h2 fun c s3 ⟨x, H1, I1, r1, q1⟩ => ?_) h1
  obtain ⟨d, rfl, q⟩ := q1
  cases r1
  exact wpAny_truthy_bool ⟨H1, I1, q⟩
theorem pt_val {e : Expr} {t : TE} (h : PE X e t) (he : ∀ whole, isTrue e X.env whole = (do let v ← whole; standAt e.pos; holding [v] (truthy v)) := by intro _; rfl) : PT X e (tB t) := by
  intro pins s σ H Q I hw
  refine isTrue_plain (thn (h pins s σ H _ I hw) fun v s1 ⟨x, H1, I1, r1, q1⟩ => ?_) (he _)
  obtain ⟨d, rfl, q⟩ := q1
  cases r1
  exact wpAny_truthy_bool ⟨H1, I1, q⟩

/-! ### and, or, not -/
variable {tA tB' : TT} {rest : List Expr}
def tOr (t u : TT) : TT := fun σ H Q => t σ H fun c H1 => if c = true then Q true H1 else u σ H1 Q
def tNot (t : TT) : TT := fun σ H Q => t σ H fun c H1 => Q (!c) H1
theorem pw_or1 (ha : PT X a tA) : PW X (.BoolOp .Or [a] pos) tA := by
  intro wh pins s σ H Q I h
  refine isTrue_or (thn (ha pins s σ H Q I h) fun c s1 e => ?_)
  cases c with
  | false => exact isTrue_or_nil e
  | true => exact e
theorem pw_or (ha : PT X a tA) (hb : PW X (.BoolOp .Or (b :: rest) pos) tB') : PW X (.BoolOp .Or (a :: b :: rest) pos) (tOr tA tB') := by
  intro wh pins s σ H Q I h
  refine isTrue_or (thn (ha pins s σ H _ I h) fun c s1 ⟨H1, I1, q1⟩ => ?_)
  cases c with
  | true => exact ⟨H1, I1, q1⟩
  | false => exact hb wh pins s1 σ H1 Q I1 q1
theorem pt_not (ha : PT X a tA) : PT X (.UnaryOp .Not a pos) (tNot tA) := by
  intro pins s σ H Q I h
  exact isTrue_not (ha pins s σ H (fun c H1 => Q (!c) H1) I h)
def tAndV (ta tb : TE) : TE := fun σ H Q => ta σ H fun x H1 => ∃ c, x = .bl c ∧ if c = true then tb σ H1 Q else Q (.bl false) H1
def tNotV (ta : TE) : TE := fun σ H Q => ta σ H fun x H1 => ∃ c, x = .bl c ∧ Q (.bl (!c)) H1
theorem pe_one {op} {t : TE} (h : PE X a t) : PE X (.BoolOp op [a] pos) t := fun pins s σ H Q I hw => BoolOp_one (h pins s σ H Q I hw)
theorem pe_and (ha : PE X a ta) (hb : PE X (.BoolOp .And (b :: rest) pos) tb) : PE X (.BoolOp .And (a :: b :: rest) pos) (tAndV ta tb) := by
  intro pins s σ H Q I h
  refine BoolOp_and (thn (ha pins s σ H _ I h) fun v s1 ⟨x, H1, I1, r1, q1⟩ => ?_)
  obtain ⟨c, rfl, q1⟩ := q1
  cases r1
  refine wpAny_truthy_bool ?_
  cases c with
  | true => exact hb pins s1 σ H1 Q I1 q1
  | false => exact ⟨.bl false, H1, I1, rfl, q1⟩
theorem pe_not (ha : PE X a ta) : PE X (.UnaryOp .Not a pos) (tNotV ta) := by
  intro pins s σ H Q I h
  refine UnaryOp_ (thn (ha pins s σ H _ I h) fun v s1 ⟨x, H1, I1, r1, q1⟩ => ?_)
  obtain ⟨c, rfl, q1⟩ := q1
  cases r1
  exact not_of (wpAny_truthy_bool ⟨.bl (!c), H1, I1, rfl, q1⟩)
def tIf (t : TT) (ta tb : TE) : TE := fun σ H Q => t σ H fun c H1 => if c = true then ta σ H1 Q else tb σ H1 Q
theorem pe_ifExp {c : Expr} (hc : PT X c tA) (ha : PE X a ta) (hb : PE X b tb) : PE X (.IfExp c a b pos) (tIf tA ta tb) := by
  intro pins s σ H Q I h
  refine wpAny_IfExp (thn (hc pins s σ H _ I h) fun d s1 ⟨H1, I1, q1⟩ => ?_)
  cases d with
  | true => exact ha pins s1 σ H1 Q I1 q1
  | false => exact hb pins s1 σ H1 Q I1 q1
end
end L2

namespace L2
open PySem PySem.Spec PyProof.Rows

/-! ### a list, a tuple that is read: tracked, frozen, or an object of the module -/
def SqL (K : PySem.W.Frag) (H : Hp) (a : Addr) (xs : List V) : Prop :=
  Rd H a (.lst xs) ∨
    ∃ (o : Obj) (its : Array Value) (n : Nat), K.lookup a = some o ∧ o.cls = .type "list" ∧ o.dict = none ∧ o.data = .seq its n ∧ its.size ≤ sizeLine ∧ Vals xs its.toList
def SqT (K : PySem.W.Frag) (H : Hp) (a : Addr) (xs : List V) : Prop :=
  Rd H a (.tup xs) ∨
    ∃ (o : Obj) (its : Array Value) (n : Nat), K.lookup a = some o ∧ o.cls = .type "tuple" ∧ o.data = .seq its n ∧ its.size ≤ sizeLine ∧ Vals xs its.toList
def absV : Value → Option V
  | .none => some .non
  | .bool b => some (.bl b)
  | .int i _ => some (.int i)
  | .str x _ => some (.str x)
  | .bytes b _ => some (.byt b)
  | .float b _ => some (.flt b)
  | .ref a => some (.ref a)
  | .type n => some (.ty n)
  | _ => none
theorem RelV.abs {x : V} {u : Value} (r : RelV x u) : absV u = some x := by
  cases x with
  | non => cases r; rfl
  | bl _ => cases r; rfl
  | int _ => obtain ⟨t, rfl⟩ := r; rfl
  | str _ => obtain ⟨t, rfl⟩ := r; rfl
  | byt _ => obtain ⟨t, rfl⟩ := r; rfl
  | flt _ => obtain ⟨t, rfl⟩ := r; rfl
  | ref _ => cases r; rfl
  | ty _ => cases r; rfl
theorem RelV.inj {x y : V} {u : Value} (r : RelV x u) (q : RelV y u) : x = y := Option.some.inj (r.abs.symm.trans q.abs)
theorem Vals.inj : ∀ {xs ys : List V} {us : List Value}, Vals xs us → Vals ys us → xs = ys
  | _, _, _, .nil, .nil => rfl
  | _, _, _, .cons r t, .cons r' t' => by rw [r.inj r', Vals.inj t t']
section
variable {X : Cx} {pins : List (Addr × Obj)} {σ : St} {H : Hp} {s : Shared} {a : Addr} {xs ys : List V}
theorem SqL.of {K : PySem.W.Frag} (h : H a = some (.lst xs)) : SqL K H a xs := .inl (.inl h)
theorem SqT.of {K : PySem.W.Frag} (h : H a = some (.tup xs)) : SqT K H a xs := .inl (.inl h)
theorem Inv.list (I : Inv X pins σ H s) (h : SqL X.K H a xs) : ∃ its : List Value, Vals xs its ∧ PlainL s.heap a its.toArray ∧ xs.length ≤ sizeLine := by
  rcases h with h | ⟨o, its, n, hk, hc, hd, hs, hz, r⟩
  · obtain ⟨z, its, n, r, e⟩ := h.ok I.hok
    exact ⟨its, r, ⟨_, n, e, rfl, rfl, rfl⟩, z⟩
  · refine ⟨its.toList, r, ⟨o, n, I.kIn a o hk, hc, hd, by simpa using hs⟩, ?_⟩
    have e := r.length
    simp only [Array.length_toList] at e
    omega
theorem Inv.tuple (I : Inv X pins σ H s) (h : SqT X.K H a xs) : ∃ its : List Value, Vals xs its ∧ IsTup s.heap a its.toArray ∧ xs.length ≤ sizeLine := by
  rcases h with h | ⟨o, its, n, hk, hc, hs, hz, r⟩
  · obtain ⟨z, its, r, p⟩ := h.ok I.hok
    exact ⟨its, r, p, z⟩
  · refine ⟨its.toList, r, ⟨o, I.kIn a o hk, hc, n, by simpa using hs⟩, ?_⟩
    have e := r.length
    simp only [Array.length_toList] at e
    omega
theorem Inv.list_inj (I : Inv X pins σ H s) (h : SqL X.K H a xs) (h' : SqL X.K H a ys) : xs = ys := by
  obtain ⟨its, r, ⟨o, n, e, _, _, d⟩, _⟩ := I.list h
  obtain ⟨its', r', ⟨o', n', e', _, _, d'⟩, _⟩ := I.list h'
  rw [e] at e'; cases e'
  rw [d] at d'
  injection d' with d1 _
  have : its = its' := by simpa using congrArg Array.toList d1
  subst this
  exact r.inj r'
end

/-! ### another wish about exceptions -/
abbrev Cx.wish (X : Cx) (E : Value → Shared → Prop) : Cx := { X with xe := E }
abbrev Cx.nox (X : Cx) : Cx := X.wish fun _ _ => False
theorem Cx.Ok.wish {X : Cx} (ok : X.Ok) (E : Value → Shared → Prop) : (X.wish E).Ok :=
  ⟨ok.mod, ok.kind, ok.glob, ok.blt, ok.above, ok.inj, ok.has, ok.cab, ok.hd, ok.frames, ok.stk, ok.exf, ok.bs, ok.bsz, ok.noex, ok.exfs, ok.funs, ok.frf⟩
theorem Cx.Ok.unwish {X : Cx} {E : Value → Shared → Prop} (ok : (X.wish E).Ok) : X.Ok :=
  ⟨ok.mod, ok.kind, ok.glob, ok.blt, ok.above, ok.inj, ok.has, ok.cab, ok.hd, ok.frames, ok.stk, ok.exf, ok.bs, ok.bsz, ok.noex, ok.exfs, ok.funs, ok.frf⟩
section
variable {X : Cx} {pins : List (Addr × Obj)} {σ : St} {H : Hp} {s : Shared} {E : Value → Shared → Prop}
theorem Inv.wish (I : Inv X pins σ H s) (E : Value → Shared → Prop) : Inv (X.wish E) pins σ H s := ⟨I.ok.wish E, I.os, I.bare, I.base, I.loc, I.cell, I.free, I.freeC, I.pin, I.hok, I.len⟩
theorem Inv.unwish (I : Inv (X.wish E) pins σ H s) : Inv X pins σ H s := ⟨I.ok.unwish, I.os, I.bare, I.base, I.loc, I.cell, I.free, I.freeC, I.pin, I.hok, I.len⟩
theorem SP.unwish {D : Ends} {f : Flow} {s' : Shared} (h : SP (X.wish E) pins D f s') : SP X pins D f s' := by
  cases f with
  | next => obtain ⟨σ', H', I, q⟩ := h; exact ⟨σ', H', I.unwish, q⟩
  | brk => obtain ⟨σ', H', I, q⟩ := h; exact ⟨σ', H', I.unwish, q⟩
  | cont => obtain ⟨σ', H', I, q⟩ := h; exact ⟨σ', H', I.unwish, q⟩
  | ret u => obtain ⟨v, σ', H', I, r, q⟩ := h; exact ⟨v, σ', H', I.unwish, r, q⟩
theorem PSs.nox {st : List Stmt} {t : TS} (h : PSs X.nox st t) : PSs X st t := fun pins s σ H D I hw =>
  wpAny_mono (h pins s σ H D (I.wish _) hw) (fun _ _ q => q.unwish) fun _ _ z => False.elim z
end

/-! ### blocks and small statements -/
section
variable {X : Cx} {st : Stmt} {rest : List Stmt} {t u : TS} {e : Expr} {te : TE} {pos : Pos}
def tNext : TS := fun D σ H => D.nx σ H
def tSeq (t u : TS) : TS := fun D σ H => t { D with nx := u D } σ H
theorem pss_nil : PSs X [] tNext := fun _ _ σ H _ I h => wpAny_execs_nil ⟨σ, H, I, h⟩
theorem pss_cons (h1 : PS X st t) (h2 : PSs X rest u) : PSs X (st :: rest) (tSeq t u) := by
  intro pins s σ H D I h
  refine wpAny_execs_cons (thn (h1 pins s σ H { D with nx := u D } I h) fun f s1 q => ?_)
  cases f with
  | next =>
    obtain ⟨σ', H', I', q⟩ := q
    exact h2 pins s1 σ' H' D I' q
  | ret v => exact q
  | brk => exact q
  | cont => exact q
theorem pss_one (h1 : PS X st t) : PSs X [st] t := by
  intro pins s σ H D I h
  refine wpAny_execs_cons (thn (h1 pins s σ H D I h) fun f s1 q => ?_)
  cases f with
  | next => exact wpAny_execs_nil q
  | ret v => exact q
  | brk => exact q
  | cont => exact q
theorem Inv.quiet {pins : List (Addr × Obj)} {σ : St} {H : Hp} {s : Shared} (I : Inv X pins σ H s) : interactive X.env = false := by simp [interactive, I.ok.kind]
def tDrop (te : TE) : TS := fun D σ H => te σ H fun _ H1 => D.nx σ H1
theorem ps_expr (he : PE X e te) (hs : swapsWith e none pos.line X.env = pure false := by rfl) : PS X (.Expr e pos) (tDrop te) := by
  intro pins s σ H D I h
  exact wpAny_Expr_any (thn (he pins s σ H _ I h) fun v s1 ⟨x, H1, I1, r1, q1⟩ => ⟨σ, H1, I1, q1⟩) I.quiet hs
def tRet (te : TE) : TS := fun D σ H => te σ H D.rt
theorem ps_ret (he : PE X e te) : PS X (.Return (some e) pos) (tRet te) := by
  intro pins s σ H D I h
  exact wpAny_Return_some (thn (he pins s σ H _ I h) fun v s1 ⟨x, H1, I1, r1, q1⟩ => ⟨x, σ, H1, I1, r1, q1⟩)
def tIfS (c : TT) (t u : TS) : TS := fun D σ H => c σ H fun b H1 => if b = true then t D σ H1 else u D σ H1
theorem ps_if {c : Expr} {a b : List Stmt} {tc : TT} (hc : PT X c tc) (ha : PSs X a t) (hb : PSs X b u) : PS X (.If c a b pos) (tIfS tc t u) := by
  intro pins s σ H D I h
  refine wpAny_If (thn (hc pins s σ H _ I h) fun d s1 ⟨H1, I1, q1⟩ => ?_)
  cases d with
  | true => exact ha pins s1 σ H1 D I1 q1
  | false => exact hb pins s1 σ H1 D I1 q1
def tNever : TS := fun _ _ _ => False
theorem pss_never {sts : List Stmt} : PSs X sts tNever := fun _ _ _ _ _ _ h => h.elim
end

/-! ### targets -/
abbrev TG := V → St → Hp → (St → Hp → Prop) → Prop
def PG (X : Cx) (target : Expr) (t : TG) : Prop :=
  ∀ (pins : List (Addr × Obj)) (s : Shared) (σ : St) (H : Hp) (v : V) (u : Value) (Q : St → Hp → Prop), Inv X pins σ H s → RelV v u → t v σ H Q →
    wpAny (model X.prog X.w) X.A (assign target X.env u) (fun _ s' => ∃ σ' H', Inv X pins σ' H' s' ∧ Q σ' H') X.xe s
section
variable {X : Cx} {pos : Pos}
def gName (i : Nat) : TG := fun v σ H Q => Q (σ.set i (some v)) H
theorem pg_name {i : Nat} {x : Str} (hN : X.N.Nodup) (hi : X.N[i]? = some x) (hx : Loc X.env.scope x) (hf : X.fn x = true ∨ X.env.scope.names.lookup x = some .local := by first | exact .inl rfl | exact .inr rfl | assumption) : PG X (.Name x pos) (gName i) := by
  intro pins s σ H v u Q I r h
  exact wpAny_assign_Name (store_ok I hN hi hx r (fun s' I' => ⟨_, H, I', h⟩) hf)
def tAsg (te : TE) (g : TG) : TS := fun D σ H => te σ H fun x H1 => g x σ H1 D.nx
theorem ps_set {i : Nat} {x : Str} {e : Expr} {te : TE} {pos' : Pos} (hN : X.N.Nodup) (hi : X.N[i]? = some x) (hx : Loc X.env.scope x) (he : PE X e te) (hs : swapsWith e (some (.Name x pos')) pos.line X.env = pure false := by rfl) (hf : X.fn x = true ∨ X.env.scope.names.lookup x = some .local := by first | exact .inl rfl | exact .inr rfl | assumption) :
    PS X (.Assign [.Name x pos'] e pos) (tAsg te (gName i)) := by
  intro pins s σ H D I h
  refine wpAny_Assign_Name (thn (he pins s σ H _ I h) fun v s1 ⟨y, H1, I1, r1, q1⟩ => ?_) hs
  exact store_ok I1 hN hi hx r1 (fun s2 I2 => ⟨_, H1, I2, q1⟩) hf
end

/-! ### while -/
section
variable {X : Cx} {pos : Pos}
end

/-! ### what a loop or a comprehension walks -/
structure It where
  go : Nat → Hp → Prop
  yld : Nat → Hp → V → Hp → Prop
  stop : Nat → Hp → Prop
def FpOk (X : Cx) (pins : List (Addr × Obj)) (H : Hp) (b : Addr) : Prop :=
  H b = none ∧ b ≠ X.env.locals ∧ b ∉ X.fs ∧ (b ∈ X.ex ∨ X.s₀.heap.objs.size ≤ b) ∧ (∀ x c, X.env.cells.lookup x = some c → c ≠ b) ∧ ∀ p ∈ X.pn ++ pins, p.1 ≠ b
theorem Inv.fpOk {X : Cx} {pins : List (Addr × Obj)} {σ : St} {H H' : Hp} {s : Shared} {b : Addr} (I : Inv X pins σ H s) (hb : s.heap.objs.size ≤ b) (hn : H' b = none) : FpOk X pins H' b := by
  refine ⟨hn, Nat.ne_of_gt (Nat.lt_of_lt_of_le I.lt hb), I.nofs hb, .inr (Nat.le_trans I.sz hb), fun x c e z => ?_, fun p hp z => ?_⟩
  · obtain ⟨v, q⟩ := I.cell x c e
    exact absurd (Nat.lt_of_lt_of_le q.lt (by rw [z]; exact hb)) (Nat.lt_irrefl _)
  · exact absurd (Nat.lt_of_lt_of_le (Heap.lt_size (I.pin p hp).1) (by rw [z]; exact hb)) (Nat.lt_irrefl _)
structure Turn (P : Program) (w : World) (K : PySem.W.Frag) (tg : Expr) (J : It) (fp : List Addr) (it : Addr) (tn : Nat → Heap → Prop) : Prop where
  mem : it ∈ fp
  obj : ∀ i h, tn i h → ∀ b ∈ fp, ∃ o, h.get? b = some o ∧ ∀ v, o.data ≠ .cell v
  keep : ∀ i h h', tn i h → (∀ b ∈ fp, ∀ o, h.get? b = some o → h'.get? b = some o) → tn i h'
  item : ∀ (X : Cx), X.prog = P → X.w = w → X.K = K → X.calm = true → ∀ (i : Nat) (pins : List (Addr × Obj)) (s : Shared) (σ : St) (H : Hp) (E : Value → Shared → Prop), Inv X pins σ H s → (∀ b ∈ fp, FpOk X pins H b) → tn i s.heap → J.go i H →
    wpAny (model P w) X.A (pyNext (.ref it)) (fun r s1 => ∃ u, r = some u ∧
      wpAny (model P w) X.A (letOwnedTupleGo tg (.ref it) u) (fun _ s2 => ∃ x H', Inv X pins σ H' s2 ∧ RelV x u ∧ J.yld i H x H' ∧ tn (i + 1) s2.heap ∧ ∀ b ∈ fp, H' b = none) E s1) E s
  done : ∀ (X : Cx), X.prog = P → X.w = w → X.K = K → X.calm = true → ∀ (i : Nat) (pins : List (Addr × Obj)) (s : Shared) (σ : St) (H : Hp) (E : Value → Shared → Prop), Inv X pins σ H s → (∀ b ∈ fp, FpOk X pins H b) → tn i s.heap → J.stop i H →
    wpAny (model P w) X.A (pyNext (.ref it)) (fun r s1 => r = none ∧ Inv X pins σ H s1) E s
  self : ∀ (A : Around) (i : Nat) (s : Shared) (Q : Value → Shared → Prop) (E : Value → Shared → Prop), tn i s.heap → Q (.ref it) s → wpAny (model P w) A (pyIter (.ref it)) Q E s
abbrev TI := St → Hp → (It → Hp → Prop) → Prop
def PIE (X : Cx) (pins : List (Addr × Obj)) (σ : St) (tg : Expr) (R : It → Hp → Prop) (itv : Value) (s2 : Shared) : Prop :=
  ∃ (it : Addr) (fp : List Addr) (tn : Nat → Heap → Prop) (J : It) (H' : Hp), itv = .ref it ∧ Inv X pins σ H' s2 ∧ Turn X.prog X.w X.K tg J fp it tn ∧ tn 0 s2.heap ∧ (∀ b ∈ fp, FpOk X pins H' b) ∧ R J H'
def PI (X : Cx) (tg iter : Expr) (wi : TI) : Prop :=
  ∀ (pins : List (Addr × Obj)) (s : Shared) (σ : St) (H : Hp) (R : It → Hp → Prop), Inv X pins σ H s → wi σ H R →
    wpAny (model X.prog X.w) X.A (eval iter X.env) (fun v s1 => wpAny (model X.prog X.w) X.A (pyIter v) (PIE X pins σ tg R) X.xe s1) X.xe s

theorem go_of {M : Model} {A : Around} {E : Value → Shared → Prop} {s : Shared} {tg : Expr} {it : Addr} {u : Value} {o : Obj} {n : String} {vs : Array Value} {Q : Unit → Shared → Prop} (ho : s.heap.get? it = some o) (hc : o.cls = .type n) (hd : o.data = .fields vs)
    (hn : ["enumerate", "zip", "dict_itemiterator", "dict_reverseitemiterator", "odict_iterator", "itertools.zip_longest", "itertools.pairwise"].contains n = false) (hQ : Q () s) : wpAny M A (letOwnedTupleGo tg (.ref it) u) Q E s := by
  unfold letOwnedTupleGo
  cases tg <;> first
    | exact wpAny_pure hQ
    | (cases u <;> first
        | exact wpAny_pure hQ
        | (refine wpAny_bind (wpAny_load ho ?_)
           rw [hc, hd]
           show wpAny M A (if (["enumerate", "zip", "dict_itemiterator", "dict_reverseitemiterator", "odict_iterator", "itertools.zip_longest", "itertools.pairwise"].contains n && vs[0]? == some (rawInt _)) = true then _ else _) Q E s
           rw [if_neg (by intro h; rw [hn, Bool.false_and] at h; cases h)]
           exact wpAny_pure hQ))

def Itl (K : PySem.W.Frag) (a : Addr) : It :=
  ⟨fun i H => ∃ xs x, SqL K H a xs ∧ xs[i]? = some x, fun i H x H' => H' = H ∧ ∀ xs, SqL K H a xs → xs[i]? = some x, fun i H => ∃ xs, SqL K H a xs ∧ xs.length ≤ i⟩
theorem turn_list {P : Program} {w : World} {K : PySem.W.Frag} {tg : Expr} (a it : Addr) : Turn P w K tg (Itl K a) [it] it (fun i h => h.IsListIter it a i) where
  mem := by simp
  obj := fun i h st b hb => by
    have e : b = it := by simpa using hb
    subst e
    obtain ⟨o, e, c, d⟩ := st
    exact ⟨o, e, fun v z => by rw [d] at z; cases z⟩
  keep := fun i h h' st k => st.at fun o e => k it (by simp) o e
  item := by
    intro X hP hw hK hc i pins s σ H E I hf st hg
    subst hP hw hK
    obtain ⟨xs, x, hq, hx⟩ := hg
    obtain ⟨its, rv, p, hz⟩ := I.list hq
    obtain ⟨u, hu, ru⟩ := rv.get hx
    obtain ⟨f0, f1, f2, f3, f4, f5⟩ := hf it (by simp)
    refine wpAny_pyNext_list_item st p.isList (x := u) (by simpa using hu) fun h' st' sb => ?_
    have I1 : Inv X pins σ H { s with heap := h' } := I.turned (t' := s.toks) (fun b o hb e => (sb.2 b hb).trans e) f0 f1 f3 f4 f5
    obtain ⟨o, e, c, d⟩ := id st'
    exact ⟨u, rfl, go_of (s := { s with heap := h' }) e c d (by decide) ⟨x, H, I1, ru, ⟨rfl, fun ys hy => by rw [I.list_inj hy hq]; exact hx⟩, st', fun b hb => (hf b hb).1⟩⟩
  done := by
    intro X hP hw hK hc i pins s σ H E I hf st hg
    subst hP hw hK
    obtain ⟨xs, hq, hx⟩ := hg
    obtain ⟨its, rv, p, hz⟩ := I.list hq
    obtain ⟨f0, f1, f2, f3, f4, f5⟩ := hf it (by simp)
    have hl := rv.length
    exact wpAny_pyNext_list_end (I.ok.hd hc) st p.isList (by simp; omega) fun h' eb => ⟨rfl, I.turned (t' := s.toks) (fun b o hb e => eb b o hb e) f0 f1 f3 f4 f5⟩
  self := fun _ _ _ _ _ st h => wpAny_pyIter_listiter st h
end L2

namespace L2
open PySem PySem.Spec PyProof.Rows
section
variable {X : Cx} {tg : Expr}
def iList (K : PySem.W.Frag) (tl : TE) : TI := fun σ H R => tl σ H fun x H1 => ∃ a, x = .ref a ∧ (∃ xs, SqL K H1 a xs) ∧ R (Itl K a) H1
theorem pi_list {l : Expr} {tl : TE} (hl : PE X l tl) : PI X tg l (iList X.K tl) := by
  intro pins s σ H R I h
  refine thn (hl pins s σ H _ I h) fun v s1 ⟨x, H1, I1, r1, q1⟩ => ?_
  obtain ⟨a, e, ⟨xs, hq⟩, q⟩ := q1
  subst e
  cases r1
  obtain ⟨its, rv, p, hz⟩ := I1.list hq
  refine wpAny_pyIter_list p.isList ?_
  refine ⟨s1.heap.objs.size, [s1.heap.objs.size], _, _, H1, rfl, I1.kept (t' := s1.toks) fun b o e => Heap.get?_push_of_some _ e, turn_list a _, ⟨_, Heap.get?_push_size _ rfl, rfl, rfl⟩, fun b hb => ?_, q⟩
  have e : b = s1.heap.objs.size := by simpa using hb
  subst e
  exact I1.fpOk (Nat.le_refl _) (I1.hok.fresh (Nat.le_refl _))
/-! ### for -/
def tFor (wi : TI) (g : TG) (tb : TS) : TS := fun D σ H => wi σ H fun J H1 => ∃ W : Nat → Nat → St → Hp → Prop, (∃ m, W 0 m σ H1) ∧ ∀ i m σ H, W i m σ H →
  (J.stop i H ∧ D.nx σ H) ∨ (J.go i H ∧ ∃ N : St → Hp → Prop, (∀ σ' H', N σ' H' → ∃ m', m' < m ∧ W (i + 1) m' σ' H') ∧ ∀ x H', J.yld i H x H' → g x σ H' fun σ2 H2 => tb { D with nx := N, ct := N, bk := D.nx } σ2 H2)
def pinsAt (fp : List Addr) (h : Heap) : List (Addr × Obj) := fp.filterMap fun b => (h.get? b).map fun o => (b, o)
theorem mem_pinsAt {fp : List Addr} {h : Heap} {b : Addr} {o : Obj} (hb : b ∈ fp) (e : h.get? b = some o) : (b, o) ∈ pinsAt fp h := List.mem_filterMap.mpr ⟨b, hb, by rw [e]; rfl⟩
theorem of_pinsAt {fp : List Addr} {h : Heap} {p : Addr × Obj} (hp : p ∈ pinsAt fp h) : p.1 ∈ fp ∧ h.get? p.1 = some p.2 := by
  obtain ⟨b, hb, e⟩ := List.mem_filterMap.mp hp
  cases q : h.get? b with
  | none => rw [q] at e; cases e
  | some o =>
    rw [q] at e
    have e' : (b, o) = p := Option.some.inj e
    subst e'
    exact ⟨hb, q⟩
theorem Inv.pinned {pins : List (Addr × Obj)} {σ : St} {H : Hp} {s : Shared} {fp : List Addr} (I : Inv X pins σ H s) (hf : ∀ b ∈ fp, FpOk X pins H b) (ho : ∀ b ∈ fp, ∃ o, s.heap.get? b = some o ∧ ∀ v, o.data ≠ .cell v) : Inv X (pins ++ pinsAt fp s.heap) σ H s :=
  I.pins_of fun p hp => (List.mem_append.mp hp).elim (fun z => I.pin p (List.mem_append_right _ z)) fun z => by
    obtain ⟨hb, e⟩ := of_pinsAt z
    obtain ⟨f0, f1, f2, _⟩ := hf p.1 hb
    obtain ⟨o, e', d⟩ := ho p.1 hb
    rw [e] at e'; cases e'
    exact ⟨e, f0, f1, f2, d⟩
theorem Inv.unpinned {pins pl : List (Addr × Obj)} {σ : St} {H : Hp} {s : Shared} (I : Inv X (pins ++ pl) σ H s) : Inv X pins σ H s := I.pins_of fun p hp => I.pin p (List.mem_append_right _ (List.mem_append_left _ hp))
theorem ps_for {iter : Expr} {body : List Stmt} {wi : TI} {g : TG} {tb : TS} {pos : Pos} (hp : PassesOwn (model X.prog X.w) X.A X.env X.xe) (hc : X.calm = true) (hi : PI X tg iter wi) (hg : PG X tg g) (hb : PSs X body tb)
    (hs : ∀ x, foldedSetIterable iter X.env x = pure x := by intro _; rfl) : PS X (.For tg iter body [] pos) (tFor wi g tb) := by
  intro pins s σ H D I h
  refine wpAny_For (thn (hi pins s σ H _ I h) fun v s1 h1 => thn h1 fun itv s2 h2 => ?_) hs
  obtain ⟨it, fp, tn, J, H2, e, I2, T, st2, f2, W, ⟨m0, w0⟩, turn⟩ := h2
  subst e
  -- what stays true of the iterator's objects through the loop
  have stat : ∀ {H' : Hp}, (∀ b ∈ fp, H' b = none) → ∀ b ∈ fp, FpOk X pins H' b := fun hn b hb => ⟨hn b hb, (f2 b hb).2⟩
  refine codeAny_forLoop_any (fun n s' => ∃ i σ' H', Inv X pins σ' H' s' ∧ tn i s'.heap ∧ (∀ b ∈ fp, H' b = none) ∧ W i n σ' H') ?_ m0 ⟨0, σ, H2, I2, st2, fun b hb => (f2 b hb).1, w0⟩
  rintro n s3 ⟨i, σ3, H3, I3, st3, fr3, w3⟩
  rcases turn i n σ3 H3 w3 with ⟨stop, qn⟩ | ⟨go, N, hN, step⟩
  · refine wpAny_passesOwn hp (thn (T.done X rfl rfl rfl hc i pins s3 σ3 H3 X.xe I3 (stat fr3) st3 stop) fun r s4 ⟨hr, I4⟩ => ?_)
    subst hr
    exact wpAny_execs_nil ⟨σ3, H3, I4, qn⟩
  · refine wpAny_passesOwn hp (thn (T.item X rfl rfl rfl hc i pins s3 σ3 H3 X.xe I3 (stat fr3) st3 go) fun r s4 ⟨u, hr, h4⟩ => ?_)
    subst hr
    refine wpAny_passesOwn hp (thn h4 fun _ s5 ⟨x, H5, I5, r5, y5, st5, fr5⟩ => ?_)
    have I5' := I5.pinned (stat fr5) (T.obj _ _ st5)
    refine wpAny_passesOwn hp (thn (hg _ s5 σ3 H5 x u _ I5' r5 (step x H5 y5)) fun _ s6 ⟨σ6, H6, I6, q6⟩ => ?_)
    refine wpAny_passesOwn hp (thn (hb _ s6 σ6 H6 _ I6 q6) fun f s7 q7 => ?_)
    have again : ∀ {σ7 : St} {H7 : Hp}, Inv X (pins ++ pinsAt fp s5.heap) σ7 H7 s7 → N σ7 H7 → ∃ m, m < n ∧ ∃ i σ' H', Inv X pins σ' H' s7 ∧ tn i s7.heap ∧ (∀ b ∈ fp, H' b = none) ∧ W i m σ' H' := fun {σ7 H7} I7 n7 => by
      obtain ⟨m', hm, w7⟩ := hN σ7 H7 n7
      refine ⟨m', hm, i + 1, σ7, H7, I7.unpinned, T.keep _ _ _ st5 fun b hb o e => (I7.pin (b, o) (List.mem_append_right _ (List.mem_append_right _ (mem_pinsAt hb e)))).1, fun b hb => ?_, w7⟩
      obtain ⟨o, e, d⟩ := T.obj _ _ st5 b hb
      exact (I7.pin (b, o) (List.mem_append_right _ (List.mem_append_right _ (mem_pinsAt hb e)))).2.1
    cases f with
    | next => obtain ⟨σ7, H7, I7, n7⟩ := q7; exact again I7 n7
    | cont => obtain ⟨σ7, H7, I7, n7⟩ := q7; exact again I7 n7
    | brk => obtain ⟨σ7, H7, I7, q7⟩ := q7; exact ⟨σ7, H7, I7.unpinned, q7⟩
    | ret v => obtain ⟨x7, σ7, H7, I7, r7, q7⟩ := q7; exact ⟨x7, σ7, H7, I7.unpinned, r7, q7⟩
end

/-! ### the forms one uses -/
theorem for_list {K : PySem.W.Frag} {a : Addr} {xs : List V} {g : TG} {tb : TS} {D : Ends} {σ : St} {H : Hp} (Pv : Nat → St → Hp → Prop) (h0 : Pv 0 σ H) (hl : ∀ i σ H, i ≤ xs.length → Pv i σ H → SqL K H a xs)
    (hs : ∀ i x σ H, xs[i]? = some x → Pv i σ H → g x σ H fun σ2 H2 => tb { D with nx := Pv (i + 1), ct := Pv (i + 1), bk := D.nx } σ2 H2) (hd : ∀ σ H, Pv xs.length σ H → D.nx σ H) :
    ∃ W : Nat → Nat → St → Hp → Prop, (∃ m, W 0 m σ H) ∧ ∀ i m σ H, W i m σ H →
      ((Itl K a).stop i H ∧ D.nx σ H) ∨ ((Itl K a).go i H ∧ ∃ N : St → Hp → Prop, (∀ σ' H', N σ' H' → ∃ m', m' < m ∧ W (i + 1) m' σ' H') ∧ ∀ x H', (Itl K a).yld i H x H' → g x σ H' fun σ2 H2 => tb { D with nx := N, ct := N, bk := D.nx } σ2 H2) := by
  refine ⟨fun i m σ H => m = xs.length - i ∧ i ≤ xs.length ∧ Pv i σ H, ⟨xs.length, by simp, Nat.zero_le _, h0⟩, ?_⟩
  rintro i m σ H ⟨rfl, hi, p⟩
  have q := hl i σ H hi p
  by_cases hlt : i < xs.length
  · refine .inr ⟨⟨xs, xs[i], q, by simp [hlt]⟩, Pv (i + 1), fun σ' H' p' => ⟨xs.length - (i + 1), by omega, rfl, hlt, p'⟩, fun x H' y => ?_⟩
    obtain ⟨e, y⟩ := y
    subst e
    exact hs i x σ _ (y xs q) p
  · have e : i = xs.length := by omega
    subst e
    exact .inl ⟨⟨xs, q, Nat.le_refl _⟩, hd σ H p⟩
end L2

namespace L2
open PySem PySem.Spec PyProof.Rows

abbrev R2 := V → V → Hp → VK → Prop
def OpR (X : Cx) (f : Value → Value → Sem Value) (r : R2) : Prop :=
  ∀ (pins : List (Addr × Obj)) (s : Shared) (σ : St) (H : Hp) (x y : V) (v u : Value) (Q : VK), Inv X pins σ H s → RelV x v → RelV y u → r x y H Q →
    wpAny (model X.prog X.w) X.A (f v u) (EP X pins σ Q) X.xe s
def UnR (X : Cx) (f : Value → Sem Value) (r : V → Hp → VK → Prop) : Prop :=
  ∀ (pins : List (Addr × Obj)) (s : Shared) (σ : St) (H : Hp) (x : V) (v : Value) (Q : VK), Inv X pins σ H s → RelV x v → r x H Q →
    wpAny (model X.prog X.w) X.A (f v) (EP X pins σ Q) X.xe s
def CallR (X : Cx) (f : Value) (r : List V → Hp → VK → Prop) : Prop :=
  ∀ (pins : List (Addr × Obj)) (s : Shared) (σ : St) (H : Hp) (xs : List V) (us : List Value) (Q : VK), Inv X pins σ H s → Vals xs us → r xs H Q →
    wpAny (model X.prog X.w) X.A (call f us) (EP X pins σ Q) X.xe s
def tOp (r : R2) (ta tb : TE) : TE := fun σ H Q => ta σ H fun x H1 => tb σ H1 fun y H2 => r x y H2 Q
def tUn (r : V → Hp → VK → Prop) (ta : TE) : TE := fun σ H Q => ta σ H fun x H1 => r x H1 Q
def rI (C : Int → Int → Prop) (g : Int → Int → V) : R2 := fun x y H Q => ∃ i j, x = .int i ∧ y = .int j ∧ C i j ∧ Q (g i j) H
def rI0 (g : Int → Int → V) : R2 := fun x y H Q => ∃ i j, x = .int i ∧ y = .int j ∧ Q (g i j) H
def rU (g : Int → V) : V → Hp → VK → Prop := fun x H Q => ∃ i, x = .int i ∧ Q (g i) H

section
variable {X : Cx} {a b c : Expr} {ta tb tc : TE} {pos : Pos}

theorem binT (ha : PE X a ta) (hb : PE X b tb) {pins : List (Addr × Obj)} {s : Shared} {σ : St} {H : Hp} {R : V → V → Hp → Prop} (I : Inv X pins σ H s)
    (h : ta σ H fun x H1 => tb σ H1 fun y H2 => R x y H2) {Q : Value → Shared → Prop} {f : Value → Value → Sem Value}
    (hf : ∀ v u s2 x y H2, Inv X pins σ H2 s2 → RelV x v → RelV y u → R x y H2 → wpAny (model X.prog X.w) X.A (f v u) Q X.xe s2) :
    wpAny (model X.prog X.w) X.A (eval a X.env) (fun v s₁ => wpAny (model X.prog X.w) X.A (eval b X.env) (fun u s₂ => wpAny (model X.prog X.w) X.A (f v u) Q X.xe s₂) X.xe s₁) X.xe s := by
  refine thn (ha pins s σ H _ I h) fun v s1 ⟨x, H1, I1, r1, q1⟩ => ?_
  refine thn (hb pins s1 σ H1 _ I1 q1) fun u s2 ⟨y, H2, I2, r2, q2⟩ => ?_
  exact hf v u s2 x y H2 I2 r1 r2 q2

theorem pe_op {op : Operator} {r : R2} (ho : OpR X (binaryOp op) r) (ha : PE X a ta) (hb : PE X b tb) : PE X (.BinOp a op b pos) (tOp r ta tb) := by
  intro pins s σ H Q I h
  exact wpAny_BinOp (binT ha hb I h fun v u s2 x y H2 I2 rx ry q => ho pins s2 σ H2 x y v u Q I2 rx ry q)
theorem pe_un {op : UnaryOp} {r : V → Hp → VK → Prop} (ho : UnR X (unaryOp op) r) (ha : PE X a ta) : PE X (.UnaryOp op a pos) (tUn r ta) := by
  intro pins s σ H Q I h
  exact UnaryOp_ (thn (ha pins s σ H _ I h) fun v s1 ⟨x, H1, I1, r1, q1⟩ => ho pins s1 σ H1 x v Q I1 r1 q1)
/-! ### ints -/
theorem opI {f : Value → Value → Sem Value} {C : Int → Int → Prop} {g : Int → Int → Int}
    (rule : ∀ (i j : Int) (t u : Tok) (s : Shared) (Q : Value → Shared → Prop) (E : Value → Shared → Prop), C i j → Q (.int (g i j) s.toks) { s with toks := s.toks + 1 } → wpAny (model X.prog X.w) X.A (f (.int i t) (.int j u)) Q E s) :
    OpR X f (rI C fun i j => .int (g i j)) := by
  intro pins s σ H x y v u Q I rx ry h
  obtain ⟨i, j, rfl, rfl, hc, q⟩ := h
  obtain ⟨t, rfl⟩ := rx
  obtain ⟨t', rfl⟩ := ry
  exact rule i j t t' s _ _ hc ⟨.int (g i j), H, I.tok _, ⟨_, rfl⟩, q⟩
theorem opI0 {f : Value → Value → Sem Value} {g : Int → Int → Int}
    (rule : ∀ (i j : Int) (t u : Tok) (s : Shared) (Q : Value → Shared → Prop) (E : Value → Shared → Prop), Q (.int (g i j) s.toks) { s with toks := s.toks + 1 } → wpAny (model X.prog X.w) X.A (f (.int i t) (.int j u)) Q E s) :
    OpR X f (rI0 fun i j => .int (g i j)) := by
  intro pins s σ H x y v u Q I rx ry h
  obtain ⟨i, j, rfl, rfl, q⟩ := h
  obtain ⟨t, rfl⟩ := rx
  obtain ⟨t', rfl⟩ := ry
  exact rule i j t t' s _ _ ⟨.int (g i j), H, I.tok _, ⟨_, rfl⟩, q⟩
theorem opB0 {f : Value → Value → Sem Value} {g : Int → Int → Bool}
    (rule : ∀ (i j : Int) (t u : Tok) (s : Shared) (Q : Value → Shared → Prop) (E : Value → Shared → Prop), Q (.bool (g i j)) s → wpAny (model X.prog X.w) X.A (f (.int i t) (.int j u)) Q E s) :
    OpR X f (rI0 fun i j => .bl (g i j)) := by
  intro pins s σ H x y v u Q I rx ry h
  obtain ⟨i, j, rfl, rfl, q⟩ := h
  obtain ⟨t, rfl⟩ := rx
  obtain ⟨t', rfl⟩ := ry
  exact rule i j t t' s _ _ ⟨.bl (g i j), H, I, rfl, q⟩

def CDiv (i j : Int) : Prop := 0 < j ∧ j < 1073741824
def CMul (i j : Int) : Prop := (-(2 ^ 64) < i ∧ i < 2 ^ 64) ∨ (-(2 ^ 64) < j ∧ j < 2 ^ 64)
theorem CMul.ok {i j : Int} (h : CMul i j) : IntMulOk i j := by
  rcases h with ⟨h1, h2⟩ | ⟨h1, h2⟩
  · exact .of_left (intBits_le_64 h1 h2)
  · exact .of_right (intBits_le_64 h1 h2)
theorem op_add : OpR X (binaryOp .Add) (rI0 fun i j => .int (i + j)) := opI0 fun _ _ _ _ _ _ _ q => add_int q
theorem op_sub : OpR X (binaryOp .Sub) (rI0 fun i j => .int (i - j)) := opI0 fun _ _ _ _ _ _ _ q => sub_int q
theorem op_mul : OpR X (binaryOp .Mult) (rI CMul fun i j => .int (i * j)) := opI fun _ _ _ _ _ _ _ hc q => mul_int q hc.ok
theorem op_fdiv : OpR X (binaryOp .FloorDiv) (rI CDiv fun i j => .int (i / j)) := opI fun i j _ _ _ _ _ hc q => by
  have h1 : (0 : Int) < j := hc.1
  have h2 : j < 1073741824 := hc.2
  exact floordiv_int (by omega) (by rw [Int.fdiv_eq_ediv_of_nonneg i (by omega)]; exact q) (.inl (PyProof.noPylong_small (by omega)))
theorem op_mod : OpR X (binaryOp .Mod) (rI (fun _ j => 0 < j) fun i j => .int (i % j)) := opI fun i j _ _ _ _ _ hc q => by
  have h1 : (0 : Int) < j := hc
  exact mod_int' (by omega) (by rw [Int.fmod_eq_emod_of_nonneg i (by omega)]; exact q)
theorem unI {f : Value → Sem Value} {g : Int → Int}
    (rule : ∀ (i : Int) (t : Tok) (s : Shared) (Q : Value → Shared → Prop) (E : Value → Shared → Prop), Q (.int (g i) s.toks) { s with toks := s.toks + 1 } → wpAny (model X.prog X.w) X.A (f (.int i t)) Q E s) :
    UnR X f (rU fun i => .int (g i)) := by
  intro pins s σ H x v Q I rx h
  obtain ⟨i, rfl, q⟩ := h
  obtain ⟨t, rfl⟩ := rx
  exact rule i t s _ _ ⟨.int (g i), H, I.tok _, ⟨_, rfl⟩, q⟩
theorem un_neg : UnR X (unaryOp .USub) (rU fun i => .int (-i)) := unI fun _ _ _ _ _ q => neg_int q
/-! ### bools among ints: n += (a < b) -/
end

/-! ### comparisons -/
def scal : V → V → Bool
  | .non, .non => true | .non, .int _ => true | .int _, .non => true | .non, .bl _ => true | .bl _, .non => true | .non, .str _ => true | .str _, .non => true
  | .int _, .int _ => true | .bl _, .bl _ => true | .str _, .str _ => true | .byt _, .byt _ => true
  | .int _, .str _ => true | .str _, .int _ => true | .bl _, .str _ => true | .str _, .bl _ => true
  | _, _ => false
def rEq : R2 := fun x y H Q => scal x y = true ∧ Q (.bl (decide (x = y))) H
def rNe : R2 := fun x y H Q => scal x y = true ∧ Q (.bl (!decide (x = y))) H

theorem dec_int {i j : Int} : decide (V.int i = V.int j) = (i == j) := by
  rw [Bool.eq_iff_iff]
  simp
theorem dec_bl {i j : Bool} : decide (V.bl i = V.bl j) = (i == j) := by
  rw [Bool.eq_iff_iff]
  simp
theorem dec_str {i j : Str} : decide (V.str i = V.str j) = (i == j) := by
  rw [Bool.eq_iff_iff]
  simp
theorem dec_byt {i j : Array UInt8} : decide (V.byt i = V.byt j) = (i.toList == j.toList) := by
  rw [Bool.eq_iff_iff]
  cases i
  cases j
  simp

section
variable {X : Cx} {a b c : Expr} {ta tb tc : TE} {pos : Pos}
theorem fin_bl {pins : List (Addr × Obj)} {σ : St} {H : Hp} {s : Shared} {Q : VK} {k k' : Bool} (I : Inv X pins σ H s) (q : Q (.bl k) H) (e : k = k') : EP X pins σ Q (.bool k') s := by
  subst e
  exact ⟨.bl k, H, I, rfl, q⟩
theorem op_eq : OpR X (compareOp .Eq) rEq := by
  intro pins s σ H x y v u Q I rx ry h
  obtain ⟨hs, q⟩ := h
  cases x with
  | non =>
    cases rx
    cases y with
    | non => cases ry; exact PySem.EqNone.eq_none_none (fin_bl I q (by simp))
    | bl j => cases ry; exact PySem.EqNone.eq_none_bool (fin_bl I q (by simp))
    | int j => obtain ⟨t', rfl⟩ := ry; exact PySem.EqNone.eq_none_int (fin_bl I q (by simp))
    | str j => obtain ⟨t', rfl⟩ := ry; exact PySem.EqNone.eq_none_str (fin_bl I q (by simp))
    | _ => exact absurd (show false = true from hs) Bool.false_ne_true
  | bl i =>
    cases rx
    cases y with
    | non => cases ry; exact PySem.EqNone.eq_bool_none (fin_bl I q (by simp))
    | bl j => cases ry; exact eq_bool (fin_bl I q dec_bl)
    | str j => obtain ⟨t', rfl⟩ := ry; exact PySem.EqMixed.eq_bool_str (fin_bl I q (by simp))
    | _ => exact absurd (show false = true from hs) Bool.false_ne_true
  | int i =>
    obtain ⟨t, rfl⟩ := rx
    cases y with
    | non => cases ry; exact PySem.EqNone.eq_int_none (fin_bl I q (by simp))
    | int j => obtain ⟨t', rfl⟩ := ry; exact eq_int (fin_bl I q dec_int)
    | str j => obtain ⟨t', rfl⟩ := ry; exact PySem.EqMixed.eq_int_str (fin_bl I q (by simp))
    | _ => exact absurd (show false = true from hs) Bool.false_ne_true
  | str i =>
    obtain ⟨t, rfl⟩ := rx
    cases y with
    | non => cases ry; exact PySem.EqNone.eq_str_none (fin_bl I q (by simp))
    | bl j => cases ry; exact PySem.EqMixed.eq_str_bool (fin_bl I q (by simp))
    | int j => obtain ⟨t', rfl⟩ := ry; exact PySem.EqMixed.eq_str_int (fin_bl I q (by simp))
    | str j => obtain ⟨t', rfl⟩ := ry; exact eq_str (fin_bl I q dec_str)
    | _ => exact absurd (show false = true from hs) Bool.false_ne_true
  | byt i =>
    obtain ⟨t, rfl⟩ := rx
    cases y with
    | byt j => obtain ⟨t', rfl⟩ := ry; exact PySem.W.eq_bytes (fin_bl I q dec_byt)
    | _ => exact absurd (show false = true from hs) Bool.false_ne_true
  | _ => cases y <;> exact absurd (show false = true from hs) Bool.false_ne_true
theorem op_ne : OpR X (compareOp .NotEq) rNe := by
  intro pins s σ H x y v u Q I rx ry h
  obtain ⟨hs, q⟩ := h
  cases x with
  | non =>
    cases rx
    cases y with
    | non => cases ry; exact PySem.EqNone.ne_none_none (fin_bl I q (by simp))
    | bl j => cases ry; exact PySem.EqNone.ne_none_bool (fin_bl I q (by simp))
    | int j => obtain ⟨t', rfl⟩ := ry; exact PySem.EqNone.ne_none_int (fin_bl I q (by simp))
    | str j => obtain ⟨t', rfl⟩ := ry; exact PySem.EqNone.ne_none_str (fin_bl I q (by simp))
    | _ => exact absurd (show false = true from hs) Bool.false_ne_true
  | bl i =>
    cases rx
    cases y with
    | non => cases ry; exact PySem.EqNone.ne_bool_none (fin_bl I q (by simp))
    | bl j => cases ry; exact ne_bool (fin_bl I q (congrArg not dec_bl))
    | str j => obtain ⟨t', rfl⟩ := ry; exact PySem.EqMixed.ne_bool_str (fin_bl I q (by simp))
    | _ => exact absurd (show false = true from hs) Bool.false_ne_true
  | int i =>
    obtain ⟨t, rfl⟩ := rx
    cases y with
    | non => cases ry; exact PySem.EqNone.ne_int_none (fin_bl I q (by simp))
    | int j => obtain ⟨t', rfl⟩ := ry; exact ne_int (fin_bl I q (congrArg not dec_int))
    | str j => obtain ⟨t', rfl⟩ := ry; exact PySem.EqMixed.ne_int_str (fin_bl I q (by simp))
    | _ => exact absurd (show false = true from hs) Bool.false_ne_true
  | str i =>
    obtain ⟨t, rfl⟩ := rx
    cases y with
    | non => cases ry; exact PySem.EqNone.ne_str_none (fin_bl I q (by simp))
    | bl j => cases ry; exact PySem.EqMixed.ne_str_bool (fin_bl I q (by simp))
    | int j => obtain ⟨t', rfl⟩ := ry; exact PySem.EqMixed.ne_str_int (fin_bl I q (by simp))
    | str j => obtain ⟨t', rfl⟩ := ry; exact ne_str (fin_bl I q (congrArg not dec_str))
    | _ => exact absurd (show false = true from hs) Bool.false_ne_true
  | byt i =>
    obtain ⟨t, rfl⟩ := rx
    cases y with
    | byt j => obtain ⟨t', rfl⟩ := ry; exact PySem.W.ne_bytes (fin_bl I q (congrArg not dec_byt))
    | _ => exact absurd (show false = true from hs) Bool.false_ne_true
  | _ => cases y <;> exact absurd (show false = true from hs) Bool.false_ne_true

theorem op_lt : OpR X (compareOp .Lt) (rI0 fun i j => .bl (decide (i < j))) := opB0 fun _ _ _ _ _ _ _ q => lt_int q
theorem op_le : OpR X (compareOp .LtE) (rI0 fun i j => .bl (decide (i ≤ j))) := opB0 fun _ _ _ _ _ _ _ q => le_int q
theorem op_gt : OpR X (compareOp .Gt) (rI0 fun i j => .bl (decide (j < i))) := opB0 fun _ _ _ _ _ _ _ q => gt_int q
theorem op_isN : OpR X (compareOp .Is) (fun x y H Q => y = .non ∧ Q (.bl (decide (x = .non))) H) := by
  intro pins s σ H x y v u Q I rx ry h
  obtain ⟨rfl, q⟩ := h
  cases ry
  refine is_none_gen (fin_bl I q ?_)
  cases x <;> first
    | (cases rx; rfl)
    | (obtain ⟨t, rfl⟩ := rx; rfl)
theorem op_notN : OpR X (compareOp .IsNot) (fun x y H Q => y = .non ∧ Q (.bl (!decide (x = .non))) H) := by
  intro pins s σ H x y v u Q I rx ry h
  obtain ⟨rfl, q⟩ := h
  cases ry
  refine isnot_none_gen (fin_bl I q ?_)
  cases x <;> first
    | (cases rx; rfl)
    | (obtain ⟨t, rfl⟩ := rx; rfl)

theorem nomark (b : Expr) {op : CmpOp} (h : op ≠ .In := by decide) (h2 : op ≠ .NotIn := by decide) : behindInMarks op b = false := by
  have e1 : (op == CmpOp.In) = false := by cases op <;> first | rfl | exact absurd rfl h
  have e2 : (op == CmpOp.NotIn) = false := by cases op <;> first | rfl | exact absurd rfl h2
  cases b <;> simp [behindInMarks, e1, e2]
theorem pe_cmpR {op : CmpOp} {r : R2} (ho : OpR X (compareOp op) r) (ha : PE X a ta) (hb : PE X b tb) (hm : behindInMarks op b = false) : PE X (.Compare a [op] [b] pos) (tOp r ta tb) := by
  intro pins s σ H Q I h
  exact wpAny_Compare1 (binT ha hb I h fun v u s2 x y H2 I2 rx ry q => ho pins s2 σ H2 x y v u Q I2 rx ry q) hm
def tTest (t : TE) : TT := fun σ H Q => t σ H fun x H' => ∃ k, x = .bl k ∧ Q k H'
theorem pt_cmpR {op : CmpOp} {r : R2} (ho : OpR X (compareOp op) r) (ha : PE X a ta) (hb : PE X b tb) (hm : behindInMarks op b = false) : PT X (.Compare a [op] [b] pos) (tTest (tOp r ta tb)) := by
  intro pins s σ H Q I h
  refine wpAny_isTrue_Compare1 (thn (ha pins s σ H _ I h) fun v s1 ⟨x, H1, I1, r1, q1⟩ => thn (hb pins s1 σ H1 _ I1 q1) fun u s2 ⟨y, H2, I2, r2, q2⟩ =>
    thn (ho pins s2 σ H2 x y v u _ I2 r1 r2 q2) fun c s3 ⟨z, H3, I3, r3, k, e, q3⟩ => ?_) hm
  subst e
  cases r3
  exact wpAny_truthy_bool ⟨H3, I3, q3⟩
def tChain (r r' : R2) (ta tb tc : TE) : TE := fun σ H Q => ta σ H fun x H1 => tb σ H1 fun y H2 => r x y H2 fun z H3 => ∃ k, z = .bl k ∧
  (if k = true then tc σ H3 fun w' H4 => r' y w' H4 Q else Q (.bl false) H3)
theorem pe_chain {op op' : CmpOp} {r r' : R2} (ho : OpR X (compareOp op) r) (ho' : OpR X (compareOp op') r') (ha : PE X a ta) (hb : PE X b tb) (hc : PE X c tc)
    (hm : lastMarks [op, op'] [b, c] = false := by with_unfolding_all rfl) : PE X (.Compare a [op, op'] [b, c] pos) (tChain r r' ta tb tc) := by
  intro pins s σ H Q I h
  refine Compare_chain (thn (ha pins s σ H _ I h) fun v s1 ⟨x, H1, I1, r1, q1⟩ => chain_link (thn (hb pins s1 σ H1 _ I1 q1) fun u s2 ⟨y, H2, I2, r2, q2⟩ =>
    thn (ho pins s2 σ H2 x y v u _ I2 r1 r2 q2) fun d s3 ⟨z, H3, I3, r3, k, e, q3⟩ => ?_)) hm
  subst e
  cases r3
  refine wpAny_truthy_bool ?_
  cases k with
  | false => exact ite_ff ⟨.bl false, H3, I3, rfl, q3⟩
  | true => exact ite_tt (chain_last (thn (hc pins s3 σ H3 _ I3 q3) fun w' s4 ⟨z', H4, I4, r4, q4⟩ => ho' pins s4 σ H4 y z' u w' Q I4 r2 r4 q4))
/-! ### truth -/
theorem line63 : (sizeLine : Nat) < 2 ^ 63 := by rw [sizeLine_eq]; decide
/-! ### strs and bytes -/
theorem op_add_str : OpR X (binaryOp .Add) (fun x y H Q => ∃ i j, x = .str i ∧ y = .str j ∧ i.length + j.length ≤ sizeLine ∧ Q (.str (i ++ j)) H) := by
  intro pins s σ H x y v u Q I rx ry h
  obtain ⟨i, j, rfl, rfl, hz, q⟩ := h
  obtain ⟨t, rfl⟩ := rx
  obtain ⟨t', rfl⟩ := ry
  exact add_str (fun t' tk => ⟨.str (i ++ j), H, I.tok _, ⟨_, rfl⟩, q⟩) hz
/-! ### scalar builtins, by CallR -/
theorem vals1 {x : V} {us : List Value} (r : Vals [x] us) : ∃ u, us = [u] ∧ RelV x u := by
  cases r with
  | cons r1 r2 => cases r2; exact ⟨_, rfl, r1⟩
theorem vals2 {x y : V} {us : List Value} (r : Vals [x, y] us) : ∃ u w', us = [u, w'] ∧ RelV x u ∧ RelV y w' := by
  cases r with
  | cons r1 r2 =>
    cases r2 with
    | cons r3 r4 => cases r4; exact ⟨_, _, rfl, r1, r3⟩
theorem call_max2 (hc : X.calm = true) : CallR X (.builtin "max") (fun xs H Q => ∃ i j, xs = [.int i, .int j] ∧ Q (.int (if j > i then j else i)) H) := by
  intro pins s σ H xs us Q I r h
  obtain ⟨i, j, rfl, q⟩ := h
  obtain ⟨u, w', rfl, ⟨t, rfl⟩, ⟨t', rfl⟩⟩ := vals2 r
  refine max_two_ints (I.ok.hd hc) fun h' tk k => ⟨_, H, I.kept k, ?_, q⟩
  by_cases hj : j > i
  · rw [if_pos hj, if_pos hj]; exact ⟨_, rfl⟩
  · rw [if_neg hj, if_neg hj]; exact ⟨_, rfl⟩
theorem call_min2 (hc : X.calm = true) : CallR X (.builtin "min") (fun xs H Q => ∃ i j, xs = [.int i, .int j] ∧ Q (.int (if j < i then j else i)) H) := by
  intro pins s σ H xs us Q I r h
  obtain ⟨i, j, rfl, q⟩ := h
  obtain ⟨u, w', rfl, ⟨t, rfl⟩, ⟨t', rfl⟩⟩ := vals2 r
  refine min_two_ints (I.ok.hd hc) fun h' tk k => ⟨_, H, I.kept k, ?_, q⟩
  by_cases hj : j < i
  · rw [if_pos hj, if_pos hj]; exact ⟨_, rfl⟩
  · rw [if_neg hj, if_neg hj]; exact ⟨_, rfl⟩
end
end L2

namespace L2
open PySem PySem.Spec PyProof.Rows

/-! ### an instance, its attributes a map -/
structure ObjM (h : Heap) (x dx C : Addr) (mA : Str → Option Value) : Prop where
  obj : h.get? x = some (PySem.W.instObj C dx)
  ns : h.Ns1 dx mA
  ne : dx ≠ x

theorem lookIn_ns {h : Heap} {dx : Addr} {mA : Str → Option Value} (n : h.Ns1 dx mA) : ∃ od, h.get? dx = some od ∧ ∀ name, PySem.W.lookIn name od = some (mA name) := by
  obtain ⟨o, es, ep, ho, hd, hk, _, hm⟩ := n
  refine ⟨o, ho, fun name => ?_⟩
  have e := hm name
  unfold nsFind findBy at e
  rw [← Array.find?_toList] at e
  unfold PySem.W.lookIn
  rw [hd]
  dsimp only
  split
  · rename_i y q
    rw [q] at e
    exact congrArg some e
  · rename_i q
    rw [q] at e
    have a : es.toList.any (·.refKey) = false := by
      rw [List.any_eq_false]
      intro y hy
      obtain ⟨z, t, hkey⟩ := hk y (Array.mem_toList_iff.mp hy)
      simp [DictEntry.refKey, hkey]
    have a' : ¬ es.toList.any (·.refKey) = true := by rw [a]; exact Bool.false_ne_true
    rw [if_neg a']
    exact congrArg some e

theorem ObjM.look {h : Heap} {x dx C : Addr} {mA : Str → Option Value} (I : ObjM h x dx C mA) : ∃ od, PySem.W.InstAt h x (PySem.W.instObj C dx) C (some od) ∧ ∀ name, PySem.W.lookIn name od = some (mA name) :=
  let ⟨od, ho, hl⟩ := lookIn_ns I.ns
  ⟨od, ⟨I.obj, rfl, rfl, ho⟩, hl⟩

section
variable {prog : Program} {w : World} {A : Around} {E : Value → Shared → Prop} {s : Shared} {K : PySem.W.Frag} {x dx C f : Addr} {mA : Str → Option Value} {name : Str} {v : Value}

end

/-! ### the attributes as a list of pairs -/
section
variable {P : Program} {w : World} {H H' : Hp} {h h' : Heap} {a C dx : Addr} {fs fs' : List (Str × V)}
theorem ins_get (hok : HOk P w H h) (e : H a = some (.ins C dx fs)) : ∃ mA, ObjM h a dx C mA ∧ (∀ f, RelO (fs.lookup f) (mA f)) ∧ PySem.Within mA (fs.map (·.1)) ∧ fs.length ≤ 1000 ∧ H dx = some (.own a) := by
  obtain ⟨d, z, ne, ob, mA, n, r, q⟩ := (show ObjOk P w H h a (.ins C dx fs) from hok a _ e)
  exact ⟨mA, ⟨ob, n, ne⟩, r, q, z, d⟩
end

/-! ### what of the text a class must have -/
structure Cls (K : PySem.W.Frag) (C : Addr) : Prop where
  pg : PySem.W.plainGet K C Str.empty = true
  hd : PySem.W.hasDictIn K C = true
  po : PySem.W.plainOver K C = true
  sa : PySem.W.findIn K (.ref C) "__setattr__" = some (some (.builtin "object.__setattr__"))
theorem Cls.get {K : PySem.W.Frag} {C : Addr} (c : Cls K C) (f : Str) : PySem.W.plainGet K C f = true := c.pg
section
variable {X : Cx} {pins : List (Addr × Obj)} {σ : St} {H : Hp} {s : Shared} {a C dx : Addr} {fs : List (Str × V)} {f : Str} {v : V} {A : Around} {E : Value → Shared → Prop}

end

/-! ### readings and rules -/
section
variable {X : Cx} {o e value : Expr} {f : Str} {pos pos' tpos : Pos} {ta tv : TE}
end

/-! ### isinstance -/
section
variable {X : Cx} {pins : List (Addr × Obj)} {σ : St} {H : Hp} {s : Shared} {A : Around} {E : Value → Shared → Prop} {Q : Value → Shared → Prop} {c : Value} {b : Bool}
inductive TyOf (K : PySem.W.Frag) (H : Hp) : V → Value → Prop where
  | non : TyOf K H .non (.type "NoneType")
  | bl (x : Bool) : TyOf K H (.bl x) (.type "bool")
  | int (i : Int) : TyOf K H (.int i) (.type "int")
  | str (x : Str) : TyOf K H (.str x) (.type "str")
  | flt (x : UInt64) : TyOf K H (.flt x) (.type "float")
  | lst {a : Addr} {xs : List V} (e : H a = some (.lst xs)) : TyOf K H (.ref a) (.type "list")
  | frz {a : Addr} {o : Obj} {xs : List V} (e : H a = some (.frz o (.lst xs))) : TyOf K H (.ref a) (.type "list")
  | tup {a : Addr} {xs : List V} (e : H a = some (.tup xs)) : TyOf K H (.ref a) (.type "tuple")
  | dK {a : Addr} {kvs : List (Key × V)} (e : H a = some (.dK kvs)) : TyOf K H (.ref a) (.type "dict")
  | dT {a : Addr} {kvs : List (List Key × V)} (e : H a = some (.dT kvs)) : TyOf K H (.ref a) (.type "dict")
  | ins {a C dx : Addr} {fs : List (Str × V)} (e : H a = some (.ins C dx fs)) (cl : Cls K C) (ha : PySem.W.findIn K (.ref C) "__class__" = some (some (.builtin "object.__class__")))
      (hn : PySem.W.specialIn K (.builtin "object.__class__") "__get__" = some (some (.builtin "getset_descriptor.__get__"))) (htk : PySem.W.takesIn K (.builtin "object.__class__") = some true)
      (hm : PySem.W.mroIn K C (.type "object") = some true) : TyOf K H (.ref a) (.ref C)
theorem isinst_ok {x : V} {u t : Value} (I : Inv X pins σ H s) (rx : RelV x u) (ty : TyOf X.K H x t) (e : PySem.W.kitOne X.K t c = some b) (h : ∀ tk, Q (.bool b) { s with toks := tk }) :
    wpAny (model X.prog X.w) A (call (.builtin "isinstance") [u, c]) Q E s := by
  cases ty with
  | non => cases (show u = Value.none from rx); exact PySem.W.kia_one PySem.W.kitx_none I.kIn True.intro e (fun z => nomatch z) h
  | bl y => cases (show u = Value.bool y from rx); exact PySem.W.kia_one PySem.W.kitx_bool I.kIn True.intro e (fun z => nomatch z) h
  | int i => obtain ⟨t, q⟩ := (show ∃ t, u = Value.int i t from rx); cases q; exact PySem.W.kia_one PySem.W.kitx_int I.kIn True.intro e (fun z => nomatch z) h
  | str y => obtain ⟨t, q⟩ := (show ∃ t, u = Value.str y t from rx); cases q; exact PySem.W.kia_one PySem.W.kitx_str I.kIn True.intro e (fun z => nomatch z) h
  | flt y => obtain ⟨t, q⟩ := (show ∃ t, u = Value.float y t from rx); cases q; exact PySem.W.kia_one PySem.W.kitx_float I.kIn True.intro e (fun z => nomatch z) h
  | @lst a xs ea =>
    cases (show u = Value.ref a from rx)
    obtain ⟨_, _, n, _, h1⟩ := (show ObjOk X.prog X.w H s.heap a (.lst xs) from I.hok a _ ea)
    exact PySem.W.kia_one PySem.W.kitx_list I.kIn ⟨_, h1, rfl⟩ e (fun z => nomatch z) h
  | @frz a ob xs ea =>
    cases (show u = Value.ref a from rx)
    obtain ⟨_, _, _, n, _, h1⟩ := (show ObjOk X.prog X.w H s.heap a (.frz ob (.lst xs)) from I.hok a _ ea)
    exact PySem.W.kia_one PySem.W.kitx_list I.kIn ⟨_, h1, rfl⟩ e (fun z => nomatch z) h
  | @tup a xs ea =>
    cases (show u = Value.ref a from rx)
    obtain ⟨_, _, _, p⟩ := (show ObjOk X.prog X.w H s.heap a (.tup xs) from I.hok a _ ea)
    obtain ⟨o, h1, h2, _⟩ := p
    exact PySem.W.kia_one PySem.W.kitx_tuple I.kIn ⟨o, h1, h2⟩ e (fun z => nomatch z) h
  | @dK a kvs ea =>
    cases (show u = Value.ref a from rx)
    obtain ⟨_, _, vs, _, p⟩ := (show ObjOk X.prog X.w H s.heap a (.dK kvs) from I.hok a _ ea)
    obtain ⟨o, es, ep, h1, h2, _⟩ := p
    exact PySem.W.kia_one PySem.W.kitx_dict I.kIn ⟨o, h1, h2.1⟩ e (fun z => nomatch z) h
  | @dT a kvs ea =>
    cases (show u = Value.ref a from rx)
    obtain ⟨_, _, xs, _, o, es, ep, h1, h2, _⟩ := (show ObjOk X.prog X.w H s.heap a (.dT kvs) from I.hok a _ ea)
    exact PySem.W.kia_one PySem.W.kitx_dict I.kIn ⟨o, h1, h2.1⟩ e (fun z => nomatch z) h
  | @ins a C dx fs ea cl ha hn htk hm =>
    cases (show u = Value.ref a from rx)
    obtain ⟨mA, O, _⟩ := ins_get I.hok ea
    obtain ⟨od, J, _⟩ := O.look
    exact PySem.W.kia_one (PySem.W.kitx_own (cl.get _) cl.hd ha hn htk hm) I.kIn J e (fun z => nomatch z) h
end
end L2

namespace L2
open PySem PySem.Spec PyProof.Rows

/-! ### room -/
structure Room (k : Nat) (A : Around) : Prop where
  hd : A.handled = none
  dp : A.depth + 3 * k + 5 < recursionLimit
  un : A.units + 16 * k + 200 < cLine
theorem Room.mono {j k : Nat} {A : Around} (r : Room k A) (h : j ≤ k) : Room j A := ⟨r.hd, by have := r.dp; omega, by have := r.un; omega⟩
theorem Room.deeper {k : Nat} {A : Around} (r : Room (k + 1) A) (env : Env) : Room k (A.deeper env) :=
  ⟨r.hd, by have := r.dp; show A.depth + 1 + 3 * k + 5 < _; omega, by have := r.un; show A.units + 3 + 16 * k + 200 < _; omega⟩
theorem Room.depth {k : Nat} {A : Around} (r : Room k A) : A.depth < recursionLimit := by have := r.dp; omega
theorem Room.units0 {k : Nat} {A : Around} (r : Room k A) : A.units < cLine := by have := r.un; omega

/-! ### argument lists and displays -/
def tNil : TA := fun _ H Q => Q [] H
def tCons (ta : TE) (tr : TA) : TA := fun σ H Q => ta σ H fun x H1 => tr σ H1 fun xs H2 => Q (x :: xs) H2
section
variable {X : Cx} {e : Expr} {es : List Expr} {te : TE} {t : TA} {pos : Pos}
theorem pa_nil : PA X [] tNil := fun _ _ _ _ H Q I h => Calls.spliced_nil ⟨[], H, I, .nil, h⟩
theorem pa_cons (ha : PE X e te) (hr : PA X es t) (hs : starEach (e :: es) X.env = (false, eval e X.env) :: starEach es X.env := by rfl) : PA X (e :: es) (tCons te t) := by
  intro pos pins s σ H Q I h
  rw [hs]
  show wpAny _ _ (spliced ((false, eval e X.env) :: backTo pos (starEach es X.env))) _ _ s
  refine Calls.spliced_cons (thn (ha pins s σ H _ I h) fun u s1 ⟨x, H1, I1, r1, q1⟩ => ?_)
  exact thn (hr pos pins s1 σ H1 _ I1 q1) fun us s2 ⟨xs, H2, I2, r2, q2⟩ => ⟨x :: xs, H2, I2, .cons r1 r2, q2⟩

def tTup (t : TA) : TE := fun σ H Q => t σ H fun xs H1 => xs.length ≤ sizeLine ∧ ∀ p, H1 p = none → Q (.ref p) (upd H1 p (.tup xs))
def tLst (t : TA) : TE := fun σ H Q => t σ H fun xs H1 => xs.length ≤ sizeLine ∧ ∀ p, H1 p = none → Q (.ref p) (upd H1 p (.lst xs))
theorem pe_tup {x1} (h : PA X es t) : PE X (.Tuple es x1 pos) (tTup t) := by
  intro pins s σ H Q I hq
  refine wpAny_Tuple_spliced (thn (h pos pins s σ H _ I hq) fun us s1 ⟨xs, H1, I1, r, z, q⟩ => ⟨by rw [← r.length]; exact z, ?_⟩)
  have hf : H1 s1.heap.objs.size = none := I1.hok.fresh (Nat.le_refl _)
  refine ⟨.ref s1.heap.objs.size, upd H1 s1.heap.objs.size (.tup xs), I1.laid (t' := s1.toks) (fun b u e => Heap.get?_push_of_some _ e) (Nat.le_refl _) ?_, rfl, q _ hf⟩
  exact ⟨z, us, r, ⟨_, Heap.get?_push_size _ rfl, rfl, _, rfl⟩⟩
theorem pe_lst (h : PA X es t) : PE X (.List es pos) (tLst t) := by
  intro pins s σ H Q I hq
  refine wpAny_List_spliced (thn (h pos pins s σ H _ I hq) fun us s1 ⟨xs, H1, I1, r, z, q⟩ => ⟨by rw [← r.length]; exact z, ?_⟩)
  have hf : H1 s1.heap.objs.size = none := I1.hok.fresh (Nat.le_refl _)
  refine ⟨.ref s1.heap.objs.size, upd H1 s1.heap.objs.size (.lst xs), I1.laid (t' := s1.toks) (fun b u e => Heap.get?_push_of_some _ e) (Nat.le_refl _) ?_, rfl, q _ hf⟩
  exact ⟨z, us, 0, r, Heap.get?_push_size _ rfl⟩
end

/-! ### what a def promises -/
abbrev Sp := List V → Hp → VK → XK → Prop
abbrev CXT := List Env → Hp → Shared → XK → Value → Shared → Prop

structure Env0 (P : Program) (w : World) (K : PySem.W.Frag) (mg : Str → Option Value) (base : Heap) (A : Around) (outer : List Env) (s : Shared) (H : Hp) : Prop where
  frames : A.frames = some outer
  mod : Mod K mg base
  bs : ∀ b o, base.get? b = some o → s.heap.get? b = some o ∧ H b = none
  bsz : base.objs.size ≤ s.heap.objs.size
  funs : s.heap.FunFrames base outer
  frf : ∀ b ∈ frs outer, H b = none
  hok : HOk P w H s.heap
  bare : AllBare s.gens
def CE (outer : List Env) (P : Program) (w : World) (H : Hp) (s : Shared) (Q : VK) (u : Value) (s' : Shared) : Prop :=
  ∃ v H', s'.os = s.os ∧ AllBare s'.gens ∧ Un (frs outer) [] H H' s.heap s'.heap ∧ HOk P w H' s'.heap ∧ RelV v u ∧ Q v H'
def CR (CX : CXT) (outer : List Env) (P : Program) (w : World) (H : Hp) (s : Shared) (Q : VK) (E : XK) (r : Result) (s' : Shared) : Prop :=
  match r with
  | .ok (.ret u) => CE outer P w H s Q u s'
  | .ok _ => False
  | .error e => CX outer H s E e s'
structure FnOk (P : Program) (w : World) (K : PySem.W.Frag) (mg : Str → Option Value) (base : Heap) (CX : CXT) (k : Nat) (f : Addr) (fd : FuncData) (ps : List Str) (sp : Sp) : Prop where
  len : ∀ vs H Q E, sp vs H Q E → vs.length = ps.length
  run : ∀ (A : Around) (outer : List Env) (s : Shared) (H : Hp) (args : Args) (us : List Value) (vs : List V) (Q : VK) (E : XK), Room k A → Env0 P w K mg base A outer s H → BindsTo s fd args (ps.zip us) → Vals vs us → sp vs H Q E →
    codeAny (model P w) A (.call (.ref f) args) (CR CX outer P w H s Q E) s
section
variable {X : Cx} {pins : List (Addr × Obj)} {σ : St} {H : Hp} {s s' : Shared}
theorem Inv.env0 (I : Inv X pins σ H s) : Env0 X.prog X.w X.K X.mg X.base X.A X.stack s H :=
  ⟨I.ok.frames, I.ok.mod, I.bs, Nat.le_trans I.ok.bsz I.sz, I.stack, I.stkFree, I.hok, I.bare⟩
theorem Inv.after {Q : VK} {u : Value} (I : Inv X pins σ H s) (h : CE X.stack X.prog X.w H s Q u s') : EP X pins σ Q u s' := by
  obtain ⟨v, H', os, bare, un, hok, r, q⟩ := h
  obtain ⟨hh, g, d, t, os'⟩ := s'
  obtain rfl : os' = s.os := os
  exact ⟨v, H', I.call (h' := hh) (g' := g) (d' := d) (t' := t) (ch := []) un hok bare (fun b z => absurd z (by simp)), r, q⟩
end

/-! ### calls -/
def tCall (sp : Sp) (dvs : List V) (E : XK) (t : TA) : TE := fun σ H Q => t σ H fun vs H1 => sp (vs ++ dvs) H1 Q E
def Binds (K : PySem.W.Frag) (fd : FuncData) (ps : List Str) (ds : List Value) : Prop :=
  ∀ (s : Shared) (us : List Value), K.In s.heap → (us ++ ds).length = ps.length → BindsTo s fd ⟨us, []⟩ (ps.zip (us ++ ds))
theorem Binds.all {K : PySem.W.Frag} {fd : FuncData} {ps : List Str} (h : ∀ us : List Value, us.length = ps.length → bindArgs fd ⟨us, []⟩ = pure (ps.zip us)) : Binds K fd ps [] := fun s us _ hl => by
  rw [List.append_nil] at hl ⊢
  exact .of_eq (h us hl)

def Passes (CX : CXT) (X : Cx) (E : XK) : Prop := ∀ (pins : List (Addr × Obj)) (σ : St) (H : Hp) (s : Shared) (e : Value) (s' : Shared), Inv X pins σ H s → CX X.stack H s E e s' → X.xe e s'

section
variable {X : Cx} {CX : CXT} {k : Nat} {f C : Addr} {fd : FuncData} {ps : List Str} {sp : Sp} {dvs : List V} {ds : List Value} {E : XK} {x m : Str} {p pos apos : Pos} {e o : Expr} {es : List Expr} {ta : TE} {t : TA}

theorem run_fn {pins : List (Addr × Obj)} {σ : St} {H : Hp} {s : Shared} {Q : VK} {us : List Value} {vs : List V} (F : FnOk X.prog X.w X.K X.mg X.base CX k f fd ps sp) (hr : Room k X.A) (hb : Binds X.K fd ps ds) (hd : Vals dvs ds) (hx : Passes CX X E)
    (I : Inv X pins σ H s) (r : Vals vs us) (h : sp (vs ++ dvs) H Q E) : wpAny (model X.prog X.w) X.A (call (.ref f) us) (EP X pins σ Q) X.xe s := by
  have r2 : Vals (vs ++ dvs) (us ++ ds) := r.append hd
  have hl : (us ++ ds).length = ps.length := by rw [← r2.length]; exact F.len _ _ _ _ h
  refine wpAny_call (codeAny_mono (F.run X.A X.stack s H ⟨us, []⟩ (us ++ ds) (vs ++ dvs) Q E hr I.env0 (hb s us I.kIn hl) r2 h) fun r s' hq => ?_)
  cases r with
  | error e => exact hx pins σ H s e s' I hq
  | ok fl =>
    cases fl with
    | ret u => exact I.after hq
    | next => exact False.elim hq
    | brk => exact False.elim hq
    | cont => exact False.elim hq

theorem pe_call (F : FnOk X.prog X.w X.K X.mg X.base CX k f fd ps sp) (hr : Room k X.A) (hg : Gl X x) (hm : X.mg x = some (.ref f)) (hk : PySem.W.keepIn X.K (.ref f) = true) (hb : Binds X.K fd ps ds) (hd : Vals dvs ds) (hx : Passes CX X E)
    (ha : PA X (e :: es) t) (hdb : (x == ("__debug__" : Str)) = false := by decide) (he : starEach (e :: es) X.env = (false, eval e X.env) :: starEach es X.env := by rfl) (hpl : (backTo pos (starEach es X.env)).any (·.1) = false := by rfl) :
    PE X (.Call (.Name x p) (e :: es) [] pos) (tCall sp dvs E t) := by
  intro pins s σ H Q I h
  refine wpAny_Call_Name_kw (ld_glob I hg hm ?_ hdb)
  refine PySem.W.callWith_K (h₀ := X.base) I.ok.mod.kin hk (thn (ha pos pins s σ H _ I h) fun us s1 ⟨vs, H1, I1, r, q⟩ => ⟨I1.kIn, ?_⟩) he hpl
  exact run_fn F hr hb hd hx I1 r q
end

/-! ### keywords -/
section
variable {X : Cx} {CX : CXT} {k : Nat} {f C : Addr} {fd : FuncData} {ps ks : List Str} {sp : Sp} {E : XK} {x m : Str} {p pos apos kpos : Pos} {e o : Expr} {es : List Expr} {kws : List Keyword} {te ta : TE} {t tk : TA} {nm : Option Str}
variable {g : List Value → List Value → List Value} {gV : List V → List V → List V}
end

/-! ### a def's body keeps its promise -/
structure FnScope (N P : List Str) (sc : Scope) : Prop where
  kind : sc.kind = .function
  co : sc.isCoroutine = false
  gen : sc.isGenerator = false
  nd : N.Nodup
  pre : N.take P.length = P
  par : ∀ x ∈ P, sc.names.lookup x = some .local ∨ sc.names.lookup x = some .cell
  nofree : ∀ y ∈ sc.names, y.2 ≠ .free

theorem bindL_out {kindOf : Str → Option NameKind} {x : Str} : ∀ {binds : List (Str × Value)} {m : Str → Option Value}, (∀ v, (x, v) ∉ binds) → bindL kindOf binds m x = m x
  | [], _, _ => rfl
  | (n, v) :: r, m, h => by
    unfold bindL
    rw [bindL_out fun w hw => h w (List.mem_cons_of_mem _ hw)]
    split
    · have : x ≠ n := by rintro rfl; exact h v List.mem_cons_self
      simp [this]
    · rfl
theorem bindC_out {kindOf : Str → Option NameKind} {x : Str} : ∀ {binds : List (Str × Value)} {m : Str → Option Value}, (∀ v, (x, v) ∉ binds) → bindC kindOf binds m x = m x
  | [], _, _ => rfl
  | (n, v) :: r, m, h => by
    unfold bindC
    rw [bindC_out fun w hw => h w (List.mem_cons_of_mem _ hw)]
    split
    · rfl
    · have : x ≠ n := by rintro rfl; exact h v List.mem_cons_self
      simp [this]
theorem bindL_get {kindOf : Str → Option NameKind} {x : Str} {v : Value} : ∀ {P : List Str} {vs : List Value} {i : Nat} {m : Str → Option Value}, P.Nodup → P[i]? = some x → vs[i]? = some v → kindOf x = some .local →
    bindL kindOf (P.zip vs) m x = some v
  | [], _, _, _, _, h, _, _ => by simp at h
  | _ :: _, [], _, _, _, _, h, _ => by simp at h
  | p :: P, w :: vs, 0, m, nd, h1, h2, hk => by
    simp at h1 h2; subst h1; subst h2
    show bindL kindOf ((p, w) :: P.zip vs) m p = _
    unfold bindL
    rw [bindL_out fun v hv => (List.nodup_cons.mp nd).1 (List.of_mem_zip hv).1, if_pos hk]
    simp
  | p :: P, w :: vs, i + 1, m, nd, h1, h2, hk => by
    show bindL kindOf ((p, w) :: P.zip vs) m x = _
    unfold bindL
    exact bindL_get (i := i) (List.nodup_cons.mp nd).2 (by simpa using h1) (by simpa using h2) hk
theorem bindC_get {kindOf : Str → Option NameKind} {x : Str} {v : Value} : ∀ {P : List Str} {vs : List Value} {i : Nat} {m : Str → Option Value}, P.Nodup → P[i]? = some x → vs[i]? = some v → kindOf x ≠ some .local →
    bindC kindOf (P.zip vs) m x = some v
  | [], _, _, _, _, h, _, _ => by simp at h
  | _ :: _, [], _, _, _, _, h, _ => by simp at h
  | p :: P, w :: vs, 0, m, nd, h1, h2, hk => by
    simp at h1 h2; subst h1; subst h2
    show bindC kindOf ((p, w) :: P.zip vs) m p = _
    unfold bindC
    rw [bindC_out fun v hv => (List.nodup_cons.mp nd).1 (List.of_mem_zip hv).1, if_neg hk]
    simp
  | p :: P, w :: vs, i + 1, m, nd, h1, h2, hk => by
    show bindC kindOf ((p, w) :: P.zip vs) m x = _
    unfold bindC
    exact bindC_get (i := i) (List.nodup_cons.mp nd).2 (by simpa using h1) (by simpa using h2) hk

def start (N : List Str) (vs : List V) : St := vs.map some ++ List.replicate (N.length - vs.length) none

def cxOf (CX : CXT) (P : Program) (w : World) (K : PySem.W.Frag) (mg : Str → Option Value) (base : Heap) (N : List Str) (qual : Str) (scope : Scope) (f : Addr) (cd : Value) (A : Around) (outer : List Env) (s : Shared) (H : Hp) (E : XK) : Cx where
  prog := P
  w := w
  K := K
  mg := mg
  base := base
  A := A.deeper (envOfC qual scope s.heap.objs.size f cd)
  N := N
  s₀ := s
  H₀ := H
  env := envOfC qual scope s.heap.objs.size f cd
  outer := outer
  stack := envOfC qual scope s.heap.objs.size f cd :: outer
  ex := []
  calm := true
  fn := fun _ => true
  pn := []
  xe := fun e s' => wpAny (model P w) (A.deeper (envOfC qual scope s.heap.objs.size f cd)) (leaving (envOfC qual scope s.heap.objs.size f cd) e) (fun _ s'' => CX outer H s E e s'') (fun e' s'' => CX outer H s E e' s'') s'

theorem cell_has {sc : Scope} {n : Nat} {x : Str} (h : sc.names.lookup x = some .cell) : ∃ c, (cellsFrom n sc.names []).lookup x = some c := by
  have q := PySem.W.cellsFrom_some sc.names n [] (.inl h)
  exact Option.isSome_iff_exists.mp q

theorem inv_start {CX : CXT} {P : Program} {w : World} {K : PySem.W.Frag} {mg : Str → Option Value} {base : Heap} {N ps : List Str} {qual : Str} {scope : Scope} {f : Addr} {cd : Value} {A : Around} {outer : List Env} {s s1 : Shared} {H : Hp} {E : XK} {us : List Value} {vs : List V}
    (S : FnScope N ps scope) (hd : A.handled = none) (e0 : Env0 P w K mg base A outer s H) (hl : vs.length = ps.length) (r : Vals vs us)
    (x : InCallC s s.heap.objs.size (bindL (envOfC qual scope s.heap.objs.size f cd).kindOf (ps.zip us) fun _ => none) (cellsFrom (s.heap.objs.size + 1) scope.names []) (bindC (envOfC qual scope s.heap.objs.size f cd).kindOf (ps.zip us) fun _ => none) s1) :
    Inv (cxOf CX P w K mg base N qual scope f cd A outer s H E) [] (start N vs) H s1 := by
  have hpl : ps.length ≤ N.length := by have := congrArg List.length S.pre; rw [List.length_take] at this; omega
  obtain ⟨h1, tk, rfl, hk⟩ := x.done
  have noA : ∀ b : Addr, b ∉ (cxOf CX P w K mg base N qual scope f cd A outer s H E).ex := fun b z => absurd (show b ∈ ([] : List Addr) from z) (by simp)
  refine ⟨⟨e0.mod, S.kind, rfl, rfl, Nat.le_refl _, fun y z c h1 h2 => ?_, fun y hy => ?_, fun y c _ h => ?_, fun _ => hd, Around.frames_deeper e0.frames, .inr ⟨rfl, rfl⟩, fun b z => absurd z (noA b), e0.bs, e0.bsz, fun b _ _ => noA b, fun b z => absurd z (noA b), e0.funs, e0.frf⟩,
    rfl, e0.bare, Un.kept hk, ⟨_, x.toInCall.ns, fun i y v h1 h2 h3 => ?_⟩, fun y c h => ⟨_, x.cell y c h⟩, e0.hok.fresh (Nat.le_refl _), fun y c h => ?_, fun p hp => absurd (show p ∈ ([] : List (Addr × Obj)) from hp) (by simp), e0.hok.kept hk, ?_⟩
  · exact name_of_addr x.apart (PySem.mem_of_lookup h1) (PySem.mem_of_lookup h2)
  · have hy : scope.names.lookup y = some .cell ∨ scope.names.lookup y = some .free := hy
    rcases hy with hy | hy
    · exact cell_has hy
    · exact absurd rfl (S.nofree _ (PySem.mem_of_lookup hy))
  · exact Nat.le_of_lt (x.above y c (PySem.mem_of_lookup h))
  · have hi : i < vs.length := by
      unfold start at h2
      by_cases hi : i < vs.length
      · exact hi
      · rw [List.getElem?_append_right (by simpa using hi)] at h2
        rw [List.getElem?_replicate] at h2
        split at h2 <;> cases h2
    have ha : vs[i]? = some v := by
      unfold start at h2
      rw [List.getElem?_append_left (by simpa using hi), List.getElem?_map] at h2
      cases e : vs[i]? with
      | none => rw [e] at h2; cases h2
      | some a => rw [e] at h2; cases h2; rfl
    obtain ⟨u, hu, rv⟩ := r.get ha
    have hp : ps[i]? = some y := by
      rw [← S.pre, List.getElem?_take_of_lt (by omega)]; exact h1
    have ndP : ps.Nodup := by rw [← S.pre]; exact S.nd.sublist (List.take_sublist _ _)
    refine ⟨u, rv, ?_⟩
    rcases S.par y (List.mem_of_getElem? hp) with k | k
    · exact .inl ⟨k, bindL_get ndP hp hu k⟩
    · obtain ⟨c, e⟩ := cell_has (n := s.heap.objs.size + 1) k
      refine .inr ⟨.inl k, c, e, ?_⟩
      have q := x.cell y c e
      rw [bindC_get ndP hp hu (by show scope.names.lookup y ≠ _; rw [k]; decide)] at q
      exact q
  · exact e0.hok.fresh (Nat.le_of_lt (x.above y c (PySem.mem_of_lookup h)))
  · unfold start
    show _ = N.length
    rw [List.length_append, List.length_map, List.length_replicate]
    omega

theorem fn_of {CX : CXT} {P : Program} {w : World} {K : PySem.W.Frag} {mg : Str → Option Value} {base : Heap} {k : Nat} {f : Addr} {name qual : Str} {params : Arguments} {body : List Stmt} {scope : Scope} {dV kV doc pm cdv ct oc : Value} {an od : Option Addr}
    {osl : Array (Option Value)} {N ps : List Str} {sp : Sp} (lk : K.lookup f = some ⟨oc, od, .func (PySem.W.fnOf name qual params body scope dV kV doc pm an cdv ct), osl⟩) (hcd : PySem.W.codeIn K cdv qual = true) (S : FnScope N ps scope)
    (len : ∀ vs H Q E, sp vs H Q E → vs.length = ps.length)
    (hbody : ∀ (A : Around) (outer : List Env) (s : Shared) (H : Hp) (vs : List V) (Q : VK) (E : XK), Room k (A.deeper (envOfC qual scope s.heap.objs.size f cdv)) → sp vs H Q E →
      ∃ t, PSs (cxOf CX P w K mg base N qual scope f cdv A outer s H E) body t ∧ t { nx := fun _ H' => Q .non H', rt := Q } (start N vs) H) :
    FnOk P w K mg base CX (k + 1) f (PySem.W.fnOf name qual params body scope dV kV doc pm an cdv ct) ps sp := by
  refine ⟨len, fun A outer s H args us vs Q E hr e0 hb r hsp => ?_⟩
  have hl := len _ _ _ _ hsp
  have KX : K.In s.heap := e0.mod.kin.keeps fun b o e => (e0.bs b o e).1
  have lim : s.heap.NoLimit := e0.mod.nolimit.keeps fun b o e => (e0.bs b o e).1
  have hkind : ∀ y ∈ ps.zip us, scope.names.lookup y.1 = some .local ∨ (scope.names.lookup y.1 = some .cell ∧ ((cellsFrom (s.heap.objs.size + 1) scope.names []).lookup y.1).isSome = true) := fun ⟨n, v⟩ hy => by
    rcases S.par n (List.of_mem_zip hy).1 with q | q
    · exact .inl q
    · exact .inr ⟨q, PySem.W.cellsFrom_some _ _ _ (.inl q)⟩
  refine codeAny_call_function hr.depth (KX _ _ lk) rfl S.co S.gen rfl (PySem.W.codeRec_of KX hcd) (hb _ _ _ _ ?_)
  refine wpAny_newFunctionEnv_cells S.kind hkind fun env he s1 x => ?_
  subst he
  refine ⟨lim.keeps x.toInCall.keep, codeAny_func ?_⟩
  obtain ⟨t, ht, hq⟩ := hbody A outer s H vs Q E (hr.deeper _) hsp
  have I : Inv (cxOf CX P w K mg base N qual scope f cdv A outer s H E) [] (start N vs) H s1 := inv_start S hr.hd e0 hl r x
  refine wpAny_mono (ht [] s1 (start N vs) H _ I hq) (fun fl s' hs => ?_) fun e s' hs => hs
  have fin : ∀ {σ' : St} {H' : Hp} {v : V} {u : Value}, Inv (cxOf CX P w K mg base N qual scope f cdv A outer s H E) [] σ' H' s' → RelV v u → Q v H' → CE outer P w H s Q u s' :=
    fun {σ' H' v u} J rv q => ⟨v, H', J.os, J.bare, J.base, J.hok, rv, q⟩
  cases fl with
  | ret u =>
    obtain ⟨v, σ', H', J, rv, q⟩ := hs
    exact fin J rv q
  | next =>
    obtain ⟨σ', H', J, q⟩ := hs
    exact fin (v := V.non) (u := Value.none) J rfl q
  | brk =>
    obtain ⟨_, _, _, q⟩ := hs
    exact False.elim q
  | cont =>
    obtain ⟨_, _, _, q⟩ := hs
    exact False.elim q
end L2

namespace L2
open PySem PySem.Spec PyProof.Rows
section
variable {X : Cx} {x : Str} {p pos : Pos} {e : Expr} {es : List Expr} {t : TA} {id T : String} {r : List V → Hp → VK → Prop}

def tCB (r : List V → Hp → VK → Prop) (t : TA) : TE := fun σ H Q => t σ H fun vs H1 => r vs H1 Q
theorem pe_callB (hc : CallR X (.builtin id) r) (hg : Gl X x) (hm : X.mg x = none) (hv : bootBuiltins x = some (.builtin id)) (ha : PA X (e :: es) t) (hn : x ≠ "__name__" := by decide) (hdb : (x == ("__debug__" : Str)) = false := by decide)
    (he : starEach (e :: es) X.env = (false, eval e X.env) :: starEach es X.env := by rfl) (hpl : (backTo pos (starEach es X.env)).any (·.1) = false := by rfl) : PE X (.Call (.Name x p) (e :: es) [] pos) (tCB r t) := by
  intro pins s σ H Q I h
  refine wpAny_Call_Name_kw (ld_blt I hg hm hv ?_ hn hdb)
  exact PyProof.Rows.callWith_builtin1 (thn (ha pos pins s σ H _ I h) fun us s1 ⟨vs, H1, I1, r1, q1⟩ => hc pins s1 σ H1 vs us Q I1 r1 q1) he hpl
end
end L2

namespace HT
open PySem PyProof.Rows

section
open PySem.SeqAt
open PySem.AutoSeq1 (wpAny_loadPart')
open PySem.MeetsSeq PySem.MeetsSeq2 PySem.MeetsSeq3

end

section
variable {prog : Program} {w : World} {A : Around} {E : Value → Shared → Prop} {s : Shared}

/-! ### t[a:b], not the whole -/
def sIx (n d : Nat) : Option Int → Nat
  | none => d
  | some v => if v < 0 then (v + (n : Int)).toNat else min v.toNat n
theorem sIx_none (n d : Nat) : sIx n d none = d := rfl
theorem sIx_nat (n d k : Nat) : sIx n d (some (k : Int)) = min k n := by
  show (if (k : Int) < 0 then ((k : Int) + (n : Int)).toNat else min (k : Int).toNat n) = min k n
  rw [if_neg (by omega), Int.toNat_natCast]
theorem sIx_le (n d : Nat) (hd : d ≤ n) (o : Option Int) : sIx n d o ≤ n := by
  cases o with
  | none => exact hd
  | some v =>
    show (if v < 0 then (v + (n : Int)).toNat else min v.toNat n) ≤ n
    by_cases hv : v < 0
    · rw [if_pos hv]; omega
    · rw [if_neg hv]; exact Nat.min_le_right _ _
end
end HT

namespace L2
open PySem PySem.Spec PyProof.Rows

/-! ### the parts of a slice -/
abbrev TO := St → Hp → (Option Int → Hp → Prop) → Prop
def PO (X : Cx) (e : Option Expr) (t : TO) : Prop :=
  ∀ (pins : List (Addr × Obj)) (s : Shared) (σ : St) (H : Hp) (Q : Option Int → Hp → Prop), Inv X pins σ H s → t σ H Q →
    wpAny (model X.prog X.w) X.A (evalPart e X.env) (fun u s' => ∃ o H', Inv X pins σ H' s' ∧ IsPart u o ∧ Q o H') X.xe s
def tNoPart : TO := fun _ H Q => Q none H
def tPart (t : TE) : TO := fun σ H Q => t σ H fun x H1 => ∃ i, x = .int i ∧ Q (some i) H1

section
variable {X : Cx} {e : Expr} {te : TE} {lo hi : Option Expr} {tl th : TO} {pos p2 : Pos}

theorem po_none : PO X none tNoPart := by
  intro pins s σ H Q I h
  rw [evalPart_none]
  exact wpAny_pure ⟨none, H, I, .none, h⟩
theorem po_some (h : PE X e te) : PO X (some e) (tPart te) := by
  intro pins s σ H Q I hw
  rw [evalPart_some]
  refine thn (h pins s σ H _ I hw) fun u s1 ⟨x, H1, I1, r1, q1⟩ => ?_
  obtain ⟨i, rfl, q⟩ := q1
  obtain ⟨t, rfl⟩ := r1
  exact ⟨some i, H1, I1, .int i t, q⟩

def SlR (X : Cx) (r : V → Option Int → Option Int → Hp → VK → Prop) : Prop :=
  ∀ (pins : List (Addr × Obj)) (s : Shared) (σ : St) (H : Hp) (x : V) (v vl vu : Value) (lo hi : Option Int) (sl : Addr) (Q : VK), Inv X pins σ H s → RelV x v → s.heap.IsSliceOf sl vl vu .none → IsPart vl lo → IsPart vu hi → r x lo hi H Q →
    ∃ T id, typeLookup (.type T) "__getitem__" = pure (some (.builtin id)) ∧ s.TypeIs v T ∧ wpAny (model X.prog X.w) X.A (getItem v (.ref sl)) (EP X pins σ Q) X.xe s
def tSl (r : V → Option Int → Option Int → Hp → VK → Prop) (te : TE) (tl th : TO) : TE := fun σ H Q => te σ H fun x H1 => tl σ H1 fun l H2 => th σ H2 fun u H3 => r x l u H3 Q
theorem pe_slice {r : V → Option Int → Option Int → Hp → VK → Prop} (hr : SlR X r) (he : PE X e te) (hl : PO X lo tl) (hu : PO X hi th) : PE X (.Subscript e (.Slice lo hi none p2) pos) (tSl r te tl th) := by
  intro pins s σ H Q I h
  refine Subscript_ (thn (he pins s σ H _ I h) fun v s1 ⟨x, H1, I1, r1, q1⟩ => ?_)
  refine wpAny_Slice (thn (hl pins s1 σ H1 _ I1 q1) fun vl s2 ⟨l, H2, I2, pl, q2⟩ => thn (hu pins s2 σ H2 _ I2 q2) fun vu s3 ⟨u, H3, I3, pu, q3⟩ => ?_)
  rw [evalPart_none]
  refine wpAny_pure ?_
  have I4 : Inv X pins σ H3 { s3 with heap := s3.heap.push { cls := .type "slice", data := .fields #[vl, vu, .none] } } := I3.kept (t' := s3.toks) fun b ob q => Heap.get?_push_of_some _ q
  obtain ⟨T, id, hT, ht, hg⟩ := hr pins { s3 with heap := s3.heap.push { cls := .type "slice", data := .fields #[vl, vu, .none] } } σ H3 x v vl vu l u s3.heap.objs.size Q I4 r1 (Heap.IsSliceOf.new ..) pl pu q3
  show wpAny (model X.prog X.w) X.A (subscriptTail e (.Slice lo hi none p2) v (.ref s3.heap.objs.size)) (EP X pins σ Q) X.xe { s3 with heap := s3.heap.push { cls := .type "slice", data := .fields #[vl, vu, .none] } }
  exact tail_any (ops := [.ref s3.heap.objs.size, v]) ht hT hg (by with_unfolding_all rfl)

def cutV (xs : List V) (lo hi : Option Int) : List V := (xs.drop (HT.sIx xs.length 0 lo)).take (HT.sIx xs.length xs.length hi - HT.sIx xs.length 0 lo)
theorem cutV_length (xs : List V) (lo hi : Option Int) : (cutV xs lo hi).length ≤ xs.length := by
  unfold cutV
  rw [List.length_take, List.length_drop]
  omega
/-! ### t < u, t + u -/
end
end L2

namespace L2
open PySem PySem.Spec PyProof.Rows

/-! ### places -/
def ixN (n : Nat) (i : Int) : Option Nat := if 0 ≤ i then (if i < n then some i.toNat else none) else if -(n : Int) ≤ i then some (i + n).toNat else none
def atI {α : Type} (xs : List α) (i : Int) : Option α := (ixN xs.length i).bind fun j => xs[j]?
theorem ixN_seq {n : Nat} {i : Int} {j : Nat} (h : ixN n i = some j) : seqIndex? i n = some j ∧ j < n ∧ -(n : Int) ≤ i ∧ i < n := by
  unfold ixN at h
  by_cases h0 : 0 ≤ i
  · rw [if_pos h0] at h
    by_cases h1 : i < n
    · rw [if_pos h1] at h
      have e : i.toNat = j := Option.some.inj h
      exact ⟨by rw [seqIndex_of h0 h1, e], by omega, by omega, h1⟩
    · rw [if_neg h1] at h; cases h
  · rw [if_neg h0] at h
    by_cases h1 : -(n : Int) ≤ i
    · rw [if_pos h1] at h
      have e : (i + n).toNat = j := Option.some.inj h
      exact ⟨by rw [seqIndex_neg (by omega) h1, e], by omega, h1, by omega⟩
    · rw [if_neg h1] at h; cases h
theorem atI_get {α : Type} {xs : List α} {i : Int} {v : α} (h : atI xs i = some v) : ∃ j, seqIndex? i xs.length = some j ∧ xs[j]? = some v ∧ j < xs.length ∧ -(xs.length : Int) ≤ i ∧ i < xs.length := by
  unfold atI at h
  cases e : ixN xs.length i with
  | none => rw [e] at h; cases h
  | some j =>
    rw [e] at h
    obtain ⟨h1, h2, h3, h4⟩ := ixN_seq e
    exact ⟨j, h1, h, h2, h3, h4⟩
theorem atI_nat {α : Type} {xs : List α} {j : Nat} {v : α} (h : xs[j]? = some v) : atI xs (j : Int) = some v := by
  have hj : j < xs.length := (List.getElem?_eq_some_iff.mp h).1
  have e : ixN xs.length (j : Int) = some j := by
    unfold ixN
    rw [if_pos (by omega), if_pos (by omega)]; simp
  unfold atI; rw [e]; exact h
/-! ### what may be subscripted -/
def PlainIx (b : Expr) : Prop := ∀ o i, subscripted b false o i = operate [o, i] (getItem o i)
def IxR (X : Cx) (r : R2) : Prop :=
  ∀ (value slice : Expr) (pins : List (Addr × Obj)) (s : Shared) (σ : St) (H : Hp) (x y : V) (v u : Value) (Q : VK), Inv X pins σ H s → RelV x v → RelV y u → r x y H Q →
    subscripted slice false v u = operate [v, u] (getItem v u) → wpAny (model X.prog X.w) X.A (subscriptTail value slice v u) (EP X pins σ Q) X.xe s
def MtR (X : Cx) (id : String) (r : V → List V → Hp → VK → Prop) : Prop :=
  ∀ (pins : List (Addr × Obj)) (s : Shared) (σ : St) (H : Hp) (x : V) (xs : List V) (v : Value) (us : List Value) (Q : VK), Inv X pins σ H s → RelV x v → Vals xs us → r x xs H Q →
    wpAny (model X.prog X.w) X.A (call (.builtin id) (v :: us)) (EP X pins σ Q) X.xe s
section
variable {X : Cx} {a b : Expr} {ta tb : TE} {pos : Pos}
theorem pe_ix {r : R2} (hr : IxR X r) (ha : PE X a ta) (hb : PE X b tb) (hs : PlainIx b) : PE X (.Subscript a b pos) (tOp r ta tb) := by
  intro pins s σ H Q I h
  exact Subscript_ (binT ha hb I h fun v u s2 x y H2 I2 rx ry q => hr a b pins s2 σ H2 x y v u Q I2 rx ry q (hs _ _))

def rIxL (K : PySem.W.Frag) : R2 := fun x y H Q => ∃ p xs i v, x = .ref p ∧ y = .int i ∧ SqL K H p xs ∧ atI xs i = some v ∧ Q v H
def rIxT (K : PySem.W.Frag) : R2 := fun x y H Q => ∃ p xs i v, x = .ref p ∧ y = .int i ∧ SqT K H p xs ∧ atI xs i = some v ∧ Q v H
def rIxS : R2 := fun x y H Q => ∃ z i c, x = .str z ∧ y = .int i ∧ z.length ≤ sizeLine ∧ atI z.cps.toList i = some c ∧ Q (.str ⟨#[c]⟩) H
theorem ix_list : IxR X (rIxL X.K) := by
  intro value slice pins s σ H x y v u Q I rx ry h hs
  obtain ⟨p, xs, i, z, rfl, rfl, hq, he, q⟩ := h
  cases rx
  obtain ⟨t, rfl⟩ := ry
  obtain ⟨its, r, pl, hz⟩ := I.list hq
  obtain ⟨j, h1, h2, h3, h4, h5⟩ := atI_get he
  obtain ⟨w, ew, rw'⟩ := r.get h2
  have hl := r.length
  have hn := line63
  have fin : EP X pins σ Q w s := ⟨z, H, I, rw', q⟩
  by_cases h0 : 0 ≤ i
  · have hj : i.toNat = j := by
      rw [seqIndex_of h0 h5] at h1
      exact Option.some.inj h1
    exact item_listR pl.isList h0 (by omega) (by rw [hj]; simpa using ew) fin hs
  · have hj : (i + (its.toArray.size : Int)).toNat = j := by
      rw [seqIndex_neg (by omega) h4] at h1
      rw [List.size_toArray, ← hl]
      exact Option.some.inj h1
    exact subscriptTail_builtinR (x := w) pl.isList.typeIs slot_list_getitem.lookup
      (wpAny_getItem_list_neg (Q := fun r s' => r = w ∧ EP X pins σ Q r s') pl.isList (by omega) (by rw [List.size_toArray] <;> omega) (by omega) (by rw [hj]; simpa using ew) ⟨rfl, fin⟩) hs
theorem ix_tup : IxR X (rIxT X.K) := by
  intro value slice pins s σ H x y v u Q I rx ry h hs
  obtain ⟨p, xs, i, z, rfl, rfl, hq, he, q⟩ := h
  cases rx
  obtain ⟨t, rfl⟩ := ry
  obtain ⟨its, r, pl, hz⟩ := I.tuple hq
  obtain ⟨j, h1, h2, h3, h4, h5⟩ := atI_get he
  obtain ⟨w, ew, rw'⟩ := r.get h2
  have hl := r.length
  have hn := line63
  have fin : EP X pins σ Q w s := ⟨z, H, I, rw', q⟩
  exact subscriptTail_builtinR (x := w) pl.typeIs slot_tuple_getitem.lookup
    (getItem_tuple (j := j) (Q := fun r s' => r = w ∧ EP X pins σ Q r s') pl (by omega) (by omega) (by rw [List.size_toArray, ← hl]; exact h1) (by simpa using ew) ⟨rfl, fin⟩) hs
theorem ix_str : IxR X rIxS := by
  intro value slice pins s σ H x y v u Q I rx ry h hs
  obtain ⟨z, i, c, rfl, rfl, hz, he, q⟩ := h
  obtain ⟨t, rfl⟩ := rx
  obtain ⟨t', rfl⟩ := ry
  obtain ⟨j, h1, h2, h3, h4, h5⟩ := atI_get he
  have hl : z.cps.toList.length = z.length := by simp [Str.length]
  rw [hl] at h1 h4 h5
  have hn := line63
  exact tail_any (typeIs_str s z t) slot_str_getitem.lookup (getItem_str (c := c) (by
    have e1 : decide (i < -(2 ^ 63 : Int)) = false := decide_eq_false (by omega)
    have e2 : decide (i ≥ 2 ^ 63) = false := decide_eq_false (by omega)
    rw [e1, e2, Bool.or_false]) (by rw [h1]; simpa using h2) ⟨.str ⟨#[c]⟩, H, I.tok _, ⟨_, rfl⟩, q⟩) hs
/-! ### xs[i] = v, any sign -/
/-! ### slices -/
theorem slice_bounds (lo hi : Option Int) (n : Nat) : (sliceBounds lo hi none n).1 = ((HT.sIx n 0 lo : Nat) : Int) ∧ (sliceBounds lo hi none n).2.1 = ((HT.sIx n n hi : Nat) : Int) ∧ (sliceBounds lo hi none n).2.2 = 1 := by
  refine ⟨?_, ?_, rfl⟩
  · cases lo with
    | none => simp [sliceBounds, HT.sIx]
    | some i =>
      simp only [sliceBounds, HT.sIx, Option.getD_none, show (1 : Int) > 0 by decide, if_true]
      by_cases h : i < 0
      · simp only [h, if_true] <;> omega
      · simp only [h, if_false] <;> omega
  · cases hi with
    | none => simp [sliceBounds, HT.sIx]
    | some i =>
      simp only [sliceBounds, HT.sIx, Option.getD_none, show (1 : Int) > 0 by decide, if_true]
      by_cases h : i < 0
      · simp only [h, if_true] <;> omega
      · simp only [h, if_false] <;> omega
theorem slicePick_cut (its : List Value) (lo hi : Option Int) : slicePick its.toArray lo hi none = ((its.drop (HT.sIx its.length 0 lo)).take (HT.sIx its.length its.length hi - HT.sIx its.length 0 lo)).toArray := by
  obtain ⟨h1, h2, h3⟩ := slice_bounds lo hi its.toArray.size
  unfold slicePick
  rw [h1, h2, h3]
  simp only [sliceRange_one, pick_run, List.size_toArray] <;> rfl
def rSlL (K : PySem.W.Frag) : V → Option Int → Option Int → Hp → VK → Prop := fun x lo hi H Q => ∃ a xs, x = .ref a ∧ SqL K H a xs ∧ ∀ p, H p = none → Q (.ref p) (upd H p (.lst (cutV xs lo hi)))
theorem sl_list : SlR X (rSlL X.K) := by
  intro pins s σ H x v vl vu lo hi sl Q I rx hs pl pu h
  obtain ⟨a, xs, rfl, hx, q⟩ := h
  cases rx
  obtain ⟨its, r, ht, hz⟩ := I.list hx
  have hlen := r.length
  refine ⟨"list", _, slot_list_getitem.lookup, ht.isList.typeIs, ?_⟩
  refine wpAny_getItem_list_slice ht.isList hs pl pu .none (by simp) ?_ (by rw [List.size_toArray] <;> omega)
  rw [slicePick_cut, ← hlen]
  refine ⟨.ref s.heap.objs.size, _, I.laid (t' := s.toks) (o := .lst (cutV xs lo hi)) (fun b ob q => Heap.get?_push_of_some _ q) (Nat.le_refl _) ?_, rfl, q _ (I.hok.fresh (Nat.le_refl _))⟩
  exact ⟨Nat.le_trans (cutV_length xs lo hi) hz, _, 0, (r.drop (HT.sIx xs.length 0 lo)).take (HT.sIx xs.length xs.length hi - HT.sIx xs.length 0 lo), Heap.get?_push_size _ rfl⟩

/-! ### in, not in: flat items -/
def flatV : V → Bool
  | .non => true
  | .bl _ => true
  | .int _ => true
  | .str _ => true
  | _ => false
def eqV : V → V → Bool
  | .non, .non => true
  | .bl a, .bl b => a == b
  | .bl a, .int b => (if a then 1 else 0) == b
  | .int a, .bl b => a == (if b then 1 else 0)
  | .int a, .int b => a == b
  | .str a, .str b => a == b
  | _, _ => false
theorem eqAt_V {A : Around} {s : Shared} {y x : V} {u v : Value} (ry : RelV y u) (rx : RelV x v) (fy : flatV y = true) (fx : flatV x = true) : SeqAt.EqAt A s u v (eqV y x) := by
  cases y with
  | non =>
    cases ry
    cases x with
    | non => cases rx; exact SeqAt.EqAt.same _
    | bl b => cases rx; exact SeqAt.EqAt.none_bool b
    | int b => obtain ⟨t, rfl⟩ := rx; exact SeqAt.EqAt.none_int b t
    | str b => obtain ⟨t, rfl⟩ := rx; exact SeqAt.EqAt.none_str b t
    | _ => exact absurd (show false = true from fx) Bool.false_ne_true
  | bl a =>
    cases ry
    cases x with
    | non => cases rx; exact SeqAt.EqAt.bool_none a
    | bl b => cases rx; exact SeqAt.EqAt.bool_bool a b
    | int b => obtain ⟨t, rfl⟩ := rx; exact SeqAt.EqAt.bool_int a b t
    | str b => obtain ⟨t, rfl⟩ := rx; exact SeqAt.EqAt.bool_str a b t
    | _ => exact absurd (show false = true from fx) Bool.false_ne_true
  | int a =>
    obtain ⟨t', rfl⟩ := ry
    cases x with
    | non => cases rx; exact SeqAt.EqAt.int_none a t'
    | bl b => cases rx; exact SeqAt.EqAt.int_bool a t' b
    | int b => obtain ⟨t, rfl⟩ := rx; exact SeqAt.EqAt.int_int a t' b t
    | str b => obtain ⟨t, rfl⟩ := rx; exact SeqAt.EqAt.int_str a t' b t
    | _ => exact absurd (show false = true from fx) Bool.false_ne_true
  | str a =>
    obtain ⟨t', rfl⟩ := ry
    cases x with
    | non => cases rx; exact SeqAt.EqAt.str_none a t'
    | bl b => cases rx; exact SeqAt.EqAt.str_bool a t' b
    | int b => obtain ⟨t, rfl⟩ := rx; exact SeqAt.EqAt.str_int a t' b t
    | str b => obtain ⟨t, rfl⟩ := rx; exact SeqAt.EqAt.str_str a t' b t
    | _ => exact absurd (show false = true from fx) Bool.false_ne_true
  | _ => exact absurd (show false = true from fy) Bool.false_ne_true
def eqU (x : V) (u : Value) : Bool := match u with
  | .none => eqV .non x
  | .bool b => eqV (.bl b) x
  | .int i _ => eqV (.int i) x
  | .str z _ => eqV (.str z) x
  | _ => false
theorem eqU_of {x y : V} {u : Value} (r : RelV y u) (f : flatV y = true) : eqU x u = eqV y x := by
  cases y with
  | non => cases r; rfl
  | bl b => cases r; rfl
  | int i => obtain ⟨t, rfl⟩ := r; rfl
  | str z => obtain ⟨t, rfl⟩ := r; rfl
  | _ => exact absurd (show false = true from f) Bool.false_ne_true
theorem any_eqU {x : V} : ∀ {xs : List V} {us : List Value}, Vals xs us → xs.all flatV = true → us.any (eqU x) = xs.any fun y => eqV y x
  | _, _, .nil, _ => rfl
  | y :: xs, u :: us, .cons r t, f => by
    rw [List.all_cons, Bool.and_eq_true] at f
    rw [List.any_cons, List.any_cons, eqU_of r f.1, any_eqU t f.2]
theorem mem_eqAt {A : Around} {s : Shared} {x : V} {v : Value} (rx : RelV x v) (fx : flatV x = true) : ∀ {xs : List V} {us : List Value}, Vals xs us → xs.all flatV = true → ∀ u ∈ us, SeqAt.EqAt A s u v (eqU x u)
  | _, _, .nil, _ => fun u hu => by cases hu
  | y :: xs, u :: us, .cons r t, f => fun u' hu => by
    rw [List.all_cons, Bool.and_eq_true] at f
    rcases List.mem_cons.mp hu with rfl | hu
    · rw [eqU_of r f.1]; exact eqAt_V r rx f.1 fx
    · exact mem_eqAt rx fx t f.2 u' hu
def inV (x : V) (xs : List V) : Bool := xs.any fun y => eqV y x
def rIn (K : PySem.W.Frag) (neg : Bool) : R2 := fun x y H Q => ∃ p xs, y = .ref p ∧ (SqL K H p xs ∨ SqT K H p xs) ∧ flatV x = true ∧ xs.all flatV = true ∧ Q (.bl (if neg then !inV x xs else inV x xs)) H
theorem op_in_seq : OpR X (compareOp .In) (rIn X.K false) := by
  intro pins s σ H x y v u Q I rx ry h
  obtain ⟨p, xs, rfl, hq, fx, fs, q⟩ := h
  cases ry
  rcases hq with hq | hq
  · obtain ⟨its, r, pl, hz⟩ := I.list hq
    refine SeqAt.in_listAt (eqU x) pl.isList (fun w hw => mem_eqAt rx fx r fs w (by simpa using hw)) ⟨.bl _, H, I, rfl, ?_⟩
    rw [show its.toArray.any (eqU x) = its.any (eqU x) by simp, any_eqU r fs]
    exact q
  · obtain ⟨its, r, pl, hz⟩ := I.tuple hq
    refine SeqAt.in_tupleAt (eqU x) pl (fun w hw => mem_eqAt rx fx r fs w (by simpa using hw)) ⟨.bl _, H, I, rfl, ?_⟩
    rw [show its.toArray.any (eqU x) = its.any (eqU x) by simp, any_eqU r fs]
    exact q
/-! ### len, list(x), tuple(x) of any list or tuple that is read -/
theorem call_len_seq : CallR X (.builtin "len") (fun xs H Q => ∃ p ys, xs = [.ref p] ∧ (SqL X.K H p ys ∨ SqT X.K H p ys) ∧ Q (.int ys.length) H) := by
  intro pins s σ H xs us Q I r h
  obtain ⟨p, ys, rfl, hq, q⟩ := h
  obtain ⟨u, rfl, rx⟩ := vals1 r
  cases rx
  have hn := line63
  rcases hq with hq | hq
  · obtain ⟨its, r', pl, hz⟩ := I.list hq
    have hlen := r'.length
    exact Calls.call_len_list pl.isList (by simp only [List.size_toArray] <;> omega) ⟨.int ys.length, H, I.tok _, ⟨s.toks + 1, by rw [List.size_toArray, hlen]⟩, q⟩
  · obtain ⟨its, r', pl, hz⟩ := I.tuple hq
    have hlen := r'.length
    exact len_tuple pl (by simp only [List.size_toArray] <;> omega) ⟨.int ys.length, H, I.tok _, ⟨s.toks + 1, by rw [List.size_toArray, hlen]⟩, q⟩
theorem call_len_str : CallR X (.builtin "len") (fun xs H Q => ∃ z, xs = [.str z] ∧ z.length ≤ sizeLine ∧ Q (.int z.length) H) := by
  intro pins s σ H xs us Q I r h
  obtain ⟨z, rfl, hz, q⟩ := h
  obtain ⟨u, rfl, t, rfl⟩ := vals1 r
  have hn := line63
  exact len_str (by omega) ⟨.int z.length, H, I.tok _, ⟨_, rfl⟩, q⟩
/-! ### the call of a builtin's method: o.m(..) -/
def tyV (K : PySem.W.Frag) (T : String) (x : V) (H : Hp) : Prop := match x with
  | .str _ => T = "str"
  | .int _ => T = "int"
  | .ref p => (T = "list" ∧ ∃ xs, SqL K H p xs) ∨ (T = "tuple" ∧ ∃ o, K.lookup p = some o ∧ o.cls = .type "tuple" ∧ o.dict = none) ∨
      (T = "dict" ∧ ((∃ kvs, H p = some (.dK kvs)) ∨ ∃ kvs, H p = some (.dT kvs))) ∨ (T = "set" ∧ ∃ S n, H p = some (.set S n))
  | _ => False
theorem tyV_is {pins : List (Addr × Obj)} {σ : St} {H : Hp} {s : Shared} {T : String} {x : V} {v : Value} (I : Inv X pins σ H s) (r : RelV x v) (ty : tyV X.K T x H) :
    s.TypeIs v T ∧ ∀ a, v = .ref a → ∃ ob, s.heap.get? a = some ob ∧ ob.dict = none := by
  cases x with
  | str z =>
    obtain ⟨t, rfl⟩ := r
    cases (show T = "str" from ty)
    exact ⟨typeIs_str s z t, fun _ e => nomatch e⟩
  | int i =>
    obtain ⟨t, rfl⟩ := r
    cases (show T = "int" from ty)
    exact ⟨typeIs_int s i t, fun _ e => nomatch e⟩
  | ref p =>
    cases r
    rcases ty with ⟨rfl, xs, hq⟩ | ⟨rfl, o, hk, hc, hd⟩ | ⟨rfl, hk⟩ | ⟨rfl, S, n, hk⟩
    · obtain ⟨its, _, pl, _⟩ := I.list hq
      refine ⟨pl.isList.typeIs, fun a e => ?_⟩
      cases e
      obtain ⟨o, n, e, c, hd, _⟩ := pl
      exact ⟨o, e, hd⟩
    · refine ⟨⟨o, I.kIn p o hk, hc⟩, fun a e => ?_⟩
      cases e
      exact ⟨o, I.kIn _ o hk, hd⟩
    · have z : ∃ o, s.heap.get? p = some o ∧ o.ExactDict := by
        rcases hk with ⟨kvs, hk⟩ | ⟨kvs, hk⟩
        · obtain ⟨_, _, _, _, o, _, _, e, ex, _⟩ := I.hok p _ hk
          exact ⟨o, e, ex⟩
        · obtain ⟨_, _, _, _, o, _, _, e, ex, _⟩ := I.hok p _ hk
          exact ⟨o, e, ex⟩
      obtain ⟨o, e, ex⟩ := z
      refine ⟨⟨o, e, ex.1⟩, fun a e2 => ?_⟩
      cases e2
      exact ⟨o, e, ex.2.1⟩
    · obtain ⟨o, _, _, _, e, ex, _⟩ := I.hok p _ hk
      refine ⟨⟨o, e, ex.1⟩, fun a e2 => ?_⟩
      cases e2
      exact ⟨o, e, ex.2.1⟩
  | _ => exact False.elim ty
def tBM (K : PySem.W.Frag) (T : String) (r : V → List V → Hp → VK → Prop) (to : TE) (t : TA) : TE := fun σ H Q => to σ H fun x H1 => tyV K T x H1 ∧ t σ H1 fun xs H2 => r x xs H2 Q
variable {o e : Expr} {es : List Expr} {to : TE} {t : TA} {name : Str} {apos cpos : Pos} {T id : String} {r : V → List V → Hp → VK → Prop}
theorem pe_bm (pa : PlainAttrs T) (slot : Slot T name id) (hty : typeOf (.builtin id) = pure (.type "method_descriptor")) (hm : MtR X id r) (ho : PE X o to) (ha : PA X (e :: es) t)
    (hbase : attributeBase o name X.env (eval o X.env) = eval o X.env := by rfl)
    (hfew : ((backTo cpos (starEach (e :: es) X.env)).all (fun x => !x.1) && (backToKw cpos (keywordEach [] X.env)).all (fun x => x.1.isSome)
      && decide ((e :: es).length + ([] : List Keyword).length + (if ([] : List Keyword).isEmpty then 0 else 1) < 30)) = true := by rfl)
    (hline : (apos.endLine == cpos.line) = true := by rfl) (hs : starEach (e :: es) X.env = (false, eval e X.env) :: starEach es X.env := by rfl) (hplain : (backTo cpos (starEach es X.env)).any (·.1) = false := by rfl) :
    PE X (.Call (.Attribute o name apos) (e :: es) [] cpos) (tBM X.K T r to t) := by
  intro pins s σ H Q I h
  refine wpAny_Call_method_late hbase hfew hline rfl (thn (ho pins s σ H _ I h) fun v s1 ⟨x, H1, I1, r1, ty, q1⟩ => ?_)
  obtain ⟨h1, h2⟩ := tyV_is I1 r1 ty
  refine ⟨T, id, pa, slot, hty, h1, h2, ?_⟩
  have hA := ha cpos pins s1 σ H1 _ I1 q1
  rw [hs] at hA ⊢
  refine Calls.callWith_builtin (by show (false || (backTo cpos (starEach es X.env)).any (·.1)) = false; rw [hplain] <;> rfl) (Calls.evalArgs_plain ?_)
  exact thn hA fun us s2 ⟨vs, H2, I2, r2, q2⟩ => hm pins s2 σ H2 x vs v us Q I2 r1 r2 q2
/- xs.append(e), list.index on a module's tuple .. are MtR facts of 06m -/
end
end L2

namespace L2
open PySem PySem.Spec PyProof.Rows

def MtM (X : Cx) (id : String) (r : V → List V → Hp → VK → Prop) : Prop :=
  ∀ (pins : List (Addr × Obj)) (s : Shared) (σ : St) (H : Hp) (x : V) (xs : List V) (v : Value) (us : List Value) (Q : VK), Inv X pins σ H s → RelV x v → Vals xs us → r x xs H Q →
    wpAny (model X.prog X.w) X.A (call (.builtin id) (v :: us)) (EP X pins σ Q) X.xe s

/-! ### lists of values -/
theorem Vals.one : ∀ {x : V} {us : List Value}, Vals [x] us → ∃ u, us = [u] ∧ RelV x u
  | _, _, .cons r .nil => ⟨_, rfl, r⟩
theorem Vals.two : ∀ {x y : V} {us : List Value}, Vals [x, y] us → ∃ u v, us = [u, v] ∧ RelV x u ∧ RelV y v
  | _, _, _, .cons r (.cons q .nil) => ⟨_, _, rfl, r, q⟩
section
variable {X : Cx} {pins : List (Addr × Obj)} {σ : St} {H : Hp} {s : Shared} {l b : Addr} {xs ys zs : List V}

/-! ### the two steps: a tracked list is rewritten, a new list is laid -/
theorem Inv.lset {its its' : List Value} {n : Nat} {f : Array Value → Array Value} {t' : Nat} (I : Inv X pins σ H s) (hH : H l = some (.lst xs))
    (e : s.heap.get? l = some { cls := .type "list", data := .seq its.toArray n }) (hf : f its.toArray = its'.toArray) (hv : Vals ys its') (hz : ys.length ≤ sizeLine) :
    Inv X pins σ (upd H l (.lst ys)) { s with heap := s.heap.update l (Obj.mapSeq f), toks := t' } := by
  have q := PySem.IsL.update e f
  rw [hf] at q
  refine I.write (x := l) (e := l) (by rw [hH]; exact trivial) (.inl rfl) (fun b' u hb hu => (Heap.get?_update_other s.heap (Obj.mapSeq f) (Ne.symm hb)).trans hu) ⟨_, q⟩ ?_
  exact ⟨hz, its', _, hv, q⟩
theorem Inv.lnew {its : List Value} {t' : Nat} (I : Inv X pins σ H s) (hv : Vals ys its) (hz : ys.length ≤ sizeLine) :
    Inv X pins σ (upd H s.heap.objs.size (.lst ys)) { s with heap := s.heap.push { cls := .type "list", data := .seq its.toArray }, toks := t' } :=
  I.laid (fun _ _ q => Heap.get?_push_of_some _ q) (Nat.le_refl _) ⟨hz, its, 0, hv, Heap.get?_push_size _ rfl⟩
theorem Inv.fresh (I : Inv X pins σ H s) : H s.heap.objs.size = none := I.hok.fresh (Nat.le_refl _)
theorem Inv.lstM (I : Inv X pins σ H s) (hH : H l = some (.lst xs)) : xs.length ≤ sizeLine ∧ ∃ (its : List Value) (n : Nat), Vals xs its ∧ xs.length = its.length ∧ s.heap.get? l = some { cls := .type "list", data := .seq its.toArray n } := by
  obtain ⟨z, its, n, r, e⟩ := I.hok l _ hH
  exact ⟨z, its, n, r, r.length, e⟩

end

section
variable {X : Cx}

/-! ### methods -/
def rAppend : V → List V → Hp → VK → Prop := fun x vs H Q => ∃ l xs y, x = .ref l ∧ vs = [y] ∧ H l = some (.lst xs) ∧ xs.length < sizeLine ∧ Q .non (upd H l (.lst (xs ++ [y])))
theorem mt_append : MtM X "list.append" rAppend := by
  intro pins s σ H x vs v us Q I rx rv h
  obtain ⟨l, xs, y, rfl, rfl, hH, hz, q⟩ := h
  cases rx
  obtain ⟨u, rfl, ru⟩ := rv.one
  obtain ⟨z, its, n, r, hl, e⟩ := I.lstM hH
  refine call_meets F.slot_list_append ⟨_, e, rfl⟩ F.entry_list_append (F.args_list_append_2 _ _) (PySem.list_append l its.toArray n u (by rw [List.size_toArray]; omega)) ⟨e, ?_⟩
  refine ⟨.non, _, I.lset (its' := its ++ [u]) hH e (by simp) (r.append (.cons ru .nil)) ?_, rfl, q⟩
  rw [List.length_append, List.length_singleton]
  omega

/-! ### list + list, list += list, list * int -/
/-! ### del xs[i] -/
end

/-! ### xs[a:b] = ys -/
section
variable {prog : Program} {w : World} {A : Around} {E : Value → Shared → Prop} {s : Shared}
set_option maxRecDepth 100000 in
end

section
variable {X : Cx}
end
end L2

namespace Att
open PySem PySem.W PySem.Calls PyProof.Rows

/-! ### the script -/
theorem ints_of_wellAll {P : Params} {h : Heap} : ∀ (ns : List Int) (vs : List Value), WellAll P h vs (ns.map WData.int) → IntsAre vs ns := by
  intro ns
  induction ns with
  | nil =>
    intro vs w
    rw [List.map_nil] at w
    cases w
    exact .nil
  | cons n ns ih =>
    intro vs w
    rw [List.map_cons] at w
    cases w with
    | cons a b =>
      cases a
      exact .cons _ _ (ih _ b)

theorem script_of {l : OpenLaw} {n : Nat} (hn : l.most = some n) {P : Params} {h : Heap} {args : List WData} {vals : List Value}
    (hpre : l.row.toRowW.claim.pre args = true) (hwl : WellAll P h vals args) :
    ∃ a vs ns, vals = [Value.ref a] ∧ args = [WData.list (ns.map WData.int)] ∧ h.get? a = some { cls := .type "list", data := .seq vs.toArray } ∧ IntsAre vs ns ∧ ns.length ≤ n := by
  have hsh : WShape.hasAll [] args [.list .int] = true := (pre_splitW hpre).1
  have hc : l.pre.holds [] { args := args } = true := (pre_splitW hpre).2
  obtain ⟨d, r, rfl, h1, h2⟩ := hasAllW_cons hsh
  obtain rfl := hasAllW_nil h2
  obtain ⟨xs, rfl, h3⟩ := hasW_list h1
  obtain ⟨ns, rfl⟩ := items_int h3
  have hlen : ns.length ≤ n := by
    unfold OpenLaw.pre at hc
    have h4 : (WTm.not (.lt (.lit (.int (n : Int))) (.len (.arg 0)))).holds [] { args := [.list (ns.map .int)] } = true := by
      have h4 := (holds_andW hc).1
      rw [hn] at h4
      exact h4
    have h5 := condW_of h4 (w_not (w_lt w_lit (w_len_list (w_arg rfl))))
    rw [List.length_map] at h5
    refine Nat.le_of_not_lt fun q => ?_
    have q' : (n : Int) < ((ns.length : Nat) : Int) := by omega
    first
      | (rw [decide_eq_true q'] at h5; exact absurd h5 (by decide))
      | (simp at h5; omega)
  cases hwl with
  | cons w1 w2 =>
    cases w2
    cases w1 with
    | list ho hall => exact ⟨_, _, ns, rfl, rfl, ho, ints_of_wellAll ns _ hall, hlen⟩

theorem post_true (l : OpenLaw) (args : List WData) : l.row.toRowW.claim.post args (.bool true) args = true :=
  postW_of (r := l.row.toRowW) (X := (true == true))
    (show WShape.has [] (.bool true) .bool = true by first | rfl | decide | simp [WShape.has, WShape.arms, WShape.armsAll])
    (show (WTm.eq .res (.lit (.bool true))).value [] { args := args, res := some (.bool true), after := args } = some (.bool (true == true)) from w_eq_bool (w_res rfl) w_lit) rfl

/-! ### the attachment: holds_open's last premise (the goal 'hc' behind k_head) from a wpAny of the law's body -/
theorem attach_call {l : OpenLaw} {n : Nat} {q : Program} {loose : List Str} {XP : (Str → Option Value) → Heap → Prop} {YP : World → Heap → Prop} {d : DefRec}
    (hn : l.most = some n) (hdf : d.params.defaults = [])
    (call : ∀ (w : World) (s₀ s₁ : Shared) (mg mb : Str → Option Value) (fa : Addr) (o : Obj) (pm cd doc : Value) (a : Addr) (vs : List Value) (ns : List Int),
      Ground q loose [] XP w s₀ mg mb s₁.heap → YP w s₁.heap →
      s₁.heap.get? fa = some o → o.data = .func (docDef d.name d.params d.body d.scope pm cd doc) → s₁.heap.CodeRec cd d.name → mg d.name = some (.ref fa) →
      s₁.heap.get? a = some { cls := .type "list", data := .seq vs.toArray } → IntsAre vs ns → ns.length ≤ n → s₁.gens = #[] →
      codeAny (model l.prog w) callerA (.call (.ref fa) ⟨[.ref a], []⟩) (fun r s' => r = .ok (.ret (.bool true)) ∧ OldK s₁.heap s'.heap ∧ s'.os = s₁.os ∧ AllBare s'.gens) s₁) :
    WalkO q loose XP YP l.row.toRowW d [] (fun f vs => PySem.call f vs) := by
  intro w s₀ s₁ mg mb G Y fa o pm cd doc dV kV ho hd hcd hD hmg hg args vals as hpre hlay hrd hwl hlo
  obtain rfl : dV = .none := Dflts.none hD hdf
  obtain rfl : kV = .none := Dflts.noKw hD
  obtain ⟨a, vs, ns, rfl, rfl, hobj, hints, hlen⟩ := script_of hn hpre hwl
  refine enter_call (codeAny_mono (call w s₀ s₁ mg mb fa o pm cd doc a vs ns G Y ho (fd_plain hd) hcd hmg hobj hints hlen hg) fun r s' hq => ?_)
  obtain ⟨rfl, h2, h3, h4⟩ := hq
  exact ⟨.inl ⟨.bool true, .bool true, [], rfl, fun _ => rfl, .bool true, post_true l _, fun _ => ⟨List.Pairwise.nil, fun _ hm => (nomatch hm)⟩⟩, h2, h3, h4⟩

/-! ### rules over ANY heap (no ledger) from facts about the written part K: the library's own take a ledger (News) for what they write -/
section
variable {prog : Program} {w : World} {A : Around} {E : Value → Shared → Prop} {s : Shared} {K : Frag}

/-! the whole heap as the ledger: makes every rule that writes through a ledger a rule over any heap -/
end
end Att

namespace L2
open PySem PySem.Spec PyProof.Rows

theorem vals_ints : ∀ {vs : List Value} {ns : List Int}, IntsAre vs ns → Vals (ns.map V.int) vs
  | _, _, .nil => .nil
  | _, _, .cons n t h => .cons ⟨t, rfl⟩ (vals_ints h)

def Only (H : Hp) : Prop := ∀ b, H b = none ∨ ∃ o xs, H b = some (.frz o (.lst xs))

theorem law_call {P : Program} {w : World} {K : PySem.W.Frag} {mg mb : Str → Option Value} {CX : CXT} {k : Nat} {fa a : Addr} {fd : FuncData} {x : Str} {sp : Sp} {s₁ : Shared} {vs : List Value} {ns : List Int}
    (KX : K.In s₁.heap) (hns : s₁.heap.Ns mainGlobals mg) (hb : s₁.heap.Ns builtinsNs mb) (hbb : ∀ x : Str, x ≠ "__name__" → mb x = bootBuiltins x) (hlim : s₁.heap.NoLimit) (hg : s₁.gens = #[])
    (ha : s₁.heap.get? a = some { cls := .type "list", data := .seq vs.toArray }) (hi : IntsAre vs ns) (hl : ns.length ≤ sizeLine) (hr : Room k callerA)
    (F : ∀ base : Heap, K.In base → base.Ns mainGlobals mg → FnOk P w K mg base CX k fa fd [x] sp) (hbind : ∀ (s : Shared) (u : Value), BindsTo s fd ⟨[u], []⟩ [(x, u)])
    (hsp : ∀ H : Hp, Only H → SqL K H a (ns.map V.int) → sp [.ref a] H (fun v _ => v = .bl true) fun _ _ _ => False)
    (hCX : ∀ H e s', CX [] H s₁ (fun _ _ _ => False) e s' → False) :
    codeAny (model P w) callerA (.call (.ref fa) ⟨[.ref a], []⟩) (fun r s' => r = .ok (.ret (.bool true)) ∧ OldK s₁.heap s'.heap ∧ s'.os = s₁.os ∧ AllBare s'.gens) s₁ := by
  have rv := vals_ints hi
  have lenV := hi.length
  -- from an abstract heap in which nothing but the script may be tracked
  have core : ∀ H : Hp, Only H → SqL K H a (ns.map V.int) → HOk P w H s₁.heap → (∀ b, H b ≠ none → b = a) → (H a ≠ none → K.lookup a = none) →
      codeAny (model P w) callerA (.call (.ref fa) ⟨[.ref a], []⟩) (fun r s' => r = .ok (.ret (.bool true)) ∧ OldK s₁.heap s'.heap ∧ s'.os = s₁.os ∧ AllBare s'.gens) s₁ := by
    intro H hO hS hok hA hK
    have base_of : ∀ {b : Addr} {o : Obj}, s₁.heap.get? b = some o → H b = none → (hidT s₁.heap H).get? b = some o := fun e n => hidT_get e n
    have noA : ∀ {b : Addr} {o : Obj} {es : Array DictEntry} {ep : Nat}, s₁.heap.get? b = some o → o.data = .dict es ep → H b = none := fun {b o es ep} e d => by
      cases q : H b with
      | none => rfl
      | some u =>
        have e' : b = a := hA b (by rw [q]; simp)
        subst e'
        rw [ha] at e; cases e
        have d' : Data.seq vs.toArray _ = Data.dict es ep := d
        cases d'
    have nsK : ∀ {b : Addr} {m : Str → Option Value}, s₁.heap.Ns b m → (hidT s₁.heap H).Ns b m := fun {b m} ⟨o, es, ep, e, d, r⟩ => ⟨o, es, ep, base_of e (noA e d), d, r⟩
    have hKb : K.In (hidT s₁.heap H) := fun b o e => base_of (KX b o e) (by
      cases q : H b with
      | none => rfl
      | some u =>
        have e' : b = a := hA b (by rw [q]; simp)
        subst e'
        rw [hK (by rw [q]; simp)] at e; cases e)
    have hM : Mod K mg (hidT s₁.heap H) := ⟨hKb, nsK hns, ⟨mb, nsK hb, hbb⟩, let ⟨mc, h1, h2⟩ := hlim; ⟨mc, nsK h1, h2⟩⟩
    have e0 : Env0 P w K mg (hidT s₁.heap H) callerA [] s₁ H := ⟨rfl, hM, fun b o e => of_hidT e, Nat.le_of_eq (hidT_size _ _), trivial, fun b hb => absurd (show b ∈ ([] : List Addr) from hb) (by simp), hok, .of_eq hg⟩
    refine codeAny_mono ((F _ hKb (nsK hns)).run callerA [] s₁ H ⟨[.ref a], []⟩ [.ref a] [.ref a] _ _ hr e0 (hbind s₁ (.ref a)) (.cons rfl .nil) (hsp H hO hS)) fun r s' h => ?_
    cases r with
    | error e => exact (hCX H e s' h).elim
    | ok fl =>
      cases fl with
      | next => exact False.elim h
      | brk => exact False.elim h
      | cont => exact False.elim h
      | ret u =>
        obtain ⟨v, H', os, bare, un, hok', r', q⟩ := h
        have q' : v = .bl true := q
        subst q'
        obtain rfl : u = Value.bool true := r'
        refine ⟨rfl, OldK.of_keep fun b o e => ?_, os, bare⟩
        cases q : H b with
        | none => exact un.keep b o e q (by intro z; exact absurd (show b ∈ ([] : List Addr) from z) (by simp)) (by simp)
        | some u =>
          rcases hO b with z | ⟨ob, xs, z⟩
          · rw [q] at z; cases z
          · have z2 := un.frzs b ob _ z
            obtain ⟨e1, _⟩ := hok b _ z
            obtain ⟨e2, _⟩ := hok' b _ z2
            rw [e] at e1; cases e1
            exact e2
  cases hk : K.lookup a with
  | some o =>
    -- the script is one of the module's own objects
    have e := KX a o hk
    rw [ha] at e
    cases e
    refine core (fun _ => none) (fun _ => .inl rfl) (.inr ⟨_, vs.toArray, _, hk, rfl, rfl, rfl, by rw [List.size_toArray, lenV]; exact hl, by simpa using rv⟩) (fun b u z => by have z' : (none : Option HO) = some u := z; cases z') (fun b z => absurd rfl z) fun z => absurd rfl z
  | none =>
    refine core (fun b => if b = a then some (.frz { cls := .type "list", data := .seq vs.toArray } (.lst (ns.map V.int))) else none) (fun b => ?_) (.inl (.inr ⟨{ cls := .type "list", data := .seq vs.toArray }, if_pos rfl⟩)) (fun b u z => ?_) (fun b z => ?_) fun _ => hk
    · by_cases hb : b = a
      · exact .inr ⟨_, _, if_pos hb⟩
      · exact .inl (if_neg hb)
    · by_cases hb : b = a
      · have z' := (if_pos hb).symm.trans z
        cases z'
        subst hb
        exact ⟨ha, by rw [List.length_map]; exact hl, vs, _, rv, ha⟩
      · have z' := (if_neg hb).symm.trans z
        cases z'
    · by_cases hb : b = a
      · exact hb
      · exact absurd (if_neg hb) z
end L2

namespace L2
open PySem PySem.Spec PyProof.Rows

theorem walk_of {l : PySem.W.OpenLaw} {n k : Nat} {q : Program} {loose : List Str} {XP : (Str → Option Value) → Heap → Prop} {YP : World → Heap → Prop} {d : DefRec} {K : Params → PySem.W.Frag} {CX : World → CXT} {sp : World → Sp} {x : Str}
    (hn : l.most = some n) (hn2 : n ≤ sizeLine) (hdf : d.params.defaults = []) (hr : Room k callerA)
    (hY : ∀ (w : World) (h : Heap), YP w h → (K w.params).In h)
    (F : ∀ (w : World) (mg : Str → Option Value) (fa : Addr) (h : Heap), (K w.params).In h → h.Ns mainGlobals mg → mg d.name = some (.ref fa) →
      ∃ fd : FuncData, (∀ (s : Shared) (u : Value), BindsTo s fd ⟨[u], []⟩ [(x, u)]) ∧
        ∀ base : Heap, (K w.params).In base → base.Ns mainGlobals mg → FnOk l.prog w (K w.params) mg base (CX w) k fa fd [x] (sp w))
    (hsp : ∀ (w : World) (H : Hp) (a : Addr) (ns : List Int), ns.length ≤ n → Only H → SqL (K w.params) H a (ns.map V.int) → sp w [.ref a] H (fun v _ => v = .bl true) fun _ _ _ => False)
    (hCX : ∀ (w : World) (H : Hp) (s : Shared) (e : Value) (s' : Shared), CX w [] H s (fun _ _ _ => False) e s' → False) :
    PySem.W.WalkO q loose XP YP l.row.toRowW d [] (fun f vs => PySem.call f vs) := by
  refine Att.attach_call hn hdf fun w s₀ s₁ mg mb fa o pm cd doc a vs ns G Y ho hd hcd hmg hobj hints hlen hg => ?_
  have KX := hY w _ Y
  obtain ⟨fd, hb, hF⟩ := F w mg fa _ KX G.T.g hmg
  exact law_call KX G.T.g G.T.b G.T.builtins G.T.nolimit hg hobj hints (Nat.le_trans hlen hn2) hr hF hb (fun H hO hS => hsp w H a ns hlen hO hS) fun H e s' => hCX w H s₁ e s'
end L2

/- THE LAST THEOREM (shape; LID, My.* are yours):
   My.Adr: a structure of the addresses that your layer names (classes, functions); My.Txt K t: a structure (Prop) of the equations over K;
   My.txt_mk : {K} {implicit addresses ..} (e1 : nsIn K mainGlobals "law" = some (some (.ref f))) (e2 : K.lookup f = some ⟨oc, od, .func (fnOf "law" "law" params body scope dV kV doc pm an cdv ct), sl⟩) (e3 : codeIn K cdv "law" = true) .. : ∃ t, My.Txt K t

set_option maxRecDepth 100000 in
set_option maxHeartbeats 0 in
theorem PySem.Challenge.cw_LID_holds : PySem.Challenge.rw_LID.Holds := by
  w_on; o_law; k_head; (case hw => w_witness2)
  k_fill
  refine L2.walk_of (l := PySem.Challenge.rw_LID) (n := 63) (k := 40) (x := "script") (CX := fun w => ..) (sp := fun _ => My.sp_law) rfl (by decide) rfl ⟨rfl, by decide, by decide⟩ (fun w h Y => PySem.W.kIn_of Y) ?F ?S ?C
  case F =>
    intro w mg fa h KX G hmg
    have T : ∃ t, My.Txt (L2.KOf KX) t := by
      dsimp only [L2.KOf]                          -- K must stand as «<heap const> w.params» for k_is
      refine' My.txt_mk ?e1 ?e2 ?e3 ..
      (case e1 => PySem.W.k_is)                    -- in the order: a name -> its address -> its object -> its parts
      (case e2 => PySem.W.k_is)
      ..
    obtain ⟨t, T⟩ := T
    have e0 := hmg.symm.trans (PySem.W.mg_of KX G T.law)
    cases e0                                       -- fa is the law's own address
    exact ⟨_, fun s u => .of_eq rfl, fun base kb nb => My.law_fn T kb nb⟩     -- if «.of_eq rfl» comes too early: refine' ⟨_, ?b, fun base kb nb => My.law_fn T kb nb⟩; exact fun s u => .of_eq rfl
  case S => exact fun w H a ns hl hO hS => ..
  case C => exact ..
(the tactic k_is has no namespace: write k_is) -/

/-! SHORT WORDS over the layer: a def of the text, its body, what a loop and a test want. -/
namespace L2
open PySem PySem.Spec PyProof.Rows

/-! ### the text by places -/
def defArgs (s : Stmt) : Arguments := match s with
  | .FunctionDef _ a _ _ _ _ _ _ _ _ => a
  | _ => { posonlyargs := [], args := [], vararg := none, kwonlyargs := [], kw_defaults := [], kwarg := none, defaults := [] }
def defBody (s : Stmt) : List Stmt := match s with
  | .FunctionDef _ _ b _ _ _ _ _ _ _ => b
  | _ => []
def defScope (s : Stmt) : Scope := match s with
  | .FunctionDef _ _ _ _ _ _ sc _ _ _ => sc
  | _ => { kind := .function, names := [], isGenerator := false, isCoroutine := false }

/-! ### no exception leaves a def -/
abbrev CX0 : CXT := fun _ _ _ _ _ _ => False
abbrev E0 : XK := fun _ _ _ => False
theorem pass0 {X : Cx} : Passes CX0 X E0 := fun _ _ _ _ _ _ _ h => h.elim

/-! ### a def (or method) of the text as it stands behind the top -/
structure Fun (K : PySem.W.Frag) (x qual : Str) (st : Stmt) (f : Addr) (fd : FuncData) : Prop where
  ex : ∃ (oc : Value) (od : Option Addr) (kV doc pm : Value) (an : Option Addr) (cdv ct : Value) (osl : Array (Option Value)),
    fd = PySem.W.fnOf x qual (defArgs st) (defBody st) (defScope st) .none kV doc pm an cdv ct ∧ K.lookup f = some ⟨oc, od, .func fd, osl⟩ ∧ PySem.W.codeIn K cdv qual = true
  kp : PySem.W.keepIn K (.ref f) = true
section
variable {P : Program} {w : World} {K : PySem.W.Frag} {mg : Str → Option Value} {base : Heap}
theorem Fun.ok {x qual : Str} {st : Stmt} {f : Addr} {fd : FuncData} {N ps : List Str} {k : Nat} {sp : Sp} (F : Fun K x qual st f fd) (S : FnScope N ps (defScope st)) (len : ∀ vs H Q E, sp vs H Q E → vs.length = ps.length)
    (hbody : ∀ (cdv : Value) (A : Around) (outer : List Env) (s : Shared) (H : Hp) (vs : List V) (Q : VK) (E : XK), Room k (A.deeper (envOfC qual (defScope st) s.heap.objs.size f cdv)) → sp vs H Q E →
      ∃ t, PSs (cxOf CX0 P w K mg base N qual (defScope st) f cdv A outer s H E).nox (defBody st) t ∧ t { nx := fun _ H' => Q .non H', rt := Q } (start N vs) H) : FnOk P w K mg base CX0 (k + 1) f fd ps sp := by
  obtain ⟨oc, od, kV, doc, pm, an, cdv, ct, osl, rfl, lk, hcd⟩ := F.ex
  refine fn_of lk hcd S len fun A outer s H vs Q E hr hsp => ?_
  obtain ⟨t, h, q⟩ := hbody cdv A outer s H vs Q E hr hsp
  exact ⟨t, h.nox, q⟩
theorem Fun.binds {x qual : Str} {st : Stmt} {f : Addr} {fd : FuncData} {ps : List Str} (F : Fun K x qual st f fd)
    (h : ∀ (kV doc pm : Value) (an : Option Addr) (cdv ct : Value) (us : List Value), us.length = ps.length → bindArgs (PySem.W.fnOf x qual (defArgs st) (defBody st) (defScope st) .none kV doc pm an cdv ct) ⟨us, []⟩ = pure (ps.zip us)) : Binds K fd ps [] := by
  obtain ⟨oc, od, kV, doc, pm, an, cdv, ct, osl, rfl, lk, hcd⟩ := F.ex
  exact .all (h kV doc pm an cdv ct)
theorem fun_mk {x qual : Str} {st : Stmt} {f : Addr} {oc : Value} {od an : Option Addr} {osl : Array (Option Value)} {kV doc pm cdv ct : Value} (l : K.lookup f = some ⟨oc, od, .func (PySem.W.fnOf x qual (defArgs st) (defBody st) (defScope st) .none kV doc pm an cdv ct), osl⟩)
    (c : PySem.W.codeIn K cdv qual = true) (k : PySem.W.keepIn K (.ref f) = true) : Fun K x qual st f (PySem.W.fnOf x qual (defArgs st) (defBody st) (defScope st) .none kV doc pm an cdv ct) := ⟨⟨oc, od, kV, doc, pm, an, cdv, ct, osl, rfl, l, c⟩, k⟩
end
/-! ### expressions in short: the name that stands in the i-th slot -/
section
variable {X : Cx}
theorem pv (i : Nat) {x : Str} {pos : Pos} (hN : X.N[i]? = some x := by rfl) (hv : Vis X.env.scope x := by first | exact Or.inl rfl | exact Or.inr (Or.inl rfl) | exact Or.inr (Or.inr rfl)) (hd : (x == ("__debug__" : Str)) = false := by decide)
    (hcd : (x == ("__classdict__" : Str)) = false := by decide) : PE X (.Name x pos) (tVar i) := pe_var hN hv hd hcd
end

/-! ### tests -/
theorem iteF {A B : Prop} (h : B) : if false = true then A else B := by
  rw [if_neg Bool.false_ne_true]
  exact h
theorem iteT {A B : Prop} (h : A) : if true = true then A else B := by
  rw [if_pos rfl]
  exact h
theorem ite2 {c A B : Prop} [Decidable c] (h1 : c → A) (h2 : ¬ c → B) : if c then A else B := by
  by_cases h : c
  · rw [if_pos h]
    exact h1 h
  · rw [if_neg h]
    exact h2 h
theorem iteNS {c A B : Prop} [Decidable c] (hc : c) (h : B) : if (!decide c) = true then A else B := by
  rw [decide_eq_true hc]
  exact iteF h

/-! ### heaps -/
def Same (H H' : Hp) : Prop := ∀ b o, H b = some o → H' b = some o
theorem Same.refl (H : Hp) : Same H H := fun _ _ h => h
theorem Same.trans {H H1 H2 : Hp} (a : Same H H1) (b : Same H1 H2) : Same H H2 := fun c o h => b c o (a c o h)
theorem Same.seq {K : PySem.W.Frag} {H H' : Hp} {a : Addr} {xs : List V} (e : Same H H') (h : SqL K H a xs) : SqL K H' a xs := by
  rcases h with (h | ⟨o, h⟩) | h
  · exact .inl (.inl (e _ _ h))
  · exact .inl (.inr ⟨o, e _ _ h⟩)
  · exact .inr h

end L2

set_option Elab.async false
set_option linter.all false
set_option maxRecDepth 100000
set_option maxHeartbeats 4000000
namespace L2
open PySem PySem.Spec PyProof.Rows
/-! texts as lists of codes -/
abbrev S (l : List Nat) : Str := ⟨⟨l⟩⟩
theorem S_len (l : List Nat) : (S l).length = l.length := rfl
theorem S_app (a b : List Nat) : S a ++ S b = S (a ++ b) := by
  refine PyProof.Rows.ext_toList ?_
  rw [PySem.W.KT.app_list]
theorem S_inj {a b : List Nat} (h : S a = S b) : a = b := congrArg (fun x : Str => x.cps.toList) h
def cutL {α : Type} (l : List α) (lo hi : Option Int) : List α := (l.drop (HT.sIx l.length 0 lo)).take (HT.sIx l.length l.length hi - HT.sIx l.length 0 lo)
theorem clipS (v : Int) (n : Nat) : max 0 (min (if v < 0 then v + (n : Int) else v) (n : Int)) = ((HT.sIx n 0 (some v) : Nat) : Int) := by
  show _ = (((if v < 0 then (v + (n : Int)).toNat else min v.toNat n) : Nat) : Int)
  by_cases hv : v < 0
  · simp only [if_pos hv]; omega
  · simp only [if_neg hv]; omega
theorem strIx_eq (lo hi : Option Int) (n : Nat) : Builtin.Str.strSliceIndices lo hi 1 n = (List.range (HT.sIx n n hi - HT.sIx n 0 lo)).map (HT.sIx n 0 lo + ·) := by
  rw [← sliceRange_one]
  unfold Builtin.Str.strSliceIndices
  simp only [show (1 : Int) > 0 by decide, if_true]
  cases lo with
  | none =>
    cases hi with
    | none => rfl
    | some v => dsimp only; rw [clipS]; rfl
  | some u =>
    cases hi with
    | none => dsimp only; rw [clipS]; rfl
    | some v => dsimp only; rw [clipS, clipS]; rfl
theorem slice_S (l : List Nat) (lo hi : Option Int) : Txt.slice (S l) lo hi = S (cutL l lo hi) := by
  unfold Txt.slice
  rw [strIx_eq, pick_run]
  split
  · rename_i h
    have e : (List.map (HT.sIx (S l).length 0 lo + ·) (List.range (HT.sIx (S l).length (S l).length hi - HT.sIx (S l).length 0 lo))).length = (S l).length := by
      simpa using h
    rw [List.length_map, List.length_range, S_len] at e
    have h1 : HT.sIx l.length l.length hi ≤ l.length := HT.sIx_le _ _ (Nat.le_refl _) _
    have h0 : HT.sIx l.length 0 lo ≤ l.length := HT.sIx_le _ _ (Nat.zero_le _) _
    have z : l.length = 0 ∨ HT.sIx l.length 0 lo = 0 := by omega
    unfold cutL
    rcases z with z | z
    · have : l = [] := List.length_eq_zero_iff.mp z
      subst this
      simp
    · rw [z, List.drop_zero, List.take_of_length_le (by omega)]
  · rfl
section
variable {X : Cx}
theorem sl_str : SlR X (fun x lo hi H Q => ∃ l, x = .str (S l) ∧ l.length ≤ sizeLine ∧ Q (.str (S (cutL l lo hi))) H) := by
  intro pins s σ H x v vl vu lo hi sl Q I rx hs pl pu h
  obtain ⟨l, rfl, hz, q⟩ := h
  obtain ⟨t, rfl⟩ := rx
  refine ⟨"str", _, F.slot_str_getitem.lookup, typeIs_str _ _ _, ?_⟩
  have fin : ∀ t' k, EP X pins σ Q (.str (Txt.slice (S l) lo hi) t') { s with toks := k } := fun t' k => ⟨.str (S (cutL l lo hi)), H, I.tok _, ⟨t', by rw [slice_S]⟩, q⟩
  have hz' : ∀ lo hi, (Txt.slice (S l) lo hi).length ≤ sizeLine := fun lo hi => Nat.le_trans (Txt.slice_le _ _ _) hz
  cases pl with
  | none =>
    cases pu with
    | none => exact wpAny_getItem_str_slice (l := none) (u := none) (st := none) hs rfl (post_val_or_str ⟨hz' _ _, fin⟩)
    | int j tj => exact wpAny_getItem_str_slice (l := none) (u := some (j, tj)) (st := none) hs rfl (post_val_or_str ⟨hz' _ _, fin⟩)
  | int i ti =>
    cases pu with
    | none => exact wpAny_getItem_str_slice (l := some (i, ti)) (u := none) (st := none) hs rfl (post_val_or_str ⟨hz' _ _, fin⟩)
    | int j tj => exact wpAny_getItem_str_slice (l := some (i, ti)) (u := some (j, tj)) (st := none) hs rfl (post_val_or_str ⟨hz' _ _, fin⟩)
theorem op_adS : OpR X (binaryOp .Add) (fun x y H Q => ∃ a b, x = .str (S a) ∧ y = .str (S b) ∧ a.length + b.length ≤ sizeLine ∧ Q (.str (S (a ++ b))) H) := by
  intro pins s σ H x y v u Q I rx ry h
  obtain ⟨a, b, rfl, rfl, hz, q⟩ := h
  exact op_add_str pins s σ H _ _ v u Q I rx ry ⟨S a, S b, rfl, rfl, hz, by rw [S_app]; exact q⟩
theorem call_lenS : CallR X (.builtin "len") (fun xs H Q => ∃ l, xs = [.str (S l)] ∧ l.length ≤ sizeLine ∧ Q (.int l.length) H) := by
  intro pins s σ H xs us Q I r h
  obtain ⟨l, rfl, hz, q⟩ := h
  exact call_len_str pins s σ H _ us Q I r ⟨S l, rfl, hz, q⟩
theorem ix_S : IxR X (fun x y H Q => ∃ l i c, x = .str (S l) ∧ y = .int i ∧ l.length ≤ sizeLine ∧ atI l i = some c ∧ Q (.str (S [c])) H) := by
  intro value slice pins s σ H x y v u Q I rx ry h hs
  obtain ⟨l, i, c, rfl, rfl, hz, he, q⟩ := h
  exact ix_str value slice pins s σ H _ _ v u Q I rx ry ⟨S l, i, c, rfl, rfl, hz, he, q⟩ hs
def clsV : V → Value
  | .ty n => .type n
  | .ref a => .ref a
  | _ => .none
theorem call_isi : CallR X (.builtin "isinstance") (fun xs H Q => ∃ x c t b, xs = [x, c] ∧ (∃ n, c = .ty n ∨ ∃ a, c = .ref a) ∧ TyOf X.K H x t ∧ PySem.W.kitOne X.K t (clsV c) = some b ∧ Q (.bl b) H) := by
  intro pins s σ H xs us Q I r h
  obtain ⟨x, c, t, b, rfl, hc, ty, e, q⟩ := h
  obtain ⟨u, w, rfl, ru, rw'⟩ := r.two
  have ew : w = clsV c := by
    obtain ⟨n, rfl | ⟨a, rfl⟩⟩ := hc
    · exact rw'
    · exact rw'
  subst ew
  exact isinst_ok I ru ty e fun tk => ⟨.bl b, H, I.tok _, rfl, q⟩
end
/-! an own def, bundled -/
structure Own (P : Program) (w : World) (K : PySem.W.Frag) (mg : Str → Option Value) (base : Heap) (CX : CXT) (k : Nat) (x : Str) (ps : List Str) (sp : Sp) : Prop where
  ex : ∃ f fd, FnOk P w K mg base CX k f fd ps sp ∧ Binds K fd ps [] ∧ PySem.W.keepIn K (.ref f) = true ∧ mg x = some (.ref f)
section
variable {X : Cx} {CX : CXT} {j k : Nat} {ps : List Str} {sp : Sp} {E : XK} {x : Str} {p pos : Pos} {e : Expr} {es : List Expr} {t : TA}
theorem pe_own (O : Own X.prog X.w X.K X.mg X.base CX j x ps sp) (hr : Room k X.A) (hg : Gl X x) (hx : Passes CX X E) (ha : PA X (e :: es) t) (hj : j ≤ k := by decide) (hdb : (x == ("__debug__" : Str)) = false := by decide)
    (he : starEach (e :: es) X.env = (false, eval e X.env) :: starEach es X.env := by rfl) (hpl : (backTo pos (starEach es X.env)).any (·.1) = false := by rfl) : PE X (.Call (.Name x p) (e :: es) [] pos) (tCall sp [] E t) := by
  obtain ⟨f, fd, F, b, kp, m⟩ := O.ex
  exact pe_call F (hr.mono hj) hg m kp b .nil hx ha hdb he hpl
end
theorem boot_isi : bootBuiltins "isinstance" = some (.builtin "isinstance") := by first | exact PySem.boot_isinstance | decide +kernel
theorem small {n : Nat} (h : n ≤ 1000000) : n ≤ sizeLine := by rw [PySem.sizeLine_eq]; omega
theorem boot_int : bootBuiltins "int" = some (.type "int") := by decide +kernel
theorem boot_bool : bootBuiltins "bool" = some (.type "bool") := by decide +kernel
theorem boot_str : bootBuiltins "str" = some (.type "str") := by decide +kernel
theorem boot_tuple : bootBuiltins "tuple" = some (.type "tuple") := by decide +kernel
theorem kit_ii {K : PySem.W.Frag} : PySem.W.kitOne K (.type "int") (.type "int") = some true := by rfl
theorem kit_ib {K : PySem.W.Frag} : PySem.W.kitOne K (.type "int") (.type "bool") = some false := by first | rfl | decide +kernel | (unfold PySem.W.kitOne; rfl)
theorem kit_ss {K : PySem.W.Frag} : PySem.W.kitOne K (.type "str") (.type "str") = some true := by rfl
theorem kit_tt {K : PySem.W.Frag} : PySem.W.kitOne K (.type "tuple") (.type "tuple") = some true := by rfl
theorem atI_in {α : Type} (l : List α) {i : Int} (h0 : 0 ≤ i) (h : i.toNat < l.length) : atI l i = some (l[i.toNat]) := by
  have e : ((i.toNat : Nat) : Int) = i := by omega
  have z := atI_nat (List.getElem?_eq_getElem h)
  rw [e] at z
  exact z
theorem cutL_m {α : Type} (l : List α) (k : Nat) : cutL l none (some (k : Int)) = l.take k := by
  unfold cutL
  rw [HT.sIx_nat, HT.sIx_none, List.drop_zero, Nat.sub_zero]
  by_cases h : k ≤ l.length
  · rw [Nat.min_eq_left h]
  · rw [Nat.min_eq_right (by omega), List.take_of_length_le (by omega), List.take_of_length_le (by omega)]
theorem cutL_map {α β : Type} (f : α → β) (l : List α) (lo hi : Option Int) : cutL (l.map f) lo hi = (cutL l lo hi).map f := by
  unfold cutL
  rw [List.length_map, List.map_take, List.map_drop]
theorem cutL_le {α : Type} (l : List α) (lo hi : Option Int) : (cutL l lo hi).length ≤ l.length := by
  unfold cutL
  rw [List.length_take, List.length_drop]
  omega
theorem same_new {H : Hp} {p : Addr} (h : H p = none) (o : HO) : Same H (upd H p o) := fun b u q => by rw [upd_ne (ne_of_none q h)]; exact q
theorem sq_cut {K : PySem.W.Frag} {H : Hp} {p : Addr} {cs : List Int} {lo hi : Option Int} : SqL K (upd H p (.lst (cutV (cs.map V.int) lo hi))) p ((cutL cs lo hi).map V.int) := by
  rw [← cutL_map]
  exact SqL.of upd_same
theorem iteDT {c A B : Prop} [Decidable c] (h : c) (x : A) : if decide c = true then A else B := by
  rw [decide_eq_true h]
  exact iteT x
theorem iteDF {c A B : Prop} [Decidable c] (h : ¬ c) (x : B) : if decide c = true then A else B := by
  rw [decide_eq_false h]
  exact iteF x
end L2

set_option Elab.async false
set_option linter.all false
set_option maxRecDepth 100000
set_option maxHeartbeats 4000000
namespace L2
open PySem PySem.Spec PyProof.Rows PySem.W PySem.Builtin.ObjectAttr PySem.Builtin.Getset_descriptor
/-! ## exceptions of own classes -/
section
variable {K : Frag} {e C : Addr} {M : Model} {h : Heap}
end
section
variable {X : Cx}
end
/-! ## how an exception lies behind a call: it flies; whatever is done to its own records, the rest stands -/
section
variable {X : Cx} {pins : List (Addr × Obj)} {σ : St} {H : Hp} {s : Shared}
end
section
variable {P : Program} {w : World} {K : Frag} {mg : Str → Option Value} {base : Heap} {N : List Str} {qual : Str} {scope : Scope} {f : Addr} {cd : Value} {A : Around} {outer : List Env} {s : Shared} {H : Hp} {E : XK}
end
/-! ## raise C(..) -/
section
variable {X : Cx} {x : Str} {C : Addr} {np cpos pos : Pos} {e0 : Expr} {t : TA} {E : XK}
end
/-! ## try: body; except M as n: suite -/
section
variable {X : Cx} {CX : CXT} {j k : Nat} {ps : List Str} {sp : Sp} {E : St → XK} {x : Str} {p pos : Pos} {e : Expr} {es : List Expr} {t : TA}
end
section
variable {X : Cx} {pins pins' : List (Addr × Obj)} {σ : St} {H : Hp} {s : Shared} {E : St → XK} {e : Addr}
end
section
variable {X : Cx} {pins : List (Addr × Obj)} {σ : St} {H H' : Hp} {s : Shared}
end
section
variable {X : Cx} {n x : Str} {i : Nat} {M : Addr} {body suite : List Stmt} {b₀ : Stmt} {np hpos pos : Pos} {tb : (St → XK) → TS} {ts : Addr → TS}
end
/-! ## a def that is called in an except suite -/
section
variable {P : Program} {w : World} {K : Frag} {mg : Str → Option Value} {base : Heap}
end
section
variable {X : Cx} {j k : Nat} {ps : List Str} {sp : Sp} {x : Str} {p pos : Pos} {e : Expr} {es : List Expr} {t : TA}
end
end L2

set_option Elab.async false
set_option linter.all false
set_option maxRecDepth 100000
set_option maxHeartbeats 4000000
namespace L2
open PySem PySem.Spec PyProof.Rows PySem.StrLaws
/-! ## texts: count, rfind of one sign; l * n -/
theorem occ_go (l : List Nat) (c : Nat) : ∀ (m a : Nat) (st : Array Nat × Nat), st.snd ≤ a → st.fst.size ≤ a → a + m ≤ l.length + 1 →
    (forIn (List.range' a m) st (occBody (S l) (S [c]) l.length (l.length + 1))).run.fst.toList = st.fst.toList ++ (List.range' a m).filter (fun i => l[i]? == some c)
  | 0, a, st, _, _, _ => by simp
  | m + 1, a, st, h1, h2, h3 => by
    rw [List.range'_succ, List.forIn_cons]
    unfold occBody
    have key := subAt_one (S l) c a
    by_cases hc : l[a]? = some c
    · have z := key.mpr hc
      rw [if_pos ⟨⟨⟨by omega, h1⟩, z.1⟩, z.2⟩]
      have ih := occ_go l c m (a + 1) (st.fst.push a, a + 1) (Nat.le_refl _) (by simp; omega) (by omega)
      rw [List.filter_cons, if_pos (by rw [hc]; exact beq_self_eq_true _)]
      refine Eq.trans ih ?_
      simp
    · have z : ¬ (((st.fst.size < l.length + 1 ∧ st.snd ≤ a) ∧ a + (S [c]).length ≤ l.length) ∧ Builtin.Str.subAt (S l) (S [c]) a = true) := fun q => hc (key.mp ⟨q.1.2, q.2⟩)
      rw [if_neg z]
      have ih := occ_go l c m (a + 1) (st.fst, st.snd) (by show st.snd ≤ a + 1; omega) (by show st.fst.size ≤ a + 1; omega) (by omega)
      rw [List.filter_cons, if_neg (by intro q; exact hc (beq_iff_eq.mp q))]
      exact ih
theorem occ_one (l : List Nat) (c : Nat) : Builtin.Str.occurrences (S l) (S [c]) 0 l.length (l.length + 1) = (List.range (l.length + 1)).filter (fun i => l[i]? == some c) := by
  rw [occ_eq, Nat.sub_zero, occ_go l c (l.length + 1) 0 (#[], 0) (Nat.le_refl _) (by simp) (by omega), List.range_eq_range']
  simp
theorem snoc_ind {α : Type} {P : List α → Prop} (h0 : P []) (h1 : ∀ l x, P l → P (l ++ [x])) (l : List α) : P l := by
  have z : ∀ l : List α, P l.reverse := fun l => by
    induction l with
    | nil => exact h0
    | cons x l ih => rw [List.reverse_cons]; exact h1 _ _ ih
  have e := z l.reverse
  rw [List.reverse_reverse] at e
  exact e
theorem places_len (c : Nat) (l : List Nat) : ((List.range l.length).filter (fun i => l[i]? == some c)).length = l.count c := by
  refine snoc_ind (P := fun l => ((List.range l.length).filter (fun i => l[i]? == some c)).length = l.count c) (by simp) (fun l x ih => ?_) l
  · rw [List.length_append, List.length_singleton, List.range_succ, List.filter_append, List.length_append, List.count_append]
    have e : (List.range l.length).filter (fun i => (l ++ [x])[i]? == some c) = (List.range l.length).filter (fun i => l[i]? == some c) := by
      apply List.filter_congr
      intro i hi
      rw [List.getElem?_append_left (List.mem_range.mp hi)]
    rw [e, ih, List.filter_cons, List.filter_nil, List.getElem?_append_right (Nat.le_refl _), Nat.sub_self]
    by_cases h : x = c
    · subst h; simp
    · have h' : ¬ (some x == some c) = true := fun q => h (Option.some.inj (beq_iff_eq.mp q))
      simp [h]
theorem count_one (l : List Nat) (c : Nat) : Txt.count (S l) (S [c]) = (l.count c : Int) := by
  unfold Txt.count
  rw [S_len, occ_one, List.range_succ, List.filter_append, List.length_append, places_len]
  simp
theorem at_iff (l : List Nat) (c i : Nat) : StrLaws.At (S l) (S [c]) l.length i ↔ l[i]? = some c := subAt_one (S l) c i
section
variable {X : Cx}
theorem mt_count : MtR X "str.count" (fun x vs H Q => ∃ l c, x = .str (S l) ∧ vs = [.str (S [c])] ∧ Q (.int (l.count c)) H) := by
  intro pins s σ H x vs v us Q I rx rv h
  obtain ⟨l, c, rfl, rfl, q⟩ := h
  obtain ⟨t, rfl⟩ := rx
  obtain ⟨u, rfl, t', rfl⟩ := rv.one
  refine SC.count ⟨.int (l.count c), H, I.tok _, ⟨_, by rw [count_one]⟩, q⟩
end
/-! ## == of two lists, of two tuples of flat values -/
def eqs : List V → List V → Bool
  | [], [] => true
  | x :: xs, y :: ys => eqV x y && eqs xs ys
  | _, _ => false
theorem eqs_len : ∀ {xs ys : List V}, xs.length ≠ ys.length → eqs xs ys = false
  | [], [], h => absurd rfl h
  | [], _ :: _, _ => rfl
  | _ :: _, [], _ => rfl
  | x :: xs, y :: ys, h => by
    unfold eqs
    rw [eqs_len (xs := xs) (ys := ys) (fun q => h (by rw [List.length_cons, List.length_cons, q])), Bool.and_false]
def eqAtJ (xs ys : List V) (j : Nat) : Bool := match xs[j]?, ys[j]? with
  | some x, some y => eqV x y
  | _, _ => false
theorem eqs_all : ∀ {xs ys : List V}, xs.length = ys.length → (List.range xs.length).all (eqAtJ xs ys) = eqs xs ys
  | [], [], _ => rfl
  | [], _ :: _, h => by cases h
  | _ :: _, [], h => by cases h
  | x :: xs, y :: ys, h => by
    have ih := eqs_all (xs := xs) (ys := ys) (Nat.succ.inj h)
    rw [List.length_cons, List.range_succ_eq_map, List.all_cons, List.all_map]
    unfold eqs
    rw [← ih]
    rfl
theorem Vals.at {xs : List V} {us : List Value} (r : Vals xs us) {j : Nat} (h : j < us.toArray.size) : ∃ x, xs[j]? = some x ∧ RelV x us.toArray[j] := by
  have hj : j < us.length := by simpa using h
  have hx : j < xs.length := by rw [r.length]; exact hj
  obtain ⟨u, hu, ru⟩ := r.get (List.getElem?_eq_getElem hx)
  refine ⟨xs[j], List.getElem?_eq_getElem hx, ?_⟩
  rw [List.getElem?_eq_getElem hj] at hu
  cases hu
  simpa using ru
theorem flat_at {xs : List V} (h : xs.all flatV = true) {j : Nat} {x : V} (e : xs[j]? = some x) : flatV x = true := List.all_eq_true.mp h x (List.mem_of_getElem? e)
section
variable {X : Cx}
theorem op_eqQ (hu : X.A.units < cLine) : OpR X (compareOp .Eq) (fun x y H Q => ∃ p q xs ys, x = .ref p ∧ y = .ref q ∧ ((SqL X.K H p xs ∧ SqL X.K H q ys) ∨ (SqT X.K H p xs ∧ SqT X.K H q ys)) ∧ xs.all flatV = true ∧ ys.all flatV = true ∧ Q (.bl (eqs xs ys)) H) := by
  intro pins s σ H x y v u Q I rx ry h
  obtain ⟨p, q, xs, ys, rfl, rfl, hq, fx, fy, w⟩ := h
  cases rx
  cases ry
  rcases hq with ⟨h1, h2⟩ | ⟨h1, h2⟩
  · obtain ⟨its, r, pl, hz⟩ := I.list h1
    obtain ⟨jts, r2, pl2, hz2⟩ := I.list h2
    by_cases hl : xs.length = ys.length
    · have e1 : its.toArray.size = xs.length := by rw [List.size_toArray, r.length]
      refine SeqAt.eq_listAt (e := eqAtJ xs ys) pl.isList pl2.isList (by rw [e1, hl, r2.length]; simp) hu (fun j ha hb => ?_) ⟨.bl (eqs xs ys), H, I, ?_, w⟩
      · obtain ⟨a, ea, ra⟩ := r.at ha
        obtain ⟨b, eb, rb⟩ := r2.at hb
        have e : eqAtJ xs ys j = eqV a b := by unfold eqAtJ; rw [ea, eb]
        rw [e]
        exact eqAt_V ra rb (flat_at fx ea) (flat_at fy eb)
      · rw [e1, eqs_all hl] <;> rfl
    · refine SeqAt.eq_list_lengthsAt pl.isList pl2.isList ?_ hu ⟨.bl (eqs xs ys), H, I, ?_, w⟩
      · rw [bne_iff_ne, List.size_toArray, List.size_toArray, ← r.length, ← r2.length]
        exact hl
      · rw [eqs_len hl] <;> rfl
  · obtain ⟨its, r, pl, hz⟩ := I.tuple h1
    obtain ⟨jts, r2, pl2, hz2⟩ := I.tuple h2
    have e1 : its.toArray.size = xs.length := by rw [List.size_toArray, r.length]
    have e2 : jts.toArray.size = ys.length := by rw [List.size_toArray, r2.length]
    refine SeqAt.eq_tupleAt (e := eqAtJ xs ys) (show s.heap.IsTuple p its.toArray from pl) (show s.heap.IsTuple q jts.toArray from pl2) hu (fun j ha hb => ?_) ⟨.bl (eqs xs ys), H, I, ?_, w⟩
    · obtain ⟨a, ea, ra⟩ := r.at ha
      obtain ⟨b, eb, rb⟩ := r2.at hb
      have e : eqAtJ xs ys j = eqV a b := by unfold eqAtJ; rw [ea, eb]
      rw [e]
      exact eqAt_V ra rb (flat_at fx ea) (flat_at fy eb)
    · rw [e1, e2]
      by_cases hl : xs.length = ys.length
      · rw [← hl, Nat.min_self, eqs_all hl, beq_self_eq_true, Bool.and_true] <;> rfl
      · rw [eqs_len hl, show (xs.length == ys.length) = false from by rw [beq_eq_false_iff_ne]; exact hl, Bool.and_false] <;> rfl
end
end L2

set_option Elab.async false
set_option linter.all false
set_option maxRecDepth 100000
set_option maxHeartbeats 4000000
namespace L2
open PySem PySem.Spec PyProof.Rows PySem.StrLaws
/-! ## != of lists and tuples; == of lists of the same references -/
section
variable {X : Cx}
end
/-! ## split('\n') -/
def occs (l : List Nat) : List Nat := (List.range l.length).filter (fun i => l[i]? == some 10)
theorem occ_nl (l : List Nat) : Builtin.Str.occurrences (S l) (S [10]) 0 l.length (l.length + 1) = occs l := by
  rw [occ_one, List.range_succ, List.filter_append]
  unfold occs
  simp
def starts (l : List Nat) : List Nat := 0 :: (occs l).map (· + 1)
def stops (l : List Nat) : List Nat := occs l ++ [l.length]
def splitL (l : List Nat) : List (List Nat) := ((starts l).zip (stops l)).map fun p => (l.drop p.1).take (p.2 - p.1)
theorem sub_S (l : List Nat) (i j : Nat) : Builtin.Str.strSub (S l) i j = S ((l.drop i).take (j - i)) := by
  refine PyProof.Rows.ext_toList ?_
  show ((⟨l⟩ : Array Nat).extract i j).toList = (l.drop i).take (j - i)
  simp [List.extract_eq_take_drop]
theorem parts_S (l : List Nat) : Builtin.Str.partsBetween (S l) (occs l) 1 = (splitL l).map S := by
  unfold Builtin.Str.partsBetween splitL starts stops
  rw [List.map_map]
  apply List.map_congr_left
  rintro ⟨i, j⟩ _
  exact sub_S l i j
theorem occs_len (l : List Nat) : (occs l).length = l.count 10 := places_len 10 l
theorem starts_len (l : List Nat) : (starts l).length = l.count 10 + 1 := by unfold starts; rw [List.length_cons, List.length_map, occs_len]
theorem stops_len (l : List Nat) : (stops l).length = l.count 10 + 1 := by unfold stops; rw [List.length_append, occs_len]; rfl
theorem splitL_len (l : List Nat) : (splitL l).length = l.count 10 + 1 := by unfold splitL; rw [List.length_map, List.length_zip, starts_len, stops_len, Nat.min_self]
theorem splitL_one {l : List Nat} (h : occs l = []) : splitL l = [l] := by
  unfold splitL starts stops
  rw [h]
  simp
theorem count_le (l : List Nat) : l.count 10 ≤ l.length := List.count_le_length
section
variable {X : Cx}
theorem vals_from (tk : Nat) : ∀ (ls : List (List Nat)), Vals (ls.map fun r => V.str (S r)) (strsFrom tk (ls.map S)) := by
  intro ls
  induction ls generalizing tk with
  | nil => exact .nil
  | cons r ls ih => exact .cons ⟨_, rfl⟩ (ih (tk + 1))
theorem mt_split : MtR X "str.split" (fun x vs H Q => ∃ l, x = .str (S l) ∧ vs = [.str (S [10])] ∧ l.length ≤ 100000 ∧ ∀ p, H p = none → Q (.ref p) (upd H p (.lst ((splitL l).map fun r => .str (S r))))) := by
  intro pins s σ H x vs v us Q I rx rv h
  obtain ⟨l, rfl, rfl, hl, q⟩ := h
  obtain ⟨t, rfl⟩ := rx
  obtain ⟨u, rfl, t', rfl⟩ := rv.one
  have hz : ((splitL l).map fun r => V.str (S r)).length ≤ sizeLine := by
    rw [List.length_map, splitL_len]
    have := count_le l
    exact small (by omega)
  have one : ∀ e : occs l = [], EP X pins σ Q (.ref s.heap.objs.size) { s with heap := s.heap.push { cls := .type "list", data := .seq [Value.str (S l) t].toArray } } := fun e => by
    have J := I.lnew (ys := (splitL l).map fun r => V.str (S r)) (its := [Value.str (S l) t]) (t' := s.toks) (by rw [splitL_one e]; exact .cons ⟨_, rfl⟩ .nil) hz
    exact ⟨.ref s.heap.objs.size, _, J, rfl, q _ I.fresh⟩
  have hw : (((S [10]).length == 0) : Bool) = false := rfl
  cases h1 : (decide ((S l).length < (S [10]).length) || decide (Builtin.Str.strKind (S l) < Builtin.Str.strKind (S [10]))) with
  | true =>
    have e : occs l = [] := by
      have k1 : Builtin.Str.strKind (S [10]) = 1 := by decide +kernel
      have k2 : 1 ≤ Builtin.Str.strKind (S l) := by unfold Builtin.Str.strKind; split <;> (try split) <;> omega
      rw [Bool.or_eq_true, decide_eq_true_eq, decide_eq_true_eq] at h1
      have hlen : (S [10]).length = 1 := rfl
      have : l.length = 0 := by
        rcases h1 with z | z
        · have z' : l.length < 1 := z
          omega
        · omega
      have : l = [] := List.length_eq_zero_iff.mp this
      subst this
      rfl
    exact call_meets F.slot_str_split (typeIs_str _ _ _) F.entry_str_split (F.args_str_split_2 _ _) (meets_str_split_cannot_occur (S l) (S [10]) t t' h1) (one e)
  | false =>
    have eo : Builtin.Str.occurrences (S l) (S [10]) 0 (S l).length ((S l).length + 1) = occs l := occ_nl l
    cases hf : (occs l).isEmpty with
    | true =>
      have e : occs l = [] := List.isEmpty_iff.mp hf
      exact call_meets F.slot_str_split (typeIs_str _ _ _) F.entry_str_split (F.args_str_split_2 _ _) (meets_str_split_not_found (S l) (S [10]) t t' h1 hw (by rw [eo]; exact hf)) (one e)
    | false =>
      have ep : Builtin.Str.partsBetween (S l) (Builtin.Str.occurrences (S l) (S [10]) 0 (S l).length ((S l).length + 1)) (S [10]).length = (splitL l).map S := by rw [eo]; exact parts_S l
      refine call_meets F.slot_str_split (typeIs_str _ _ _) F.entry_str_split (F.args_str_split_2 _ _) (meets_str_split_sep (S l) (S [10]) t t' h1 hw (by rw [eo]; exact hf) (small (by show l.length ≤ 1000000; omega)) (by rw [ep, List.length_map]; rw [List.length_map] at hz; exact hz)) ?_
      have J := I.lnew (ys := (splitL l).map fun r => V.str (S r)) (its := strsFrom s.toks ((splitL l).map S)) (t' := s.toks + ((splitL l).map S).length) (vals_from _ _) hz
      show EP X pins σ Q (.ref s.heap.objs.size) _
      rw [ep]
      exact ⟨.ref s.heap.objs.size, _, J, rfl, q _ I.fresh⟩
end
/-! ## the rows of a text, by their begins and ends -/
theorem occs_mem {l : List Nat} {i : Nat} (h : i ∈ occs l) : i < l.length := List.mem_range.mp (List.mem_filter.mp h).1
theorem occs_sorted (l : List Nat) : (occs l).Pairwise (· < ·) := List.Pairwise.filter _ List.pairwise_lt_range
theorem stops_sorted (l : List Nat) : (stops l).Pairwise (· < ·) := by
  unfold stops
  rw [List.pairwise_append]
  refine ⟨occs_sorted l, by simp, fun a ha b hb => ?_⟩
  rw [List.mem_singleton] at hb
  subst hb
  exact occs_mem ha
def endAt (l : List Nat) (i : Nat) : Nat := (stops l).getD i 0
def begAt (l : List Nat) : Nat → Nat
  | 0 => 0
  | i + 1 => endAt l i + 1
theorem stops_at {l : List Nat} {i : Nat} (h : i < l.count 10 + 1) : (stops l)[i]? = some (endAt l i) := by
  unfold endAt
  rw [List.getD_eq_getElem?_getD, List.getElem?_eq_getElem (by rw [stops_len]; exact h)]
  rfl
theorem end_le {l : List Nat} {i : Nat} (h : i < l.count 10 + 1) : endAt l i ≤ l.length := by
  have m := List.mem_of_getElem? (stops_at h)
  unfold stops at m
  rcases List.mem_append.mp m with z | z
  · exact Nat.le_of_lt (occs_mem z)
  · rw [List.mem_singleton] at z; omega
theorem starts_at {l : List Nat} {i : Nat} (h : i < l.count 10 + 1) : (starts l)[i]? = some (begAt l i) := by
  unfold starts
  cases i with
  | zero => rfl
  | succ i =>
    rw [List.getElem?_cons_succ, List.getElem?_map]
    have e := stops_at (l := l) (i := i) (by omega)
    unfold stops at e
    rw [List.getElem?_append_left (by rw [occs_len]; omega)] at e
    rw [e]
    rfl
theorem beg_le {l : List Nat} {i : Nat} (h : i < l.count 10 + 1) : begAt l i ≤ endAt l i := by
  cases i with
  | zero => exact Nat.zero_le _
  | succ i =>
    have s := stops_sorted l
    have e1 := stops_at (l := l) (i := i) (by omega)
    have e2 := stops_at (l := l) (i := i + 1) h
    obtain ⟨h1, g1⟩ := List.getElem?_eq_some_iff.mp e1
    obtain ⟨h2, g2⟩ := List.getElem?_eq_some_iff.mp e2
    have := (List.pairwise_iff_getElem.mp s) i (i + 1) h1 h2 (by omega)
    show endAt l i + 1 ≤ endAt l (i + 1)
    omega
theorem splitL_at {l : List Nat} {i : Nat} (h : i < l.count 10 + 1) : ∃ r : List Nat, (splitL l)[i]? = some r ∧ r.length = endAt l i - begAt l i := by
  refine ⟨(l.drop (begAt l i)).take (endAt l i - begAt l i), ?_, ?_⟩
  · unfold splitL
    have z : ((starts l).zip (stops l))[i]? = some (begAt l i, endAt l i) := by
      rw [List.getElem?_zip_eq_some]
      exact ⟨starts_at h, stops_at h⟩
    rw [List.getElem?_map, z]
    rfl
  · have := end_le h
    rw [List.length_take, List.length_drop]
    omega
theorem boot_min : bootBuiltins "min" = some (.builtin "min") := by decide +kernel
theorem boot_max : bootBuiltins "max" = some (.builtin "max") := by decide +kernel
theorem same_upd {H H' : Hp} {p : Addr} {o : HO} (h : Same H H') (n : H p = none) : Same H (upd H' p o) := fun b u q => by
  rw [upd_ne (ne_of_none q n)]
  exact h b u q
end L2

set_option Elab.async false
set_option linter.all false
set_option maxRecDepth 100000
set_option maxHeartbeats 4000000
namespace L2
open PySem PySem.Spec PyProof.Rows PySem.StrLaws
/-! ## split('\n', k): cut at the first k line feeds; find('\n', i) -/
theorem occ_goK (l : List Nat) (c k : Nat) : ∀ (m a : Nat) (st : Array Nat × Nat), st.snd ≤ a → st.fst.size ≤ k →
    (forIn (List.range' a m) st (occBody (S l) (S [c]) l.length k)).run.fst.toList = (st.fst.toList ++ (List.range' a m).filter (fun i => l[i]? == some c)).take k
  | 0, a, st, _, h2 => by
    have e : st.fst.toList.take k = st.fst.toList := List.take_of_length_le (by simpa using h2)
    simp [e]
  | m + 1, a, st, h1, h2 => by
    rw [List.range'_succ, List.forIn_cons]
    unfold occBody
    have key := subAt_one (S l) c a
    by_cases hc : l[a]? = some c
    · have z := key.mpr hc
      have ef : (a :: List.range' (a + 1) m).filter (fun i => l[i]? == some c) = a :: (List.range' (a + 1) m).filter (fun i => l[i]? == some c) := by
        rw [List.filter_cons, if_pos (by rw [hc]; exact beq_self_eq_true _)]
      rw [ef]
      by_cases hk : st.fst.size < k
      · rw [if_pos ⟨⟨⟨hk, h1⟩, z.1⟩, z.2⟩]
        have ih := occ_goK l c k m (a + 1) (st.fst.push a, a + 1) (Nat.le_refl _) (by simp; omega)
        refine Eq.trans ih ?_
        simp
      · rw [if_neg (fun q => hk q.1.1.1)]
        have ih := occ_goK l c k m (a + 1) (st.fst, st.snd) (by show st.snd ≤ a + 1; omega) h2
        refine Eq.trans ih ?_
        have e : k = st.fst.toList.length := by simp; omega
        rw [e, List.take_left', List.take_left'] <;> rfl
    · have z : ¬ (((st.fst.size < k ∧ st.snd ≤ a) ∧ a + (S [c]).length ≤ l.length) ∧ Builtin.Str.subAt (S l) (S [c]) a = true) := fun q => hc (key.mp ⟨q.1.2, q.2⟩)
      rw [if_neg z]
      have ih := occ_goK l c k m (a + 1) (st.fst, st.snd) (by show st.snd ≤ a + 1; omega) h2
      rw [List.filter_cons, if_neg (by intro q; exact hc (beq_iff_eq.mp q))]
      exact ih
theorem occ_K (l : List Nat) (k : Nat) : Builtin.Str.occurrences (S l) (S [10]) 0 l.length k = (occs l).take k := by
  rw [occ_eq, Nat.sub_zero, occ_goK l 10 k (l.length + 1) 0 (#[], 0) (Nat.le_refl _) (Nat.zero_le _), ← List.range_eq_range', List.range_succ, List.filter_append]
  unfold occs
  simp
def splitM (l : List Nat) (k : Nat) : List (List Nat) := (((0 :: ((occs l).take k).map (· + 1))).zip ((occs l).take k ++ [l.length])).map fun p => (l.drop p.1).take (p.2 - p.1)
theorem parts_M (l : List Nat) (k : Nat) : Builtin.Str.partsBetween (S l) ((occs l).take k) 1 = (splitM l k).map S := by
  unfold Builtin.Str.partsBetween splitM
  rw [List.map_map]
  apply List.map_congr_left
  rintro ⟨i, j⟩ _
  exact sub_S l i j
theorem takeK_len {l : List Nat} {k : Nat} (h : k ≤ l.count 10) : ((occs l).take k).length = k := by rw [List.length_take, occs_len]; omega
theorem splitM_len {l : List Nat} {k : Nat} (h : k ≤ l.count 10) : (splitM l k).length = k + 1 := by
  unfold splitM
  rw [List.length_map, List.length_zip, List.length_cons, List.length_map, List.length_append, takeK_len h, List.length_singleton, Nat.min_self]
theorem splitM_one {l : List Nat} {k : Nat} (h : (occs l).take k = []) : splitM l k = [l] := by
  unfold splitM
  rw [h]
  simp
theorem splitM_at {l : List Nat} {k : Nat} (h : k ≤ l.count 10) : (splitM l k)[k]? = some (l.drop (begAt l k)) := by
  unfold splitM
  have e2 : ((occs l).take k ++ [l.length])[k]? = some l.length := by
    rw [List.getElem?_append_right (by rw [takeK_len h]; exact Nat.le_refl _), takeK_len h, Nat.sub_self]
    rfl
  have e1 : (0 :: ((occs l).take k).map (· + 1))[k]? = some (begAt l k) := by
    have s := starts_at (l := l) (i := k) (by omega)
    unfold starts at s
    rw [← s]
    cases k with
    | zero => rfl
    | succ k => rw [List.getElem?_cons_succ, List.getElem?_cons_succ, List.getElem?_map, List.getElem?_map, List.getElem?_take_of_lt (by omega)]
  have z : ((0 :: ((occs l).take k).map (· + 1)).zip ((occs l).take k ++ [l.length]))[k]? = some (begAt l k, l.length) := by
    rw [List.getElem?_zip_eq_some]
    exact ⟨e1, e2⟩
  rw [List.getElem?_map, z]
  show some ((l.drop (begAt l k)).take (l.length - begAt l k)) = _
  rw [List.take_of_length_le (by rw [List.length_drop]; exact Nat.le_refl _)]
def ffN (l : List Nat) (i : Nat) : Int := Txt.find3 (S l) (S [10]) (i : Int)
theorem ffN_spec (l : List Nat) (i : Nat) : (ffN l i = -1 ∧ ∀ k : Nat, i ≤ k → ¬ l[k]? = some 10) ∨ ∃ j : Nat, ffN l i = (j : Int) ∧ i ≤ j ∧ l[j]? = some 10 ∧ ∀ k, i ≤ k → k < j → ¬ l[k]? = some 10 := by
  have ei : fromIndex (S l).length (i : Int) = i := by
    unfold fromIndex
    rw [if_neg (by omega)]
    omega
  unfold ffN Txt.find3
  rw [ei]
  rcases occ_head_from (S l) (S [10]) i 1 (Nat.le_refl _) with ⟨h1, h2⟩ | ⟨j, r, h1, h2, h3, h4⟩
  · refine .inl ⟨by rw [h1], fun k hk q => h2 k hk ((at_iff l 10 k).mpr q)⟩
  · refine .inr ⟨j, by rw [h1], h2, (at_iff l 10 j).mp h3, fun k hk hj q => h4 k hk hj ((at_iff l 10 k).mpr q)⟩
theorem occs_iff {l : List Nat} {i : Nat} : i ∈ occs l ↔ l[i]? = some 10 := by
  unfold occs
  rw [List.mem_filter, List.mem_range, beq_iff_eq]
  exact ⟨fun h => h.2, fun h => ⟨(List.getElem?_eq_some_iff.mp h).1, h⟩⟩
theorem endAt_last {l : List Nat} : endAt l (l.count 10) = l.length := by
  have s := stops_at (l := l) (i := l.count 10) (by omega)
  unfold stops at s
  rw [List.getElem?_append_right (by rw [occs_len]; exact Nat.le_refl _), occs_len, Nat.sub_self] at s
  exact (Option.some.inj s).symm
theorem occs_at {l : List Nat} {i : Nat} (h : i < l.count 10) : (occs l)[i]? = some (endAt l i) := by
  have s := stops_at (l := l) (i := i) (by omega)
  unfold stops at s
  rwa [List.getElem?_append_left (by rw [occs_len]; exact h)] at s
theorem occs_nth {l : List Nat} {j : Nat} (h : l[j]? = some 10) : ∃ i, i < l.count 10 ∧ endAt l i = j := by
  obtain ⟨i, hi, e⟩ := List.getElem_of_mem (occs_iff.mpr h)
  have hi' : i < l.count 10 := by rwa [occs_len] at hi
  refine ⟨i, hi', ?_⟩
  have := occs_at hi'
  rw [List.getElem?_eq_getElem hi, e] at this
  exact (Option.some.inj this).symm
theorem endAt_lt {l : List Nat} {i j : Nat} (h : i < j) (hj : j ≤ l.count 10) : endAt l i < endAt l j := by
  have s := stops_sorted l
  obtain ⟨h1, g1⟩ := List.getElem?_eq_some_iff.mp (stops_at (l := l) (i := i) (by omega))
  obtain ⟨h2, g2⟩ := List.getElem?_eq_some_iff.mp (stops_at (l := l) (i := j) (by omega))
  have := (List.pairwise_iff_getElem.mp s) i j h1 h2 h
  rwa [g1, g2] at this
theorem ffN_row {l : List Nat} {r : Nat} (h : r ≤ l.count 10) : (ffN l (begAt l r) = -1 ∧ endAt l r = l.length) ∨ ffN l (begAt l r) = (endAt l r : Nat) := by
  have hbe := beg_le (l := l) (i := r) (by omega)
  have no : ∀ k, begAt l r ≤ k → k < endAt l r → ¬ l[k]? = some 10 := by
    intro k h1 h2 q
    obtain ⟨i, hi, rfl⟩ := occs_nth q
    by_cases hir : i < r
    · obtain ⟨r', rfl⟩ : ∃ r', r = r' + 1 := ⟨r - 1, by omega⟩
      have e : begAt l (r' + 1) = endAt l r' + 1 := rfl
      rcases Nat.lt_or_ge i r' with z | z
      · have := endAt_lt (l := l) z (by omega); omega
      · have : i = r' := by omega
        subst this; omega
    · rcases Nat.lt_or_ge r i with z | z
      · have := endAt_lt (l := l) z (by omega); omega
      · have : i = r := by omega
        subst this; omega
  rcases ffN_spec l (begAt l r) with ⟨h1, h2⟩ | ⟨j, h1, h2, h3, h4⟩
  · refine .inl ⟨h1, ?_⟩
    rcases Nat.lt_or_ge r (l.count 10) with z | z
    · exact absurd (occs_iff.mp (List.mem_of_getElem? (occs_at z))) (h2 _ hbe)
    · have : r = l.count 10 := by omega
      rw [this]; exact endAt_last
  · refine .inr ?_
    rw [h1]
    have hj := (List.getElem?_eq_some_iff.mp h3).1
    have : ¬ j < endAt l r := fun z => no j h2 z h3
    rcases Nat.lt_or_ge r (l.count 10) with z | z
    · have : ¬ endAt l r < j := fun q => h4 _ hbe q (occs_iff.mp (List.mem_of_getElem? (occs_at z)))
      congr 1; omega
    · have e : r = l.count 10 := by omega
      have : endAt l r = l.length := by rw [e]; exact endAt_last
      omega
section
variable {X : Cx}
theorem mt_findN : MtR X "str.find" (fun x vs H Q => ∃ (l : List Nat) (i : Nat), x = .str (S l) ∧ vs = [.str (S [10]), .int (i : Int)] ∧ Q (.int (ffN l i)) H) := by
  intro pins s σ H x vs v us Q I rx rv h
  obtain ⟨l, i, rfl, rfl, q⟩ := h
  obtain ⟨t, rfl⟩ := rx
  obtain ⟨u1, u2, rfl, ⟨t1, rfl⟩, ⟨t2, rfl⟩⟩ := rv.two
  refine SC.find3 ⟨.int (ffN l i), H, I.tok _, ⟨_, rfl⟩, q⟩
theorem mt_splitM : MtR X "str.split" (fun x vs H Q => ∃ (l : List Nat) (k : Nat), x = .str (S l) ∧ vs = [.str (S [10]), .int (k : Int)] ∧ k ≤ l.count 10 ∧ l.length ≤ 100000 ∧ ∀ p, H p = none → Q (.ref p) (upd H p (.lst ((splitM l k).map fun r => .str (S r))))) := by
  intro pins s σ H x vs v us Q I rx rv h
  obtain ⟨l, k, rfl, rfl, hk, hl, q⟩ := h
  obtain ⟨t, rfl⟩ := rx
  obtain ⟨u1, u2, rfl, ⟨t1, rfl⟩, ⟨t2, rfl⟩⟩ := rv.two
  have hc := count_le l
  have hz : ((splitM l k).map fun r => V.str (S r)).length ≤ sizeLine := by
    rw [List.length_map, splitM_len hk]
    exact small (by omega)
  have hk2 : (decide ((k : Int) < -(2 ^ 63 : Int)) || decide ((k : Int) ≥ 2 ^ 63)) = false := by
    have e1 : decide ((k : Int) < -(2 ^ 63 : Int)) = false := decide_eq_false (by omega)
    have e2 : decide ((k : Int) ≥ 2 ^ 63) = false := decide_eq_false (by omega)
    rw [e1, e2, Bool.or_false]
  have elim : limitOf (S l) (k : Int) = k := by unfold limitOf; rw [if_neg (by omega)]; rfl
  have one : ∀ e : (occs l).take k = [], EP X pins σ Q (.ref s.heap.objs.size) { s with heap := s.heap.push { cls := .type "list", data := .seq [Value.str (S l) t].toArray } } := fun e => by
    have J := I.lnew (ys := (splitM l k).map fun r => V.str (S r)) (its := [Value.str (S l) t]) (t' := s.toks) (by rw [splitM_one e]; exact .cons ⟨_, rfl⟩ .nil) hz
    exact ⟨.ref s.heap.objs.size, _, J, rfl, q _ I.fresh⟩
  have hw : (((S [10]).length == 0) : Bool) = false := rfl
  cases h1 : (decide ((S l).length < (S [10]).length) || decide (Builtin.Str.strKind (S l) < Builtin.Str.strKind (S [10]))) with
  | true =>
    have e : occs l = [] := by
      have k1 : Builtin.Str.strKind (S [10]) = 1 := by decide +kernel
      have k2 : 1 ≤ Builtin.Str.strKind (S l) := by unfold Builtin.Str.strKind; split <;> (try split) <;> omega
      rw [Bool.or_eq_true, decide_eq_true_eq, decide_eq_true_eq] at h1
      have hlen : (S [10]).length = 1 := rfl
      have : l.length = 0 := by
        rcases h1 with z | z
        · have z' : l.length < 1 := z
          omega
        · omega
      have : l = [] := List.length_eq_zero_iff.mp this
      subst this
      rfl
    exact call_meets F.slot_str_split (typeIs_str _ _ _) F.entry_str_split (F.args_str_split_3 _ _ _) (meets_str_split_max_cannot_occur (S l) (S [10]) k t t1 t2 hk2 h1) (one (by rw [e]; exact List.take_nil))
  | false =>
    have eo : Builtin.Str.occurrences (S l) (S [10]) 0 (S l).length (limitOf (S l) (k : Int)) = (occs l).take k := by rw [elim]; exact occ_K l k
    cases hf : ((occs l).take k).isEmpty with
    | true =>
      have e : (occs l).take k = [] := List.isEmpty_iff.mp hf
      exact call_meets F.slot_str_split (typeIs_str _ _ _) F.entry_str_split (F.args_str_split_3 _ _ _) (meets_str_split_max_not_found (S l) (S [10]) k t t1 t2 hk2 h1 hw (by rw [eo]; exact hf)) (one e)
    | false =>
      have ep : Builtin.Str.partsBetween (S l) (Builtin.Str.occurrences (S l) (S [10]) 0 (S l).length (limitOf (S l) (k : Int))) (S [10]).length = (splitM l k).map S := by rw [eo]; exact parts_M l k
      refine call_meets F.slot_str_split (typeIs_str _ _ _) F.entry_str_split (F.args_str_split_3 _ _ _) (meets_str_split_sep_max (S l) (S [10]) k t t1 t2 hk2 h1 hw (by rw [eo]; exact hf) (small (by show l.length ≤ 1000000; omega)) (by rw [ep, List.length_map]; rw [List.length_map] at hz; exact hz)) ?_
      have J := I.lnew (ys := (splitM l k).map fun r => V.str (S r)) (its := strsFrom s.toks ((splitM l k).map S)) (t' := s.toks + ((splitM l k).map S).length) (vals_from _ _) hz
      show EP X pins σ Q (.ref s.heap.objs.size) _
      rw [ep]
      exact ⟨.ref s.heap.objs.size, _, J, rfl, q _ I.fresh⟩
end
end L2

set_option Elab.async false
set_option linter.all false
set_option maxRecDepth 100000
set_option maxHeartbeats 4000000
namespace L2
open PySem PySem.Spec PyProof.Rows
/-! ### comprehensions: the block runs in a context of its own -/
abbrev blk (X : Cx) (scope : Scope) (cl : List (Str × Addr)) (NB : List Str) (C : Addr) (fp : List Addr) (s3 : Shared) (H3 : Hp) : Cx :=
  { X with env := compEnvC scope cl C X.env, N := NB, s₀ := s3, H₀ := H3, outer := X.stack, stack := X.stack, ex := fp, fn := fun _ => false, xe := fun _ _ => False }
def around (ix : List (Option Nat)) (σ : St) : St := ix.map fun o => o.bind fun j => (σ[j]?).bind id
structure ClOk (X : Cx) (scope : Scope) (cl : List (Str × Addr)) (NB : List Str) (ix : List (Option Nat)) : Prop where
  clos : closureFor scope X.env = pure cl
  cell : ∀ y ∈ scope.names, y.2 ≠ .cell
  kind : scope.kind = .function
  names : ∀ y ∈ scope.names, y.2 = .local → scope.names.lookup y.1 = some .local
  sub : ∀ x c, cl.lookup x = some c → X.env.cells.lookup x = some c
  has : ∀ C x, ((compEnvC scope cl C X.env).kindOf x = some .cell ∨ (compEnvC scope cl C X.env).kindOf x = some .free) → ∃ c, cl.lookup x = some c
  len : ix.length = NB.length
  at_ : ∀ (i : Nat) x j, NB[i]? = some x → ix[i]? = some (some j) → X.N[j]? = some x ∧ (X.env.kindOf x = some .cell ∨ X.env.kindOf x = some .free) ∧ ∀ C, (compEnvC scope cl C X.env).kindOf x = some .cell ∨ (compEnvC scope cl C X.env).kindOf x = some .free
section
variable {X : Cx} {scope : Scope} {cl : List (Str × Addr)} {NB : List Str} {ix : List (Option Nat)} {fp : List Addr} {pins : List (Addr × Obj)} {σ : St} {H : Hp} {s : Shared}
theorem blk_ok (hb : ClOk X scope cl NB ix) (I : Inv X pins σ H s) (hf : ∀ b ∈ fp, FpOk X pins H b) (hl : ∀ b ∈ fp, b < s.heap.objs.size) : (blk X scope cl NB s.heap.objs.size fp s H).Ok where
  mod := I.mod
  kind := hb.kind
  glob := I.ok.glob
  blt := I.ok.blt
  above := Nat.le_refl _
  inj := fun x y c h1 h2 => I.ok.inj x y c (hb.sub x c h1) (hb.sub y c h2)
  has := fun x h => hb.has _ x h
  cab := fun _ _ z => nomatch z
  hd := I.ok.hd
  frames := I.ok.frames
  stk := .inl rfl
  exf := fun b z => ⟨Nat.ne_of_lt (hl b z), fun x c e => (hf b z).2.2.2.2.1 x c (hb.sub x c e)⟩
  bs := fun b o e => I.bs b o e
  bsz := Nat.le_trans I.ok.bsz I.sz
  noex := fun b o e z => by
    rcases (hf b z).2.2.2.1 with q | q
    · exact I.ok.noex b o e q
    · exact absurd (Nat.lt_of_lt_of_le (Heap.lt_size e) (Nat.le_trans I.ok.bsz q)) (Nat.lt_irrefl _)
  exfs := fun b z q => by
    rcases List.mem_cons.mp (I.stkSub b q) with e | e
    · exact (hf b z).2.1 e
    · exact (hf b z).2.2.1 e
  funs := I.stack
  frf := I.stkFree
theorem blk_inv (hb : ClOk X scope cl NB ix) (I : Inv X pins σ H s) (hf : ∀ b ∈ fp, FpOk X pins H b) (hl : ∀ b ∈ fp, b < s.heap.objs.size) {h' : Heap} {t' : Nat} {m : Str → Option Value} (hn : h'.Ns s.heap.objs.size m)
    (k : ∀ b o, s.heap.get? b = some o → h'.get? b = some o) : Inv (blk X scope cl NB s.heap.objs.size fp s H) pins (around ix σ) H { s with heap := h', toks := t' } where
  ok := blk_ok hb I hf hl
  os := rfl
  bare := I.bare
  base := Un.kept k
  loc := by
    refine ⟨m, hn, fun i x v e1 e2 e3 => ?_⟩
    have e2' : ∃ j, ix[i]? = some (some j) ∧ σ[j]? = some (some v) := by
      unfold around at e2
      rw [List.getElem?_map] at e2
      cases q : ix[i]? with
      | none => rw [q] at e2; cases e2
      | some o =>
        rw [q] at e2
        cases o with
        | none => cases e2
        | some j =>
          refine ⟨j, rfl, ?_⟩
          simp only [Option.map_some, Option.bind_some, Option.some.injEq] at e2
          cases r : σ[j]? with
          | none => rw [r] at e2; cases e2
          | some o => rw [r] at e2; simp only [Option.bind_some, id] at e2; rw [e2]
    obtain ⟨j, q1, q2⟩ := e2'
    obtain ⟨n1, n2, n3⟩ := hb.at_ i x j e1 q1
    obtain ⟨m0, _, hl0⟩ := I.loc
    have hv : Vis X.env.scope x := n2.elim (fun z => .inr (.inl z)) fun z => .inr (.inr z)
    obtain ⟨u, r, lk⟩ := hl0 j x v n1 q2 hv
    refine ⟨u, r, .inr ⟨n3 _, ?_⟩⟩
    rcases lk with ⟨z, _⟩ | ⟨_, c, ec, o, ho, hd⟩
    · rcases n2 with n2 | n2 <;> (rw [n2] at z; cases z)
    · obtain ⟨c', hc'⟩ := hb.has s.heap.objs.size x (n3 _)
      have := hb.sub x c' hc'
      rw [ec] at this; cases this
      exact ⟨c, hc', o, k c o ho, hd⟩
  cell := fun x c e => by
    obtain ⟨v, o, ho, hd⟩ := I.cell x c (hb.sub x c e)
    exact ⟨v, o, k c o ho, hd⟩
  free := I.hok.fresh (Nat.le_refl _)
  freeC := fun x c e => I.freeC x c (hb.sub x c e)
  pin := fun p hp => by
    obtain ⟨e, n, ne, nf, d⟩ := I.pin p hp
    refine ⟨k _ _ e, n, Nat.ne_of_lt (Heap.lt_size e), fun z => ?_, d⟩
    rcases List.mem_cons.mp (I.stkSub p.1 z) with q | q
    · exact ne q
    · exact nf q
  hok := I.hok.kept k
  len := by show (around ix σ).length = NB.length; unfold around; rw [List.length_map]; exact hb.len
theorem blk_back {C : Addr} {s' : Shared} {σ' : St} {H' : Hp} {h' : Heap} (I : Inv X pins σ H s) (hC : s.heap.objs.size ≤ C) (hf : ∀ b ∈ fp, FpOk X pins H b) (J : Inv (blk X scope cl NB C fp s H) pins σ' H' s') (hs : Heap.SameBut C s'.heap h') : Inv X pins σ H' { s' with heap := h' } := by
  have nC : ∀ b o, s.heap.get? b = some o → b ≠ C := fun b o e => Nat.ne_of_lt (Nat.lt_of_lt_of_le (Heap.lt_size e) hC)
  refine I.call' (ch := fp) J.os ?_ ?_ J.bare fun b hb => ?_
  · have B := J.base
    exact ⟨fun b o e n h1 h2 => (hs.2 b (nC b o e)).trans (B.keep b o e n h1 h2), fun b o e n h1 h2 => let ⟨sl, q⟩ := B.slot b o e n h1 h2; ⟨sl, (hs.2 b (nC b o e)).trans q⟩, B.free, fun b o e h1 => let ⟨o', q⟩ := B.there b o e h1; ⟨o', (hs.2 b (nC b o e)).trans q⟩, B.tups, B.frzs, B.tbls⟩
  · intro b ob e
    have fr : H' C = none := J.free
    refine (J.hok b ob e).stay (fun c w' hc q => (hs.2 c ?_).trans q) (fun _ q => q) fun _ _ q => q
    rintro rfl
    rcases hc with rfl | hc
    · rw [fr] at e; cases e
    · rw [fr] at hc; cases hc
  · obtain ⟨_, f1, _, f3, f4, f5⟩ := hf b hb
    exact ⟨f3, f1, f4, f5⟩
def PIf (X : Cx) (ifs : List Expr) (t : TT) : Prop :=
  ∀ (pins : List (Addr × Obj)) (s : Shared) (σ : St) (H : Hp) (Q : Bool → Hp → Prop), Inv X pins σ H s → t σ H Q →
    wpAny (model X.prog X.w) X.A (forIn ifs true fun c r => if r = true then do let ok ← isTrue c X.env (eval c X.env); pure (ForInStep.yield ok) else pure (ForInStep.yield r)) (TP X pins σ Q) X.xe s
def tYes : TT := fun _ H Q => Q true H
theorem pif_nil : PIf X [] tYes := fun _ _ _ H _ I h => wpAny_tests_nil ⟨H, I, h⟩
theorem pif_one {c : Expr} {t : TT} (h : PT X c t) : PIf X [c] t := fun pins s σ H Q I hq => wpAny_tests_one (h pins s σ H Q I hq)
def CompW (J : It) (D : Addr) (σ0 : St) (H0 : Hp) (g : TG) (tc : TT) (te : TE) (Q : VK) : Prop := ∃ W : Nat → Nat → St → Hp → Prop, (∃ m, W 0 m σ0 H0) ∧ ∀ i m σ H, W i m σ H →
  (J.stop i H ∧ Q (.ref D) H) ∨ (J.go i H ∧ ∃ N : St → Hp → Prop, (∀ σ' H', N σ' H' → ∃ m', m' < m ∧ W (i + 1) m' σ' H') ∧ ∀ x H', J.yld i H x H' → g x σ H' fun σ2 H2 => tc σ2 H2 fun b H3 =>
    if b = true then te σ2 H3 fun y H4 => ∃ ys, H4 D = some (.lst ys) ∧ ys.length < sizeLine ∧ N σ2 (upd H4 D (.lst (ys ++ [y]))) else N σ2 H3)
def tComp (ix : List (Option Nat)) (wi : TI) (g : TG) (tc : TT) (te : TE) : TE := fun σ H Q => wi σ H fun J H1 => ∀ D, H1 D = none → CompW J D (around ix σ) (upd H1 D (.lst [])) g tc te Q
theorem pe_comp {elt iter : Expr} {x : Str} {px : Pos} {ifs : List Expr} {pos : Pos} {wi : TI} {g : TG} {tc : TT} {te : TE} (NB : List Str) (ix : List (Option Nat)) (cl : List (Str × Addr)) (hc : X.calm = true) (hb : ClOk X scope cl NB ix) (hi : PI X (.Name x px) iter wi)
    (hg : ∀ C fp s3 H3, PG (blk X scope cl NB C fp s3 H3) (.Name x px) g) (ht : ∀ C fp s3 H3, PIf (blk X scope cl NB C fp s3 H3) ifs tc) (he : ∀ C fp s3 H3, PE (blk X scope cl NB C fp s3 H3) elt te)
    (hs : ∀ x, foldedSetIterable iter X.env x = pure x := by intro _; rfl) : PE X (.ListComp elt [⟨.Name x px, iter, ifs, 0⟩] scope pos) (tComp ix wi g tc te) := by
  intro pins s σ H Q I h
  rw [eval_ListComp]
  refine wpAny_comprehension_free (use := none) rfl hs hb.clos hb.kind hb.names (thn (hi pins s σ H _ I h) fun v s1 h1 => thn h1 fun itv s2 h2 => ?_)
  obtain ⟨it, fp, tn, J, H2, e, I2, T, st2, f2, turn0⟩ := h2
  subst e
  have hD : H2 s2.heap.objs.size = none := I2.hok.fresh (Nat.le_refl _)
  obtain ⟨W, ⟨m0, w0⟩, turn⟩ := turn0 _ hD
  have flt : ∀ b ∈ fp, b < s2.heap.objs.size := fun b z => let ⟨o, e, _⟩ := T.obj _ _ st2 b z; Heap.lt_size e
  refine wpAny_newObj_type (wpAny_newFunctionEnv hb.cell (by intro y hy; simp at hy) (fun h₁ hns₁ hsb₁ => ?_) hb.kind)
  dsimp only at hns₁ hsb₁ ⊢
  have I3 := I2.lnew (ys := []) (its := []) (t' := s2.toks) .nil (Nat.zero_le _)
  have hsz3 : (s2.heap.push { cls := .type "list", data := .seq ([] : List Value).toArray }).objs.size = s2.heap.objs.size + 1 := Heap.size_push ..
  have fp3 : ∀ b ∈ fp, FpOk X pins (upd H2 s2.heap.objs.size (.lst [])) b := fun b z => ⟨by rw [upd_ne (Nat.ne_of_lt (flt b z))]; exact (f2 b z).1, (f2 b z).2⟩
  have flt3 : ∀ b ∈ fp, b < (s2.heap.push { cls := .type "list", data := .seq ([] : List Value).toArray }).objs.size := fun b z => by rw [hsz3]; exact Nat.lt_succ_of_lt (flt b z)
  have k3 : ∀ b o, (s2.heap.push { cls := .type "list", data := .seq ([] : List Value).toArray }).get? b = some o → h₁.get? b = some o := fun b o e => hsb₁.extBut b o (Nat.ne_of_lt (Heap.lt_size e)) (Heap.get?_push_of_some _ e)
  have J0 := blk_inv hb I3 fp3 flt3 (h' := h₁) (t' := s2.toks + ([] : List (Str × Value)).length) hns₁ k3
  have st3 : tn 0 h₁ := T.keep _ _ _ st2 fun b z o e => k3 b o (Heap.get?_push_of_some _ e)
  have loop : ∀ s4 : Shared, s4 = { s2 with heap := h₁, toks := s2.toks + ([] : List (Str × Value)).length } →
      codeAny (model X.prog X.w) X.A (.compLoop (.ListComp elt [⟨.Name x px, iter, ifs, 0⟩] scope pos) 0 (.ref it) (.ref s2.heap.objs.size) (compEnvC scope cl (s2.heap.push { cls := .type "list", data := .seq ([] : List Value).toArray }).objs.size X.env))
        (compPost (model X.prog X.w) X.A X.xe none (EP X pins σ Q) (.ref s2.heap.objs.size) (s2.heap.push { cls := .type "list", data := .seq ([] : List Value).toArray }).objs.size) s4 := by
    rintro s4 rfl
    have J0' : Inv (blk X scope cl NB (s2.heap.push { cls := .type "list", data := .seq ([] : List Value).toArray }).objs.size fp _ _) pins _ _ _ := J0
    generalize hC : (s2.heap.push { cls := .type "list", data := .seq ([] : List Value).toArray }).objs.size = C at *
    refine codeAny_compLoop_tests (fun n s' => ∃ i σ' H', Inv (blk X scope cl NB C fp { s2 with heap := s2.heap.push { cls := .type "list", data := .seq ([] : List Value).toArray } } (upd H2 s2.heap.objs.size (.lst []))) pins σ' H' s' ∧ tn i s'.heap ∧ (∀ b ∈ fp, H' b = none) ∧ W i n σ' H') ?_ m0 ⟨0, _, _, J0', st3, fun b z => (fp3 b z).1, w0⟩
    rintro n s5 ⟨i, σ5, H5, I5, st5, fr5, w5⟩
    have stat : ∀ {H' : Hp}, (∀ b ∈ fp, H' b = none) → ∀ b ∈ fp, FpOk (blk X scope cl NB C fp { s2 with heap := s2.heap.push { cls := .type "list", data := .seq ([] : List Value).toArray } } (upd H2 s2.heap.objs.size (.lst []))) pins H' b := fun hn b z => by
      obtain ⟨_, f1, f2', f3, f4, f5⟩ := fp3 b z
      exact ⟨hn b z, Nat.ne_of_lt (flt3 b z), fun q => I5.ok.exfs b z q, .inl z, fun y c e => f4 y c (hb.sub y c e), f5⟩
    rcases turn i n σ5 H5 w5 with ⟨stop, qn⟩ | ⟨go, N, hN, step⟩
    · refine wpAny_mono (T.done (blk X scope cl NB C fp { s2 with heap := s2.heap.push { cls := .type "list", data := .seq ([] : List Value).toArray } } (upd H2 s2.heap.objs.size (.lst []))) rfl rfl rfl hc i pins s5 σ5 H5 (fun _ _ => False) I5 (stat fr5) st5 stop) (fun r s6 ⟨hr, I6⟩ => ?_) fun _ _ z => z.elim
      subst hr
      obtain ⟨m6, hn6, _⟩ := id I6.loc
      refine ⟨m6, hn6, fun h' hs' => ?_⟩
      exact ⟨.ref _, H5, blk_back I3 (Nat.le_of_eq hC) fp3 I6 hs', rfl, qn⟩
    · refine wpAny_mono (T.item (blk X scope cl NB C fp { s2 with heap := s2.heap.push { cls := .type "list", data := .seq ([] : List Value).toArray } } (upd H2 s2.heap.objs.size (.lst []))) rfl rfl rfl hc i pins s5 σ5 H5 (fun _ _ => False) I5 (stat fr5) st5 go) (fun r s6 ⟨u, hr, h6⟩ => ?_) fun _ _ z => z.elim
      subst hr
      show wpAny _ _ (pure () >>= fun _ => assign (.Name x px) _ u) _ _ s6
      refine wpAny_bind (wpAny_mono h6 (fun _ s7 ⟨y, H7, I7, r7, y7, st7, fr7⟩ => ?_) fun _ _ z => z.elim)
      have I7' := I7.pinned (stat fr7) (T.obj _ _ st7)
      refine wpAny_mono (hg _ _ _ _ _ s7 σ5 H7 y u _ I7' r7 (step y H7 y7)) (fun _ s8 ⟨σ8, H8, I8, q8⟩ => ?_) fun _ _ z => z.elim
      refine wpAny_mono (ht _ _ _ _ _ s8 σ8 H8 _ I8 q8) (fun ok s9 ⟨H9, I9, q9⟩ => ?_) fun _ _ z => z.elim
      have again : ∀ {s' : Shared} {H' : Hp}, Inv (blk X scope cl NB C fp { s2 with heap := s2.heap.push { cls := .type "list", data := .seq ([] : List Value).toArray } } (upd H2 s2.heap.objs.size (.lst []))) (pins ++ pinsAt fp s7.heap) σ8 H' s' → N σ8 H' → ∃ m, m < n ∧ ∃ i σ' H', Inv (blk X scope cl NB C fp { s2 with heap := s2.heap.push { cls := .type "list", data := .seq ([] : List Value).toArray } } (upd H2 s2.heap.objs.size (.lst []))) pins σ' H' s' ∧ tn i s'.heap ∧ (∀ b ∈ fp, H' b = none) ∧ W i m σ' H' := fun {s' H'} I' n' => by
        obtain ⟨m', hm, w'⟩ := hN _ _ n'
        refine ⟨m', hm, i + 1, _, H', I'.unpinned, T.keep _ _ _ st7 fun b z o e => (I'.pin (b, o) (List.mem_append_right _ (List.mem_append_right _ (mem_pinsAt z e)))).1, fun b z => ?_, w'⟩
        obtain ⟨o, e, d⟩ := T.obj _ _ st7 b z
        exact (I'.pin (b, o) (List.mem_append_right _ (List.mem_append_right _ (mem_pinsAt z e)))).2.1
      cases ok with
      | false => exact again I9 q9
      | true =>
        rw [if_pos rfl] at q9 ⊢
        refine wpAny_mono (he _ _ _ _ _ s9 σ8 H9 _ I9 q9) (fun w s10 ⟨z, H10, I10, r10, ys, hD10, hz10, n10⟩ => ?_) fun _ _ z => z.elim
        refine wpAny_mono (mt_append (X := (blk X scope cl NB C fp { s2 with heap := s2.heap.push { cls := .type "list", data := .seq ([] : List Value).toArray } } (upd H2 s2.heap.objs.size (.lst [])))) _ s10 σ8 H10 (.ref s2.heap.objs.size) [z] _ [w] (fun _ H' => H' = upd H10 s2.heap.objs.size (.lst (ys ++ [z]))) I10 rfl (.cons r10 .nil) ⟨_, ys, z, rfl, rfl, hD10, hz10, rfl⟩) (fun _ s11 ⟨_, H11, I11, _, e11⟩ => ?_) fun _ _ z => z.elim
        subst e11
        exact again I11 n10
  exact codeAny_compStart_list (loop _ rfl) (T.self _ 0 _ _ _ st3 (loop _ rfl))

/-! ### reversed(list) -/
theorem comp_list {K : PySem.W.Frag} {a D : Addr} {xs : List V} {ix : List (Option Nat)} {g : TG} {tc : TT} {te : TE} {σ : St} {H : Hp} {Q : VK} (Pv : Nat → St → Hp → Prop) (h0 : Pv 0 (around ix σ) (upd H D (.lst []))) (hl : ∀ i σ H, i ≤ xs.length → Pv i σ H → SqL K H a xs)
    (hs : ∀ i x σ H, xs[i]? = some x → Pv i σ H → g x σ H fun σ2 H2 => tc σ2 H2 fun b H3 => if b = true then te σ2 H3 fun y H4 => ∃ ys, H4 D = some (.lst ys) ∧ ys.length < sizeLine ∧ Pv (i + 1) σ2 (upd H4 D (.lst (ys ++ [y]))) else Pv (i + 1) σ2 H3)
    (hd : ∀ σ H, Pv xs.length σ H → Q (.ref D) H) :
    CompW (Itl K a) D (around ix σ) (upd H D (.lst [])) g tc te Q := by
  refine ⟨fun i m σ H => m = xs.length - i ∧ i ≤ xs.length ∧ Pv i σ H, ⟨xs.length, by simp, Nat.zero_le _, h0⟩, ?_⟩
  rintro i m σ H ⟨rfl, hi, p⟩
  have q := hl i σ H hi p
  by_cases hlt : i < xs.length
  · refine .inr ⟨⟨xs, xs[i], q, by simp [hlt]⟩, Pv (i + 1), fun σ' H' p' => ⟨xs.length - (i + 1), by omega, rfl, hlt, p'⟩, fun x H' y => ?_⟩
    obtain ⟨e, y⟩ := y
    subst e
    exact hs i x σ _ (y xs q) p
  · have e : i = xs.length := by omega
    subst e
    exact .inl ⟨⟨xs, q, Nat.le_refl _⟩, hd σ H p⟩
theorem yes {i : Nat} {v : V} {σ : St} {H : Hp} {F G : St → Hp → Prop} (h : F (σ.set i (some v)) H) : gName i v σ H (fun σ2 H2 => tYes σ2 H2 fun b H3 => if b = true then F σ2 H3 else G σ2 H3) := by
  show (if true = true then F (σ.set i (some v)) H else G (σ.set i (some v)) H)
  rw [if_pos rfl]
  exact h
theorem nd1 (x : Str) : [x].Nodup := by simp
theorem lookup_mem {α : Type} : ∀ {l : List (Str × α)} {x : Str} {k : α}, l.lookup x = some k → ∃ y, (y, k) ∈ l
  | (y, k') :: r, x, k, h => by
    rw [List.lookup_cons] at h
    split at h
    · cases h; exact ⟨y, List.mem_cons_self⟩
    · obtain ⟨z, hz⟩ := lookup_mem h
      exact ⟨z, List.mem_cons_of_mem _ hz⟩
theorem cl_none (NB : List Str) (hf : (scope.names.all fun y => y.2 != NameKind.free && y.2 != NameKind.cell) = true) (hk : scope.kind = .function) (hn : (scope.names.all fun y => y.2 != NameKind.local || scope.names.lookup y.1 == some NameKind.local) = true) : ClOk X scope [] NB (NB.map fun _ => none) := by
  have nf : ∀ y ∈ scope.names, y.2 ≠ .free ∧ y.2 ≠ .cell := fun y hy => by
    have := List.all_eq_true.mp hf y hy
    simpa using this
  have er : (scope.names.map fun (n, k) => if (k == NameKind.free && X.env.scope.kind == .function && X.env.kindOf n == some .cell) then (n, NameKind.cell) else (n, k)) = scope.names := by
    refine (List.map_congr_left fun y hy => ?_).trans (List.map_id _)
    obtain ⟨n, k⟩ := y
    have h1 : (k == NameKind.free) = false := by simpa using (nf _ hy).1
    show (if (k == NameKind.free && X.env.scope.kind == .function && X.env.kindOf n == some .cell) = true then (n, NameKind.cell) else (n, k)) = (n, k)
    rw [h1, Bool.false_and, Bool.false_and]
    rfl
  refine ⟨closureFor_none fun y hy => (nf y hy).1, fun y hy => (nf y hy).2, hk, fun y hy hl => ?_, fun x c h => (by cases h), fun C x h => ?_, by simp, fun i x j h1 h2 => ?_⟩
  · have := List.all_eq_true.mp hn y hy
    rw [hl] at this
    simpa using this
  · exfalso
    have hx : (compEnvC scope [] C X.env).kindOf x = scope.names.lookup x := by
      show List.lookup x (scope.names.map fun (n, k) => if (k == NameKind.free && X.env.scope.kind == .function && X.env.kindOf n == some .cell) then (n, NameKind.cell) else (n, k)) = _
      rw [er]
    rw [hx] at h
    rcases h with h | h
    · obtain ⟨y, hy⟩ := lookup_mem h
      exact (nf _ hy).2 rfl
    · obtain ⟨y, hy⟩ := lookup_mem h
      exact (nf _ hy).1 rfl
  · rw [List.getElem?_map] at h2
    cases q : NB[i]? with
    | none => rw [q] at h2; cases h2
    | some o => rw [q] at h2; cases h2
end
end L2

set_option Elab.async false
set_option linter.all false
set_option maxRecDepth 100000
set_option maxHeartbeats 4000000
namespace L2
open PySem PySem.Spec PyProof.Rows PySem.StrLaws
/-! ## texts: ''.join, in, <= -/
theorem strs_are : ∀ {ls : List (List Nat)} {us : List Value}, Vals (ls.map fun r => V.str (S r)) us → StrsAre us (ls.map S)
  | [], _, .nil => .nil
  | l :: ls, _, .cons r t => by
    obtain ⟨tk, rfl⟩ := r
    exact .cons _ tk (strs_are t)
theorem glue_S : ∀ (ls : List (List Nat)), Txt.join (S []) (ls.map S) = S ls.flatten := by
  intro ls
  refine (PySem.StrLaws.glued_eq_join (S []) (ls.map S)).trans ?_
  induction ls with
  | nil => rfl
  | cons l ls ih =>
    cases ls with
    | nil =>
      show S l = S [l].flatten
      simp
    | cons m ls =>
      show S l ++ S [] ++ Str.join (S []) ((m :: ls).map S) = _
      rw [ih, S_app, S_app]
      simp
theorem flat_len {ls : List (List Nat)} : ((ls.map S).map (·.length)).sum = ls.flatten.length := by
  rw [List.length_flatten, List.map_map]
  rfl
section
variable {X : Cx}
theorem mt_join : MtR X "str.join" (fun x vs H Q => ∃ (p : Addr) (ls : List (List Nat)), x = .str (S []) ∧ vs = [.ref p] ∧ SqL X.K H p (ls.map fun r => V.str (S r)) ∧ ls.flatten.length ≤ 1000000 ∧ Q (.str (S ls.flatten)) H) := by
  intro pins s σ H x vs v us Q I rx rv h
  obtain ⟨p, ls, rfl, rfl, hq, hl, q⟩ := h
  obtain ⟨t, rfl⟩ := rx
  obtain ⟨u, rfl, ru⟩ := rv.one
  cases ru
  obtain ⟨its, r, pl, hz⟩ := I.list hq
  refine join_list (items := its.toArray) (ys := ls.map S) pl.isList (by simpa using strs_are r) ?_ fun t' k => ?_
  · rw [flat_len]
    show _ + _ * 0 ≤ _
    omega
  · exact ⟨.str (S ls.flatten), H, I.tok _, ⟨t', by rw [glue_S]⟩, q⟩
end
end L2

set_option Elab.async false
set_option linter.all false
set_option maxRecDepth 100000
set_option maxHeartbeats 4000000
namespace L2
open PySem PySem.Spec PyProof.Rows
/-! ### name = comprehension -/
section
variable {X : Cx} {scope : Scope} {cl : List (Str × Addr)} {NB : List Str} {ix : List (Option Nat)} {fp : List Addr} {pins : List (Addr × Obj)} {σ : St} {H : Hp} {s : Shared}
theorem seq_to {t u : TS} {D : Ends} {σ : St} {H : Hp} (Out : St → Hp → Prop) (hs : ∀ nx : St → Hp → Prop, (∀ σ H, Out σ H → nx σ H) → t { D with nx := nx } σ H) (fin : ∀ σ H, Out σ H → u D σ H) : tSeq t u D σ H := hs _ fin
end
end L2

set_option Elab.async false
set_option linter.all false
set_option maxRecDepth 100000
set_option maxHeartbeats 4000000
namespace L2
open PySem PySem.Spec PyProof.Rows PySem.StrLaws
section
variable {X : Cx}
end
def optV : Option Nat → V
  | none => .non
  | some n => .int (n : Int)
end L2

set_option Elab.async false
set_option linter.all false
set_option maxRecDepth 100000
set_option maxHeartbeats 4000000
namespace L2
open PySem PySem.Spec PyProof.Rows
/-! ## range with a step; list(range(..)) -/
section
variable {X : Cx} {tg : Expr}
/-! a comprehension over a range -/
/-! the range as an object -/
end
end L2

set_option Elab.async false
set_option linter.all false
set_option maxRecDepth 100000
set_option maxHeartbeats 4000000
namespace L2
/-! ## brackets of one kind: the walk and the heap -/
/-! ## the three kinds -/
end L2

set_option Elab.async false
set_option linter.all false
set_option maxRecDepth 100000
set_option maxHeartbeats 4000000
namespace L2
open PySem PySem.Spec PyProof.Rows
/-! ### lists of pairs as tables -/
section
variable {κ : Type} [DecidableEq κ]
end


/-! ### a tracked dict, its keys ints and texts or tuples of these -/
section
variable {P : Program} {w : World} {H : Hp} {h : Heap} {a : Addr}
end

section
variable {X : Cx} {pins : List (Addr × Obj)} {σ : St} {H : Hp} {s : Shared} {a : Addr} {y v : V} {u r : Value} {o : Option V} {A : Around} {E : Value → Shared → Prop}

end

section
variable {X : Cx} {pins : List (Addr × Obj)} {σ : St} {H : Hp} {s : Shared} {a : Addr} {kvs : List (Key × V)} {k : Key} {u : Value} {A : Around} {E : Value → Shared → Prop}
end


/-! ### readings and rules -/
def NoSl (i : Expr) : Prop := ∀ ov iv, subscripted i false ov iv = operate [ov, iv] (getItem ov iv)
theorem subD_of {prog : Program} {w : World} {A : Around} {E : Value → Shared → Prop} {s : Shared} {env : Env} {value slice : Expr} {pos : Pos} {T id : String} {Q : Value → Shared → Prop}
    (hl : typeLookup (.type T) "__getitem__" = pure (some (.builtin id))) (hs : NoSl slice)
    (h : wpAny (model prog w) A (eval value env) (fun o s₁ => wpAny (model prog w) A (eval slice env) (fun i s₂ => s₂.TypeIs o T ∧ wpAny (model prog w) A (getItem o i) Q E s₂) E s₁) E s) :
    wpAny (model prog w) A (eval (.Subscript value slice pos) env) Q E s := by
  refine Subscript_ (wpAny_mono h (fun o s₁ h₁ => wpAny_mono h₁ (fun i s₂ h₂ => ?_) fun _ _ x => x) fun _ _ x => x)
  obtain ⟨hT, h₂⟩ := h₂
  unfold subscriptTail
  refine wpAny_bind ?_
  rw [getitemInPython_of_ne hT.not_modules]
  refine wpAny_bind (wpAny_specialOf hT hl ?_)
  have fin : wpAny (model prog w) A (subscripted slice false o i) (fun r s₃ => wpAny (model prog w) A (letTemporaryGo value o r >>= fun _ => pure r) Q E s₃) E s₂ := by
    rw [hs o i]
    exact wpAny_operating (wpAny_mono h₂ (fun r s₃ h₃ => wpAny_bind (wpAny_letTemporaryGo (wpAny_pure h₃))) fun _ _ x => x)
  first
    | exact wpAny_pure (wpAny_bind fin)
    | exact wpAny_bind (wpAny_pure (wpAny_bind fin))
    | exact wpAny_bind fin

section
variable {X : Cx} {o i e value : Expr} {pos pos' tpos : Pos} {td ty tv : TE}
end


/-! ### displays -/
section
variable {X : Cx} {pos : Pos}
end

/-! ### methods -/
section
variable {X : Cx} {pins : List (Addr × Obj)} {σ : St} {H : Hp} {s : Shared} {a : Addr} {y d : V} {u r : Value} {o : Option V} {A : Around} {E : Value → Shared → Prop}
end

section
variable {X : Cx} {o e f : Expr} {apos cpos : Pos} {td ty tx : TE}
end

/-! ### dict(d): a copy -/
section
variable {X : Cx} {pins : List (Addr × Obj)} {σ : St} {H : Hp} {s : Shared} {a : Addr} {kvs : List (Key × V)} {A : Around} {E : Value → Shared → Prop}
end


section
variable {X : Cx} {pins : List (Addr × Obj)} {σ : St} {H : Hp} {s : Shared} {a : Addr} {y : V} {u : Value} {A : Around} {E : Value → Shared → Prop}
end
section
variable {X : Cx}
end
end L2

set_option Elab.async false
set_option linter.all false
set_option maxRecDepth 100000
set_option maxHeartbeats 4000000
namespace L2
open PySem PySem.Spec PyProof.Rows
/-! ## defs with defaults -/
structure FunD (K : PySem.W.Frag) (x qual : Str) (st : Stmt) (dV : Value) (f : Addr) (fd : FuncData) : Prop where
  ex : ∃ (oc : Value) (od : Option Addr) (kV doc pm : Value) (an : Option Addr) (cdv ct : Value) (osl : Array (Option Value)),
    fd = PySem.W.fnOf x qual (defArgs st) (defBody st) (defScope st) dV kV doc pm an cdv ct ∧ K.lookup f = some ⟨oc, od, .func fd, osl⟩ ∧ PySem.W.codeIn K cdv qual = true
  kp : PySem.W.keepIn K (.ref f) = true
section
variable {P : Program} {w : World} {K : PySem.W.Frag} {mg : Str → Option Value} {base : Heap}
theorem FunD.ok {x qual : Str} {st : Stmt} {dV : Value} {f : Addr} {fd : FuncData} {N ps : List Str} {k : Nat} {sp : Sp} (F : FunD K x qual st dV f fd) (S : FnScope N ps (defScope st)) (len : ∀ vs H Q E, sp vs H Q E → vs.length = ps.length)
    (hbody : ∀ (cdv : Value) (A : Around) (outer : List Env) (s : Shared) (H : Hp) (vs : List V) (Q : VK) (E : XK), Room k (A.deeper (envOfC qual (defScope st) s.heap.objs.size f cdv)) → sp vs H Q E →
      ∃ t, PSs (cxOf CX0 P w K mg base N qual (defScope st) f cdv A outer s H E).nox (defBody st) t ∧ t { nx := fun _ H' => Q .non H', rt := Q } (start N vs) H) : FnOk P w K mg base CX0 (k + 1) f fd ps sp := by
  obtain ⟨oc, od, kV, doc, pm, an, cdv, ct, osl, rfl, lk, hcd⟩ := F.ex
  refine fn_of lk hcd S len fun A outer s H vs Q E hr hsp => ?_
  obtain ⟨t, h, q⟩ := hbody cdv A outer s H vs Q E hr hsp
  exact ⟨t, h.nox, q⟩
theorem funD_mk {x qual : Str} {st : Stmt} {dV : Value} {f : Addr} {oc : Value} {od an : Option Addr} {osl : Array (Option Value)} {kV doc pm cdv ct : Value} (l : K.lookup f = some ⟨oc, od, .func (PySem.W.fnOf x qual (defArgs st) (defBody st) (defScope st) dV kV doc pm an cdv ct), osl⟩)
    (c : PySem.W.codeIn K cdv qual = true) (k : PySem.W.keepIn K (.ref f) = true) : FunD K x qual st dV f (PySem.W.fnOf x qual (defArgs st) (defBody st) (defScope st) dV kV doc pm an cdv ct) := ⟨⟨oc, od, kV, doc, pm, an, cdv, ct, osl, rfl, l, c⟩, k⟩
structure OwnD (P : Program) (w : World) (K : PySem.W.Frag) (mg : Str → Option Value) (base : Heap) (CX : CXT) (k : Nat) (x : Str) (ps : List Str) (sp : Sp) (dvs : List V) : Prop where
  ex : ∃ f fd ds, FnOk P w K mg base CX k f fd ps sp ∧ Binds K fd ps ds ∧ Vals dvs ds ∧ PySem.W.keepIn K (.ref f) = true ∧ mg x = some (.ref f)
end
section
variable {X : Cx} {CX : CXT} {j k : Nat} {ps : List Str} {sp : Sp} {dvs : List V} {E : XK} {x : Str} {p pos : Pos} {e : Expr} {es : List Expr} {t : TA}
theorem pe_ownD (O : OwnD X.prog X.w X.K X.mg X.base CX j x ps sp dvs) (hr : Room k X.A) (hg : Gl X x) (hx : Passes CX X E) (ha : PA X (e :: es) t) (hj : j ≤ k := by decide) (hdb : (x == ("__debug__" : Str)) = false := by decide)
    (he : starEach (e :: es) X.env = (false, eval e X.env) :: starEach es X.env := by rfl) (hpl : (backTo pos (starEach es X.env)).any (·.1) = false := by rfl) : PE X (.Call (.Name x p) (e :: es) [] pos) (tCall sp dvs E t) := by
  obtain ⟨f, fd, ds, F, b, v, kp, m⟩ := O.ex
  exact pe_call F (hr.mono hj) hg m kp b v hx ha hdb he hpl
end
/-! ## a call of what an expression tells -/
structure FnAt (P : Program) (w : World) (K : PySem.W.Frag) (mg : Str → Option Value) (base : Heap) (CX : CXT) (k : Nat) (f : Addr) (sp : Sp) : Prop where
  ex : ∃ fd ps, FnOk P w K mg base CX k f fd ps sp ∧ Binds K fd ps [] ∧ PySem.W.keepIn K (.ref f) = true
def tCallF (X : Cx) (CX : CXT) (k : Nat) (E : XK) (tf : TE) (t : TA) : TE := fun σ H Q => tf σ H fun x H1 => ∃ f sp, x = .ref f ∧ FnAt X.prog X.w X.K X.mg X.base CX k f sp ∧ t σ H1 fun vs H2 => sp vs H2 Q E
section
variable {X : Cx} {CX : CXT} {k : Nat} {E : XK} {func e : Expr} {es : List Expr} {pos : Pos} {tf : TE} {t : TA}
theorem pe_callF (hr : Room k X.A) (hf : PE X func tf) (hx : Passes CX X E) (ha : PA X (e :: es) t)
    (hc : eval (.Call func (e :: es) [] pos) X.env = (do callWith pos (← eval func X.env) [] (backTo pos (starEach (e :: es) X.env)) (backToKw pos (keywordEach [] X.env))) := by rfl)
    (he : starEach (e :: es) X.env = (false, eval e X.env) :: starEach es X.env := by rfl) (hpl : (backTo pos (starEach es X.env)).any (·.1) = false := by rfl) : PE X (.Call func (e :: es) [] pos) (tCallF X CX k E tf t) := by
  intro pins s σ H Q I h
  refine Call_ (thn (hf pins s σ H _ I h) fun u s1 ⟨x, H1, I1, r1, f, sp, ex, F, q1⟩ => ?_) hc
  subst ex
  obtain rfl : u = Value.ref f := r1
  obtain ⟨fd, ps, Fo, hb, hk⟩ := F.ex
  refine PySem.W.callWith_K (h₀ := X.base) I1.ok.mod.kin hk (thn (ha pos pins s1 σ H1 _ I1 q1) fun us s2 ⟨vs, H2, I2, r, q⟩ => ⟨I2.kIn, ?_⟩) he hpl
  exact run_fn (dvs := []) (ds := []) Fo hr hb .nil hx I2 r (by rw [List.append_nil]; exact q)
end
/-! ## a dict of the module: texts to objects -/
def ents (w : World) (ps : List (List Nat × Tok × Addr)) : List DictEntry := ps.map fun p => { hash := PyData.keyHash w.params (S p.1), key := .str (S p.1) p.2.1, val := .ref p.2.2 }
structure KDict (K : PySem.W.Frag) (w : World) (a : Addr) (ps : List (List Nat × Tok × Addr)) : Prop where
  at_ : ∃ ep, K.lookup a = some { cls := .type "dict", dict := none, data := .dict (ents w ps).toArray ep, slots := #[] }
  sys : (a == sysModules) = false
def kAt : List (List Nat × Tok × Addr) → List Nat → Option Addr
  | [], _ => none
  | (k, _, f) :: r, x => if k = x then some f else kAt r x
section
variable {prog : Program} {w : World} {K : PySem.W.Frag} {a : Addr} {ps : List (List Nat × Tok × Addr)}
theorem ents_keys : KeysOf (strKind prog w) (ents w ps).toArray := by
  intro e he
  have he' : e ∈ ents w ps := by simpa using he
  obtain ⟨p, _, rfl⟩ := List.mem_map.mp he'
  exact ⟨S p.1, by show (S p.1 == S p.1) = true; simp, rfl⟩
theorem ents_find (x : List Nat) : findBy (strKind prog w).is (ents w ps).toArray (S x) = (kAt ps x).map Value.ref := by
  unfold findBy
  induction ps with
  | nil => rfl
  | cons p r ih =>
    obtain ⟨k, t, f⟩ := p
    have e : (ents w ((k, t, f) :: r)).toArray.find? (fun e => (strKind prog w).is (S x) e.key) = if (S k == S x) = true then some { hash := PyData.keyHash w.params (S k), key := .str (S k) t, val := .ref f } else (ents w r).toArray.find? (fun e => (strKind prog w).is (S x) e.key) := by
      rw [← Array.find?_toList, ← Array.find?_toList]
      show List.find? _ (_ :: ents w r) = _
      rw [List.find?_cons]
      show (match (S k == S x) with | true => _ | false => _) = _
      cases (S k == S x) <;> rfl
    rw [e]
    unfold kAt
    by_cases h : k = x
    · subst h
      rw [if_pos (by simp), if_pos rfl]
      rfl
    · have h' : ¬ S k = S x := fun z => h (S_inj z)
      rw [if_neg (by simpa using h'), if_neg h]
      exact ih
theorem KDict.map (D : KDict K w a ps) {h : Heap} (X : K.In h) : h.MapOf (strKind prog w) a (fun x => findBy (strKind prog w).is (ents w ps).toArray x) := by
  obtain ⟨ep, e⟩ := D.at_
  exact ⟨_, _, ep, X _ _ e, ⟨rfl, rfl, rfl⟩, rfl, ents_keys, fun _ => rfl⟩
end
def tKGet (K : PySem.W.Frag) (w : World) (td ty : TE) : TE := fun σ H Q => td σ H fun x H1 => ty σ H1 fun y H2 => ∃ a ps l f, x = .ref a ∧ KDict K w a ps ∧ y = .str (S l) ∧ kAt ps l = some f ∧ Q (.ref f) H2
def tKIn (K : PySem.W.Frag) (w : World) (ty td : TE) : TE := fun σ H Q => ty σ H fun y H1 => td σ H1 fun x H2 => ∃ a ps l, x = .ref a ∧ KDict K w a ps ∧ y = .str (S l) ∧ Q (.bl (kAt ps l).isSome) H2
section
variable {X : Cx} {o i : Expr} {td ty : TE} {pos : Pos}
theorem pe_kget (ho : PE X o td) (hi : PE X i ty) (hs : NoSl i) : PE X (.Subscript o i pos) (tKGet X.K X.w td ty) := by
  intro pins s σ H Q I h
  refine subD_of PySem.F.slot_dict_getitem.lookup hs (thn (ho pins s σ H _ I h) fun u s1 ⟨x, H1, I1, rx, q1⟩ => thn (hi pins s1 σ H1 _ I1 q1) fun iv s2 ⟨y, H2, I2, ry, a, ps, l, f, ex, D, ey, hf, q2⟩ => ?_)
  subst ex ey
  obtain rfl : u = Value.ref a := rx
  obtain ⟨t, rfl⟩ := ry
  have M := D.map (prog := X.prog) I2.kIn
  refine ⟨M.typeIs, wpAny_getItem_of (k := S l) (v := .ref f) (by show (S l == S l) = true; simp) M (by rw [ents_find, hf]; rfl) ⟨.ref f, H2, I2.tok _, rfl, q2⟩⟩
theorem pc_kin (hi : PE X i ty) (ho : PE X o td) : PC X .In i o (tKIn X.K X.w ty td) := by
  intro pins s σ H Q I h
  refine thn (hi pins s σ H _ I h) fun iv s1 ⟨y, H1, I1, ry, q1⟩ => thn (ho pins s1 σ H1 _ I1 q1) fun u s2 ⟨x, H2, I2, rx, a, ps, l, ex, D, ey, q2⟩ => ?_
  subst ex ey
  obtain rfl : u = Value.ref a := rx
  obtain ⟨t, rfl⟩ := ry
  have M := D.map (prog := X.prog) I2.kIn
  refine wpAny_in_of (k := S l) (by show (S l == S l) = true; simp) D.sys M ?_
  rw [ents_find, Option.isSome_map]
  exact ⟨.bl _, H2, I2.tok _, rfl, q2⟩
end
end L2

set_option Elab.async false
set_option linter.all false
set_option maxRecDepth 100000
set_option maxHeartbeats 4000000
namespace L2
/-! ## the row of a place -/
def IsRow (l : List Nat) (p b e : Nat) : Prop := b ≤ p ∧ p ≤ e ∧ e ≤ l.length ∧ (∀ j, b ≤ j → j < e → l[j]? ≠ some 10) ∧ (b = 0 ∨ (0 < b ∧ l[b - 1]? = some 10)) ∧ (e = l.length ∨ l[e]? = some 10)
def rno (l : List Nat) (p : Nat) : Nat := (l.take p).count 10
def rb (l : List Nat) (p : Nat) : Nat := begAt l (rno l p)
def re (l : List Nat) (p : Nat) : Nat := endAt l (rno l p)
theorem occs_has {l : List Nat} {j : Nat} : j ∈ occs l ↔ l[j]? = some 10 := by
  unfold occs
  rw [List.mem_filter, List.mem_range]
  constructor
  · rintro ⟨_, h⟩
    exact beq_iff_eq.mp h
  · intro h
    exact ⟨(List.getElem?_eq_some_iff.mp h).1, beq_iff_eq.mpr h⟩
theorem occs_take (l : List Nat) {p : Nat} (h : p ≤ l.length) : occs (l.take p) = (occs l).filter (· < p) := by
  unfold occs
  rw [List.length_take, Nat.min_eq_left h, List.filter_filter]
  have e : List.range l.length = List.range p ++ (List.range (l.length - p)).map (p + ·) := by
    rw [← List.range_add]
    congr 1
    omega
  rw [e, List.filter_append]
  have e2 : List.filter (fun a => decide (a < p) && l[a]? == some 10) ((List.range (l.length - p)).map (p + ·)) = [] := by
    rw [List.filter_eq_nil_iff]
    intro a ha
    obtain ⟨b, _, rfl⟩ := List.mem_map.mp ha
    rw [decide_eq_false (by omega), Bool.false_and]
    exact Bool.false_ne_true
  rw [e2, List.append_nil]
  refine List.filter_congr fun i hi => ?_
  have hi' := List.mem_range.mp hi
  rw [decide_eq_true hi', Bool.true_and, List.getElem?_take_of_lt hi']
theorem rno_eq (l : List Nat) {p : Nat} (h : p ≤ l.length) : rno l p = ((occs l).filter (· < p)).length := by
  unfold rno
  rw [← occs_len, occs_take l h]
theorem rising_lt {p : Nat} : ∀ {xs : List Nat} {i x : Nat}, xs.Pairwise (· < ·) → xs[i]? = some x → (x < p ↔ i < (xs.filter (· < p)).length)
  | [], i, x, _, h => by simp at h
  | y :: xs, i, x, hp, h => by
    rw [List.pairwise_cons] at hp
    rw [List.filter_cons]
    by_cases hy : y < p
    · rw [if_pos (by simpa using hy), List.length_cons]
      cases i with
      | zero =>
        have : y = x := by simpa using h
        subst this
        exact ⟨fun _ => by omega, fun _ => hy⟩
      | succ i =>
        have ih := rising_lt (p := p) (i := i) (x := x) hp.2 (by simpa using h)
        rw [ih]
        omega
    · rw [if_neg (by simpa using hy)]
      have hno : xs.filter (· < p) = [] := by
        rw [List.filter_eq_nil_iff]
        intro z hz
        have := hp.1 z hz
        simp
        omega
      rw [hno]
      cases i with
      | zero =>
        have : y = x := by simpa using h
        subst this
        exact ⟨fun z => absurd z hy, fun z => absurd z (Nat.not_lt_zero _)⟩
      | succ i =>
        have hx : x ∈ xs := List.mem_of_getElem? (by simpa using h)
        have := hp.1 x hx
        exact ⟨fun z => by omega, fun z => absurd z (Nat.not_lt_zero _)⟩
theorem occ_lt {l : List Nat} {p i x : Nat} (h : p ≤ l.length) (hx : (occs l)[i]? = some x) : x < p ↔ i < rno l p := by
  rw [rno_eq l h]
  exact rising_lt (occs_sorted l) hx
theorem rno_le (l : List Nat) {p : Nat} (h : p ≤ l.length) : rno l p ≤ l.count 10 := by
  unfold rno
  exact List.Sublist.count_le _ (List.take_sublist _ _)
theorem stop_occ {l : List Nat} {i : Nat} (h : i < l.count 10) : ∃ x, (occs l)[i]? = some x ∧ endAt l i = x := by
  have hi : i < (occs l).length := by rw [occs_len]; exact h
  refine ⟨(occs l)[i], List.getElem?_eq_getElem hi, ?_⟩
  unfold endAt stops
  rw [List.getD_eq_getElem?_getD, List.getElem?_append_left hi, List.getElem?_eq_getElem hi]
  rfl
theorem stop_last (l : List Nat) : endAt l (l.count 10) = l.length := by
  unfold endAt stops
  rw [List.getD_eq_getElem?_getD, List.getElem?_append_right (by rw [occs_len]; omega), occs_len, Nat.sub_self]
  rfl
theorem row_is {l : List Nat} {p : Nat} (h : p ≤ l.length) : IsRow l p (rb l p) (re l p) := by
  have hr := rno_le l h
  have hb : rb l p ≤ p ∧ (rb l p = 0 ∨ (0 < rb l p ∧ l[rb l p - 1]? = some 10)) ∧ ∀ i x, (occs l)[i]? = some x → rb l p ≤ x → rno l p ≤ i := by
    unfold rb
    cases e : rno l p with
    | zero => exact ⟨Nat.zero_le _, .inl rfl, fun i x _ _ => Nat.zero_le _⟩
    | succ r =>
      obtain ⟨x, h1, h2⟩ := stop_occ (l := l) (i := r) (by omega)
      have hx := (occ_lt h h1).mpr (by omega)
      have eb : begAt l (r + 1) = x + 1 := by show endAt l r + 1 = x + 1; rw [h2]
      rw [eb]
      refine ⟨by omega, .inr ⟨by omega, ?_⟩, fun i y hi hy => ?_⟩
      · rw [show x + 1 - 1 = x by omega]
        exact occs_has.mp (List.mem_of_getElem? h1)
      · rcases Nat.lt_or_ge i (r + 1) with z | z
        · exfalso
          rcases Nat.lt_or_eq_of_le (Nat.le_of_lt_succ z) with z' | z'
          · have s := occs_sorted l
            obtain ⟨a1, a2⟩ := List.getElem?_eq_some_iff.mp hi
            obtain ⟨b1, b2⟩ := List.getElem?_eq_some_iff.mp h1
            have := (List.pairwise_iff_getElem.mp s) i r a1 b1 z'
            omega
          · subst z'
            rw [h1] at hi
            cases hi
            omega
        · exact z
  have he : p ≤ re l p ∧ re l p ≤ l.length ∧ (re l p = l.length ∨ l[re l p]? = some 10) ∧ ∀ i x, (occs l)[i]? = some x → x < re l p → i < rno l p := by
    unfold re
    rcases Nat.lt_or_eq_of_le hr with z | z
    · obtain ⟨x, h1, h2⟩ := stop_occ (l := l) (i := rno l p) z
      have hx := occ_lt h h1
      rw [h2]
      have m := occs_has.mp (List.mem_of_getElem? h1)
      have hlt := (List.getElem?_eq_some_iff.mp m).1
      refine ⟨?_, by omega, .inr m, fun i y hi hy => ?_⟩
      · rcases Nat.lt_or_ge x p with q | q
        · exact absurd (hx.mp q) (Nat.lt_irrefl _)
        · exact q
      · rcases Nat.lt_or_ge i (rno l p) with q | q
        · exact q
        · exfalso
          rcases Nat.lt_or_eq_of_le q with q' | q'
          · have s := occs_sorted l
            obtain ⟨a1, a2⟩ := List.getElem?_eq_some_iff.mp hi
            obtain ⟨b1, b2⟩ := List.getElem?_eq_some_iff.mp h1
            have := (List.pairwise_iff_getElem.mp s) _ i b1 a1 q'
            omega
          · subst q'
            rw [h1] at hi
            cases hi
            omega
    · rw [z, stop_last]
      refine ⟨h, Nat.le_refl _, .inl rfl, fun i y hi _ => ?_⟩
      have := (List.getElem?_eq_some_iff.mp hi).1
      rw [occs_len] at this
      exact this
  refine ⟨hb.1, he.1, he.2.1, fun j h1 h2 hj => ?_, hb.2.1, he.2.2.1⟩
  obtain ⟨i, hi⟩ := List.mem_iff_getElem?.mp (occs_has.mpr hj)
  have a := hb.2.2 i j hi h1
  have b := he.2.2.2 i j hi h2
  omega
end L2
namespace L2
end L2

set_option Elab.async false
set_option linter.all false
set_option maxRecDepth 100000
set_option maxHeartbeats 4000000
namespace L2
open PySem
/-! ## the first one from a on, the last one ahead of a -/
/-! ## the moves -/
def nV (n : Nat) : V := .int (n : Int)
theorem step_gt {l : List Nat} {p r : Nat} (hp : p ≤ l.length) (hr : r ≤ rno l p) : endAt l r < p ↔ r < rno l p := by
  have h2 := rno_le l hp
  rcases Nat.lt_or_ge r (l.count 10) with z | z
  · obtain ⟨x, h1, e⟩ := stop_occ z
    rw [e]
    exact occ_lt hp h1
  · have e : r = l.count 10 := by omega
    subst e
    rw [stop_last]
    omega
end L2

set_option Elab.async false
set_option linter.all false
set_option maxRecDepth 100000
set_option maxHeartbeats 4000000
namespace L2
open PySem PySem.Spec PyProof.Rows
/-! ## comprehensions that take names from around -/
theorem clos_go {env : Env} : ∀ (ns : List (Str × NameKind)) (cs : List (Str × Addr)), (∀ y ∈ ns, y.2 = .free → ∃ c, env.cells.lookup y.1 = some c) → (∀ p ∈ cs, env.cells.lookup p.1 = some p.2) →
    ∃ cl, (forIn ns cs (fun (x : Str × NameKind) (r : List (Str × Addr)) => (if (x.2 == NameKind.free) = true then (do let c ← cellOf env x.1; pure (ForInStep.yield ((x.1, c) :: r))) else pure (ForInStep.yield r) : Sem _)) : Sem (List (Str × Addr))) = pure cl ∧ (∀ p ∈ cl, env.cells.lookup p.1 = some p.2) ∧ (∀ p ∈ cs, p ∈ cl) ∧ ∀ y ∈ ns, y.2 = .free → ∃ c, (y.1, c) ∈ cl
  | [], cs, _, hc => ⟨cs, rfl, hc, fun _ h => h, fun _ h => by cases h⟩
  | (n, k) :: ns, cs, hn, hc => by
    rw [List.forIn_cons]
    by_cases hk : k = .free
    · subst hk
      obtain ⟨c, ec⟩ := hn (n, .free) List.mem_cons_self rfl
      have e1 : cellOf env n = pure c := by
        unfold cellOf
        have ec' : env.cells.lookup n = some c := ec
        rw [ec']
      obtain ⟨cl, h1, h2, h3, h4⟩ := clos_go ns ((n, c) :: cs) (fun y hy => hn y (List.mem_cons_of_mem _ hy)) (fun p hp => by
        rcases List.mem_cons.mp hp with z | z
        · subst z; exact ec
        · exact hc p z)
      refine ⟨cl, ?_, h2, fun p hp => h3 p (List.mem_cons_of_mem _ hp), fun y hy hf => ?_⟩
      · rw [if_pos (by rfl)]
        show ((cellOf env n >>= fun c => pure (ForInStep.yield ((n, c) :: cs))) >>= _) = _
        rw [e1]
        exact h1
      · rcases List.mem_cons.mp hy with z | z
        · subst z; exact ⟨c, h3 _ List.mem_cons_self⟩
        · exact h4 y z hf
    · obtain ⟨cl, h1, h2, h3, h4⟩ := clos_go ns cs (fun y hy => hn y (List.mem_cons_of_mem _ hy)) hc
      refine ⟨cl, ?_, h2, h3, fun y hy hf => ?_⟩
      · rw [if_neg (by intro z; exact hk (by simpa using z))]
        exact h1
      · rcases List.mem_cons.mp hy with z | z
        · subst z; exact absurd hf hk
        · exact h4 y z hf
theorem clos_ex {scope : Scope} {env : Env} (h : ∀ y ∈ scope.names, y.2 = .free → ∃ c, env.cells.lookup y.1 = some c) : ∃ cl, closureFor scope env = pure cl ∧ (∀ p ∈ cl, env.cells.lookup p.1 = some p.2) ∧ ∀ y ∈ scope.names, y.2 = .free → ∃ c, (y.1, c) ∈ cl := by
  obtain ⟨cl, h1, h2, _, h4⟩ := clos_go scope.names [] h (fun p hp => by cases hp)
  refine ⟨cl, ?_, h2, h4⟩
  unfold closureFor
  show (forIn scope.names ([] : List (Str × Addr)) _ >>= _) = _
  have e : (forIn scope.names ([] : List (Str × Addr)) (fun (x : Str × NameKind) (r : List (Str × Addr)) => (match x with | (name, kind) => if (kind == NameKind.free) = true then (do let c ← cellOf env name; pure (ForInStep.yield ((name, c) :: r))) else pure (ForInStep.yield r) : Sem _)) : Sem (List (Str × Addr))) = pure cl := h1
  rw [e]
  rfl
theorem mem_lookup {α : Type} : ∀ {l : List (Str × α)} {x : Str} {k : α}, l.lookup x = some k → (x, k) ∈ l
  | (y, k') :: r, x, k, h => by
    rw [List.lookup_cons] at h
    split at h
    · rename_i e
      cases h
      rw [beq_iff_eq.mp e]
      exact List.mem_cons_self
    · exact List.mem_cons_of_mem _ (mem_lookup h)
theorem lookup_some {α : Type} : ∀ {l : List (Str × α)} {x : Str} {k : α}, (x, k) ∈ l → ∃ c, l.lookup x = some c
  | (y, k') :: r, x, k, h => by
    rw [List.lookup_cons]
    split
    · exact ⟨_, rfl⟩
    · rename_i e
      rcases List.mem_cons.mp h with z | z
      · cases z; simp at e
      · exact lookup_some z
def capOk (scope sc : Scope) (NB NN : List Str) (ix : List (Option Nat)) : Bool :=
  scope.names.all (fun y => y.2 != NameKind.cell) && (scope.kind == .function) && scope.names.all (fun y => y.2 != NameKind.local || scope.names.lookup y.1 == some NameKind.local) &&
  scope.names.all (fun y => y.2 != NameKind.free || sc.names.lookup y.1 == some NameKind.cell) && (ix.length == NB.length) &&
  (List.range NB.length).all (fun i => match ix[i]?, NB[i]? with
    | some (some j), some x => NN[j]? == some x && sc.names.lookup x == some NameKind.cell && scope.names.lookup x == some NameKind.free
    | _, _ => true)
theorem relabel_at {scope : Scope} {env : Env} {x : Str} (hc : ∀ y ∈ scope.names, y.2 ≠ .cell) (h : List.lookup x (scope.names.map fun (n, k) => if (k == NameKind.free && env.scope.kind == .function && env.kindOf n == some .cell) then (n, NameKind.cell) else (n, k)) = some .cell ∨ List.lookup x (scope.names.map fun (n, k) => if (k == NameKind.free && env.scope.kind == .function && env.kindOf n == some .cell) then (n, NameKind.cell) else (n, k)) = some .free) :
    (x, NameKind.free) ∈ scope.names := by
  have key : ∀ k, (x, k) ∈ (scope.names.map fun (n, k) => if (k == NameKind.free && env.scope.kind == .function && env.kindOf n == some .cell) then (n, NameKind.cell) else (n, k)) → k = .cell ∨ k = .free → (x, NameKind.free) ∈ scope.names := by
    intro k hk hkk
    obtain ⟨⟨n, k'⟩, hm, he⟩ := List.mem_map.mp hk
    dsimp only at he
    split at he
    · rename_i c
      have : k' = .free := by
        have := (Bool.and_eq_true_iff.mp (Bool.and_eq_true_iff.mp c).1).1
        simpa using this
      subst this
      cases he
      exact hm
    · cases he
      rcases hkk with z | z
      · subst z; exact absurd rfl (hc _ hm)
      · subst z; exact hm
  rcases h with h | h
  · exact key _ (mem_lookup h) (.inl rfl)
  · exact key _ (mem_lookup h) (.inr rfl)
theorem relabel_free {scope : Scope} {env : Env} {x : Str} (hk : env.scope.kind = .function) (h1 : scope.names.lookup x = some .free) (h2 : env.kindOf x = some .cell) :
    List.lookup x (scope.names.map fun (n, k) => if (k == NameKind.free && env.scope.kind == .function && env.kindOf n == some .cell) then (n, NameKind.cell) else (n, k)) = some .cell := by
  generalize scope.names = ns at h1
  induction ns with
  | nil => cases h1
  | cons y r ih =>
    obtain ⟨n, k⟩ := y
    rw [List.lookup_cons] at h1
    rw [List.map_cons]
    by_cases e : x = n
    · subst e
      simp only [beq_self_eq_true] at h1
      cases h1
      show List.lookup x ((if (NameKind.free == NameKind.free && env.scope.kind == .function && env.kindOf x == some .cell) = true then (x, NameKind.cell) else (x, NameKind.free)) :: _) = _
      rw [if_pos (by rw [hk, h2]; rfl), List.lookup_cons]
      simp
    · have e' : (x == n) = false := by simpa using e
      rw [e'] at h1
      have ih' := ih h1
      show List.lookup x ((if (k == NameKind.free && env.scope.kind == .function && env.kindOf n == some .cell) = true then (n, NameKind.cell) else (n, k)) :: _) = _
      split
      · rw [List.lookup_cons, e']; exact ih'
      · rw [List.lookup_cons, e']; exact ih'
section
variable {X : Cx} {scope sc : Scope} {NB NN : List Str} {ix : List (Option Nat)} {pins : List (Addr × Obj)} {σ : St} {H : Hp} {s : Shared}
theorem cap_cl (hk : capOk scope sc NB NN ix = true) (hsc : X.env.scope = sc) (hN : X.N = NN) (I : Inv X pins σ H s) : ∃ cl, ClOk X scope cl NB ix := by
  subst hsc hN
  unfold capOk at hk
  simp only [Bool.and_eq_true, List.all_eq_true] at hk
  obtain ⟨⟨⟨⟨⟨k1, k2⟩, k3⟩, k4⟩, k5⟩, k6⟩ := hk
  have hcell : ∀ y ∈ scope.names, y.2 ≠ .cell := fun y hy => by simpa using k1 y hy
  have hfree : ∀ y ∈ scope.names, y.2 = .free → X.env.kindOf y.1 = some .cell := fun y hy hf => by
    have := k4 y hy
    rw [hf] at this
    have this' : X.env.scope.names.lookup y.1 = some .cell := by simpa using this
    exact this'
  obtain ⟨cl, c1, c2, c3⟩ := clos_ex (scope := scope) (env := X.env) fun y hy hf => I.ok.has y.1 (.inl (hfree y hy hf))
  refine ⟨cl, c1, hcell, by simpa using k2, fun y hy hl => ?_, fun x c h => c2 _ (mem_lookup h), fun C x h => ?_, by simpa using k5, fun i x j h1 h2 => ?_⟩
  · have := k3 y hy
    rw [hl] at this
    simpa using this
  · obtain ⟨c, hc⟩ := c3 _ (relabel_at hcell h) rfl
    exact lookup_some hc
  · have hi : i < NB.length := (List.getElem?_eq_some_iff.mp h1).1
    have := k6 i (List.mem_range.mpr hi)
    rw [h1, h2] at this
    simp only [Bool.and_eq_true, beq_iff_eq] at this
    obtain ⟨⟨a1, a2⟩, a3⟩ := this
    exact ⟨a1, .inl a2, fun C => .inl (relabel_free I.ok.kind a3 a2)⟩
theorem pe_compF {elt iter : Expr} {x : Str} {px : Pos} {ifs : List Expr} {pos : Pos} {wi : TI} {g : TG} {tc : TT} {te : TE} (NB : List Str) (ix : List (Option Nat)) (NN : List Str) (sc : Scope) (hc : X.calm = true) (hk : capOk scope sc NB NN ix = true) (hsc : X.env.scope = sc) (hN : X.N = NN) (hi : PI X (.Name x px) iter wi)
    (hg : ∀ cl C fp s3 H3, PG (blk X scope cl NB C fp s3 H3) (.Name x px) g) (ht : ∀ cl C fp s3 H3, PIf (blk X scope cl NB C fp s3 H3) ifs tc) (he : ∀ cl C fp s3 H3, PE (blk X scope cl NB C fp s3 H3) elt te)
    (hs : ∀ x, foldedSetIterable iter X.env x = pure x := by intro _; rfl) : PE X (.ListComp elt [⟨.Name x px, iter, ifs, 0⟩] scope pos) (tComp ix wi g tc te) := by
  intro pins s σ H Q I h
  obtain ⟨cl, hb⟩ := cap_cl hk hsc hN I
  exact pe_comp NB ix cl hc hb hi (hg cl) (ht cl) (he cl) hs pins s σ H Q I h
end
end L2

set_option Elab.async false
set_option linter.all false
set_option maxRecDepth 100000
set_option maxHeartbeats 4000000
namespace L2
open PySem PySem.Spec PyProof.Rows
/-! ## sum, max, min of a list of whole numbers; for over a text -/
theorem int_items : ∀ {ns : List Int} {us : List Value}, Vals (ns.map V.int) us → ∃ xs : List (Int × Tok), us = xs.map (fun p => Value.int p.1 p.2) ∧ xs.map (·.1) = ns
  | [], _, .nil => ⟨[], rfl, rfl⟩
  | n :: ns, _, .cons r t => by
    obtain ⟨tk, rfl⟩ := r
    obtain ⟨xs, rfl, e⟩ := int_items t
    exact ⟨(n, tk) :: xs, rfl, by rw [List.map_cons, e]⟩
theorem num_at {xs : List (Int × Tok)} {ns : List Int} (h : xs.map (·.1) = ns) (i : Nat) : numAt xs.toArray i = ns.getD i 0 := by
  unfold numAt
  subst h
  rw [List.getD_eq_getElem?_getD, List.getElem?_map]
  simp
section
variable {X : Cx} {tg : Expr}
theorem items_eq (xs : List (Int × Tok)) : intItems xs.toArray = (xs.map fun p => Value.int p.1 p.2).toArray := by unfold intItems; simp
theorem kept_ep {pins : List (Addr × Obj)} {σ : St} {H : Hp} {s : Shared} {Q : VK} {v : V} {u : Value} {h' : Heap} {tk : Nat} (I : Inv X pins σ H s) (hk : ∀ b o, s.heap.get? b = some o → h'.get? b = some o) (r : RelV v u) (q : Q v H) : EP X pins σ Q u { s with heap := h', toks := tk } :=
  ⟨v, H, I.kept (t' := tk) hk, r, q⟩
theorem call_maxL (hc : X.calm = true) : CallR X (.builtin "max") (fun vs H Q => ∃ (p : Addr) (ns : List Int), vs = [.ref p] ∧ SqL X.K H p (ns.map V.int) ∧ 0 < ns.length ∧ ∀ m, m ∈ ns → (∀ n ∈ ns, n ≤ m) → Q (.int m) H) := by
  intro pins s σ H vs us Q I r h
  obtain ⟨p, ns, rfl, hq, hl, q⟩ := h
  obtain ⟨u, rfl, rfl⟩ := r.one
  obtain ⟨its, rv, pl, hz⟩ := I.list hq
  obtain ⟨xs, rfl, e⟩ := int_items rv
  have len : xs.length = ns.length := by rw [← e, List.length_map]
  refine max_intList (xs := xs.toArray) (I.ok.hd hc) (by rw [items_eq]; exact pl.isList) (by simp; omega) fun v h' tk hv hk => ?_
  obtain ⟨a1, a2⟩ := argBest_gt (numAt xs.toArray) (xs.toArray.size - 1)
  obtain ⟨t, rfl⟩ := intItems_at hv
  generalize argBest (fun i j => decide (numAt xs.toArray i > numAt xs.toArray j)) (xs.toArray.size - 1) = b at a1 a2 hv
  have hs : xs.toArray.size = ns.length := by simp [len]
  rw [hs] at a1 a2
  rw [num_at e]
  refine kept_ep (v := .int (ns.getD b 0)) I hk ⟨t, rfl⟩ (q _ ?_ fun n hn => ?_)
  · rw [List.getD_eq_getElem?_getD, List.getElem?_eq_getElem (by omega)]
    exact List.getElem_mem _
  · obtain ⟨j, hj, rfl⟩ := List.getElem_of_mem hn
    have := a2 j (by omega)
    rw [num_at e, num_at e, List.getD_eq_getElem?_getD, List.getElem?_eq_getElem hj] at this
    exact this
theorem call_minL (hc : X.calm = true) : CallR X (.builtin "min") (fun vs H Q => ∃ (p : Addr) (ns : List Int), vs = [.ref p] ∧ SqL X.K H p (ns.map V.int) ∧ 0 < ns.length ∧ ∀ m, m ∈ ns → (∀ n ∈ ns, m ≤ n) → Q (.int m) H) := by
  intro pins s σ H vs us Q I r h
  obtain ⟨p, ns, rfl, hq, hl, q⟩ := h
  obtain ⟨u, rfl, rfl⟩ := r.one
  obtain ⟨its, rv, pl, hz⟩ := I.list hq
  obtain ⟨xs, rfl, e⟩ := int_items rv
  have len : xs.length = ns.length := by rw [← e, List.length_map]
  refine min_intList (xs := xs.toArray) (I.ok.hd hc) (by rw [items_eq]; exact pl.isList) (by simp; omega) fun v h' tk hv hk => ?_
  obtain ⟨a1, a2⟩ := argBest_lt (numAt xs.toArray) (xs.toArray.size - 1)
  obtain ⟨t, rfl⟩ := intItems_at hv
  generalize argBest (fun i j => decide (numAt xs.toArray i < numAt xs.toArray j)) (xs.toArray.size - 1) = b at a1 a2 hv
  have hs : xs.toArray.size = ns.length := by simp [len]
  rw [hs] at a1 a2
  rw [num_at e]
  refine kept_ep (v := .int (ns.getD b 0)) I hk ⟨t, rfl⟩ (q _ ?_ fun n hn => ?_)
  · rw [List.getD_eq_getElem?_getD, List.getElem?_eq_getElem (by omega)]
    exact List.getElem_mem _
  · obtain ⟨j, hj, rfl⟩ := List.getElem_of_mem hn
    have := a2 j (by omega)
    rw [num_at e, num_at e] at this
    have z : ns.getD j 0 = ns[j] := by rw [List.getD_eq_getElem?_getD, List.getElem?_eq_getElem hj]; rfl
    rw [z] at this
    exact this
/-! the signs of a text, one by one -/
end
end L2

set_option Elab.async false
set_option linter.all false
set_option maxRecDepth 100000
set_option maxHeartbeats 4000000
namespace L2
open PySem PySem.Spec PyProof.Rows
/-! comprehensions that keep what a test lets by -/
theorem take_flt {ns : List Nat} {i n : Nat} {q : Nat → Bool} (h : ns[i]? = some n) : (ns.take (i + 1)).filter q = (ns.take i).filter q ++ (if q n = true then [n] else []) := by
  rw [List.take_add_one, h, List.filter_append]
  cases e : q n with
  | true => simp [e]
  | false => simp [e]
theorem comp_keepL {K : PySem.W.Frag} {a D : Addr} {ns : List Nat} {ix : List (Option Nat)} {tc : TT} {σ : St} {H : Hp} {Q : VK} (q : Nat → Bool) (cap : St) (hσ : around ix σ = none :: cap) (ha : SqL K H a (ns.map nV)) (hD : H D = none) (hn : ns.length ≤ 100000)
    (ht : ∀ x ∈ ns, ∀ (H' : Hp) (k : Bool → Hp → Prop), Same H H' → k (q x) H' → tc (some (nV x) :: cap) H' k)
    (hd : ∀ H', Same H H' → H' D = some (.lst ((ns.filter q).map nV)) → Q (.ref D) H') : CompW (Itl K a) D (around ix σ) (upd H D (.lst [])) (gName 0) tc (tVar 0) Q := by
  refine comp_list (xs := ns.map nV) (fun i σ H' => (∃ x : Option V, σ = x :: cap) ∧ Same H H' ∧ H' D = some (.lst (((ns.take i).filter q).map nV))) ⟨⟨none, hσ⟩, same_new hD _, upd_same⟩ (fun i σ H' _ h => h.2.1.seq ha) ?_ ?_
  · rintro i v σ H' hv ⟨⟨x, rfl⟩, SS, hD'⟩
    obtain ⟨n, hn', rfl⟩ : ∃ n, ns[i]? = some n ∧ v = nV n := by
      rw [List.getElem?_map] at hv
      cases e : ns[i]? with
      | none => rw [e] at hv; cases hv
      | some n => rw [e] at hv; exact ⟨n, rfl, (Option.some.inj hv).symm⟩
    refine ht n (List.mem_of_getElem? hn') H' _ SS ?_
    have et := take_flt (q := q) hn'
    have hb : (((ns.take i).filter q).map nV).length < sizeLine := by
      rw [List.length_map]
      have h1 := List.length_filter_le q (ns.take i)
      have h2 : (ns.take i).length ≤ ns.length := by rw [List.length_take]; omega
      exact Nat.lt_of_lt_of_le (show _ < 1000000 by omega) (small (Nat.le_refl _))
    cases e : q n with
    | true =>
      rw [e, if_pos rfl] at et
      refine iteT ⟨_, rfl, _, hD', hb, ⟨_, rfl⟩, same_upd SS hD, ?_⟩
      rw [upd_same, et, List.map_append]
      rfl
    | false =>
      rw [e, if_neg Bool.false_ne_true, List.append_nil] at et
      exact iteF ⟨⟨_, rfl⟩, SS, by rw [et]; exact hD'⟩
  · rintro σ H' ⟨_, SS, hD'⟩
    rw [List.length_map, List.take_length] at hD'
    exact hd H' SS hD'
/-! the first and the last of a list of places -/
theorem neS {a b : Nat} (h : a ≠ b) : ¬ V.str (S [a]) = V.str (S [b]) := fun z => h (List.cons.inj (S_inj (V.str.inj z))).1
theorem atI_lst {α : Type} {xs : List α} (h : 0 < xs.length) : atI xs (-1) = xs.getLast? := by
  unfold atI ixN
  rw [if_neg (by decide), if_pos (by omega), List.getLast?_eq_getElem?]
  show xs[(-1 + (xs.length : Int)).toNat]? = _
  rw [show (-1 + (xs.length : Int)).toNat = xs.length - 1 by omega]
theorem gtD (x p : Nat) : decide ((x : Int) > (p : Int)) = decide (p < x) := decide_eq_decide.mpr ⟨fun h => by omega, fun h => by omega⟩
end L2

set_option Elab.async false
set_option linter.all false
set_option maxRecDepth 100000
set_option maxHeartbeats 4000000
namespace L2
open PySem
abbrev cSigns : List Nat := [115, 105, 103, 110, 115]
abbrev cRows : List Nat := [114, 111, 119, 115]
abbrev cBlock : List Nat := [98, 108, 111, 99, 107]
abbrev St3 := Option (Nat × Nat × List Nat)
def StV (H : Hp) : St3 → V → Prop
  | none, v => v = .non
  | some (a, b, k), v => ∃ t, v = .ref t ∧ H t = some (.tup [nV a, nV b, .str (S k)])
theorem StV.same {H H' : Hp} {o : St3} {v : V} (h : StV H o v) (S' : Same H H') : StV H' o v := by
  rcases o with _ | ⟨a, b, k⟩
  · exact h
  · obtain ⟨t, h1, h2⟩ := h
    exact ⟨t, h1, S' _ _ h2⟩
end L2

set_option Elab.async false
set_option linter.all false
set_option maxRecDepth 100000
set_option maxHeartbeats 4000000
namespace L2
open PySem
theorem nV_int (ns : List Nat) : ns.map nV = (ns.map fun n : Nat => (n : Int)).map V.int := by rw [List.map_map]; rfl
theorem beg_mono {l : List Nat} : ∀ {i j : Nat}, i ≤ j → j ≤ l.count 10 + 1 → begAt l i ≤ begAt l j
  | i, 0, h, _ => by rw [Nat.le_zero.mp h]; exact Nat.le_refl _
  | i, j + 1, h, hj => by
    rcases Nat.lt_or_eq_of_le h with z | z
    · have h1 := beg_mono (l := l) (i := i) (j := j) (by omega) (by omega)
      have h2 := beg_le (l := l) (i := j) (by omega)
      show begAt l i ≤ endAt l j + 1
      omega
    · rw [z]; exact Nat.le_refl _
theorem head_le {l : List Nat} {p j : Nat} (hp : p ≤ l.length) (hj : j ≤ l.count 10 + 1) : begAt l j ≤ p ↔ j ≤ rno l p := by
  have hr := rno_le l hp
  obtain ⟨r1, _⟩ := row_is hp
  constructor
  · intro h
    rcases Nat.lt_or_ge (rno l p) j with z | z
    · have h1 := beg_mono (l := l) (i := rno l p + 1) (j := j) z hj
      have h2 := step_gt (r := rno l p) hp (Nat.le_refl _)
      have h3 : ¬ endAt l (rno l p) < p := fun y => Nat.lt_irrefl _ (h2.mp y)
      have h4 : begAt l (rno l p + 1) = endAt l (rno l p) + 1 := rfl
      omega
    · exact z
  · intro h
    have h1 := beg_mono (l := l) (i := j) (j := rno l p) h (by omega)
    exact Nat.le_trans h1 r1
def rowsB (l : List Nat) (a b : Nat) : Nat × Nat × List Nat := (rb l (min a b), min (re l (max a b) + 1) l.length, cRows)
end L2

set_option Elab.async false
set_option linter.all false
set_option maxRecDepth 100000
set_option maxHeartbeats 4000000
namespace My
open PySem L2

def top (i : Nat) : Stmt := PySem.Challenge.pw_modehand_k26_what_is_seen.main.body.getD i (.Pass ⟨0, 0, 0, 0⟩)
abbrev s_is_whole : Stmt := top 5
abbrev s_is_place : Stmt := top 6
abbrev s_is_row : Stmt := top 7
abbrev s_check_place : Stmt := top 8
abbrev s_check_row : Stmt := top 9
abbrev s_row_count : Stmt := top 10
abbrev s_row_of : Stmt := top 11
abbrev s_begin_of : Stmt := top 12
abbrev s_end_of : Stmt := top 13
abbrev s_behind_of : Stmt := top 14
abbrev s_opening_of : Stmt := top 26
abbrev s_between : Stmt := top 30
abbrev s_rows_between : Stmt := top 31
abbrev s_rows_from : Stmt := top 35
abbrev s_inside : Stmt := top 36
abbrev s_outside : Stmt := top 37
abbrev s_brackets_round : Stmt := top 39
abbrev s_seen_stretch : Stmt := top 43
abbrev s_stretch : Stmt := top 45
abbrev s__law_cell_at : Stmt := top 47
abbrev s__law_whole : Stmt := top 48
abbrev s__law_sign_by : Stmt := top 49
abbrev s__law_begins : Stmt := top 50
abbrev s__law_due : Stmt := top 51
abbrev s__law_same : Stmt := top 52
abbrev s__law_asked : Stmt := top 53
abbrev s_law : Stmt := top 54

def cell (ns : List Int) (k : Nat) : Int := ns.getD k 0
def sp_cell (K : PySem.W.Frag) : Sp := fun vs H Q _ => ∃ (a : Addr) (ns : List Int) (k : Nat), vs = [.ref a, .int (k : Int)] ∧ SqL K H a (ns.map V.int) ∧ Q (.int (cell ns k)) H
def sp_law (K : PySem.W.Frag) : Sp := fun vs H Q _ => ∃ (a : Addr) (ns : List Int), vs = [.ref a] ∧ SqL K H a (ns.map V.int) ∧ ns.length ≤ 63 ∧ ∀ H', Q (.bl true) H'
theorem cell_at {ns : List Int} {k : Nat} (h : (k : Int) < ((ns.map V.int).length : Int)) : atI (ns.map V.int) (k : Int) = some (.int (cell ns k)) := by
  rw [List.length_map] at h
  have hk : k < ns.length := by omega
  refine atI_nat ?_
  rw [List.getElem?_map, List.getElem?_eq_getElem hk]
  show some (V.int ns[k]) = some (V.int (cell ns k))
  unfold cell
  rw [List.getD_eq_getElem?_getD, List.getElem?_eq_getElem hk] <;> rfl
theorem cell_out {ns : List Int} {k : Nat} (h : ¬ (k : Int) < ((ns.map V.int).length : Int)) : cell ns k = 0 := by
  rw [List.length_map] at h
  unfold cell
  rw [List.getD_eq_getElem?_getD, List.getElem?_eq_none (by omega)] <;> rfl
section
variable {P : Program} {w : World} {K : PySem.W.Frag} {mg : Str → Option Value} {base : Heap} {f : Addr} {fd : FuncData}
theorem sc__law_cell_at : FnScope ["_law_script", "_law_k"] ["_law_script", "_law_k"] (defScope s__law_cell_at) := ⟨rfl, rfl, rfl, by decide +kernel, rfl, by decide +kernel, by decide +kernel⟩
theorem ok_cell (F : Fun K "_law_cell_at" "_law_cell_at" s__law_cell_at f fd) (m_len : mg "len" = none) : FnOk P w K mg base CX0 1 f fd ["_law_script", "_law_k"] (sp_cell K) := by
  refine F.ok sc__law_cell_at (fun vs H Q E h => ?_) (fun cdv A outer s H vs Q E hr h => ?_)
  · obtain ⟨a, ns, k, rfl, _⟩ := h
    rfl
  obtain ⟨a, ns, k, rfl, hS, q⟩ := h
  refine ⟨_, (pss_cons (ps_if (pt_cmpR op_lt (pv 1) (pe_callB call_len_seq (by rfl) m_len PySem.boot_len (pa_cons (pv 0) pa_nil)) (nomark _)) (pss_one (ps_ret (pe_ix ix_list (pv 0) (pv 1) (fun _ _ => rfl)))) pss_nil)
      (pss_one (ps_ret pe_int))), ?_⟩
  refine ⟨_, rfl, _, rfl, a, _, rfl, .inl hS, _, _, rfl, rfl, _, rfl, ?_⟩
  refine ite2 (fun c => ?_) (fun c => ?_)
  · have c' := of_decide_eq_true c
    exact ⟨_, rfl, _, rfl, a, _, _, _, rfl, rfl, hS, cell_at c', q⟩
  · have c' := of_decide_eq_false (Bool.eq_false_iff.mpr c)
    have q' := q
    rw [cell_out c'] at q'
    exact q'
end
abbrev lit1 : List Nat := [32, 33, 34, 35, 36, 38, 39, 40, 41, 42, 43, 44, 45, 46, 47, 48, 49, 50, 51, 52, 53, 54, 55, 56, 57, 58, 59, 60, 61, 62, 63, 64, 65, 66, 67, 68, 69, 70, 71, 72, 73, 74, 75, 76, 77, 78, 79, 80, 81, 82, 83, 84, 85, 86, 87, 88, 89, 90, 91, 92, 93, 94, 95, 96]
abbrev lit2 : List Nat := [97, 98, 99, 100, 101, 102, 103, 104, 105, 106, 107, 108, 109, 110, 111, 112, 113, 114, 115, 116, 117, 118, 119, 120, 121, 122, 123, 124, 125]
abbrev lit3 : List Nat := lit2 ++ [10]
def menus : List (List Nat) := [lit1 ++ lit3, [97, 98, 49, 32], [40, 41, 91, 93, 123, 125], [34, 32, 10]]

/-! the text of the laws k21 to k27: menus and MN, HI, MAX are said ahead -/

def sp_sign : Sp := fun vs H Q _ => ∃ n : Int, vs = [.int n] ∧ ∀ (c : Nat) (H' : Hp), c < 128 → Same H H' → Q (.str (S [c])) H'
def ones (l : List Nat) : List V := l.map fun c => V.str (S [c])
theorem ones_eq (l : List Nat) : ones l = (l.map fun c => [c]).map fun r => V.str (S r) := by unfold ones; rw [List.map_map]; rfl
theorem ones_flat (l : List Nat) : (l.map fun c => [c]).flatten = l := by
  induction l with
  | nil => rfl
  | cons c l ih => rw [List.map_cons, List.flatten_cons, ih]; rfl
theorem menu_ok : ∀ m ∈ menus, 0 < m.length ∧ m.length ≤ 1000 ∧ ∀ c ∈ m, c < 128 := by decide
theorem comp_signs {K : PySem.W.Frag} {a D : Addr} {ns : List Int} {ix : List (Option Nat)} {te : TE} {σ : St} {H : Hp} {Q : VK} (cap : St) (hσ : around ix σ = none :: cap) (ha : SqL K H a (ns.map V.int)) (hD : H D = none) (hn : ns.length ≤ 1000)
    (ht : ∀ (x : Int) (H' : Hp) (k : VK), Same H H' → (∀ (c : Nat) (H2 : Hp), c < 128 → Same H' H2 → k (.str (S [c])) H2) → te (some (.int x) :: cap) H' k)
    (hd : ∀ (l : List Nat) (H' : Hp), Same H H' → l.length = ns.length → (∀ c ∈ l, c < 128) → H' D = some (.lst (ones l)) → Q (.ref D) H') : CompW (Itl K a) D (around ix σ) (upd H D (.lst [])) (gName 0) tYes te Q := by
  refine comp_list (xs := ns.map V.int) (fun i σ H' => ∃ (x : Option V) (l : List Nat), σ = x :: cap ∧ Same H H' ∧ H' D = some (.lst (ones l)) ∧ l.length = i ∧ ∀ c ∈ l, c < 128) ⟨none, [], hσ, same_new hD _, upd_same, rfl, fun c h => by cases h⟩ (fun i σ H' _ h => by obtain ⟨_, _, _, S2, _⟩ := h; exact S2.seq ha) ?_ ?_
  · rintro i v σ H' hv ⟨x, l, rfl, S2, hD2, hl, hc⟩
    have hi : i < ns.length := by
      have := (List.getElem?_eq_some_iff.mp hv).1
      rwa [List.length_map] at this
    obtain ⟨n, hn', rfl⟩ : ∃ n, ns[i]? = some n ∧ v = V.int n := by
      rw [List.getElem?_map] at hv
      cases e : ns[i]? with
      | none => rw [e] at hv; cases hv
      | some n => rw [e] at hv; exact ⟨n, rfl, (Option.some.inj hv).symm⟩
    refine yes (ht n H' _ S2 fun c H2 hc' S3 => ⟨_, S3 _ _ hD2, ?_, ?_⟩)
    · unfold ones
      rw [List.length_map, hl]
      exact Nat.lt_of_lt_of_le hi (small (by omega))
    · refine ⟨_, l ++ [c], rfl, same_upd (S2.trans S3) hD, ?_, by rw [List.length_append, hl]; rfl, fun c2 h2 => ?_⟩
      · rw [upd_same]
        unfold ones
        rw [List.map_append]
        rfl
      · rcases List.mem_append.mp h2 with z | z
        · exact hc _ z
        · rw [List.mem_singleton] at z; subst z; exact hc'
  · rintro σ H' ⟨x, l, rfl, S2, hD2, hl, hc⟩
    rw [List.length_map] at hl
    exact hd l H' S2 hl hc hD2
section
variable {P : Program} {w : World} {K : PySem.W.Frag} {mg : Str → Option Value} {base : Heap} {f : Addr} {fd : FuncData}
theorem sc__law_sign_by : FnScope ["_law_cell", "_law_some", "_law_menus", "_law_menu"] ["_law_cell"] (defScope s__law_sign_by) := ⟨rfl, rfl, rfl, by decide +kernel, rfl, by decide +kernel, by decide +kernel⟩
theorem ok_sign (F : Fun K "_law_sign_by" "_law_sign_by" s__law_sign_by f fd) (m_len : mg "len" = none) : FnOk P w K mg base CX0 1 f fd ["_law_cell"] sp_sign := by
  refine F.ok sc__law_sign_by (fun vs H Q E h => ?_) (fun cdv A outer s H vs Q E hr h => ?_)
  · obtain ⟨n, rfl, _⟩ := h
    rfl
  obtain ⟨n, rfl, q⟩ := h
  refine ⟨_, (pss_cons (ps_set (i := 1) sc__law_sign_by.nd rfl (Or.inl rfl) pe_str)
      (pss_cons (ps_set (i := 1) sc__law_sign_by.nd rfl (Or.inl rfl) (pe_op op_adS (pv 1) pe_str))
      (pss_cons (ps_set (i := 2) sc__law_sign_by.nd rfl (Or.inl rfl) (pe_lst (pa_cons (pv 1) (pa_cons pe_str (pa_cons pe_str (pa_cons pe_str pa_nil))))))
      (pss_cons (ps_set (i := 3) sc__law_sign_by.nd rfl (Or.inl rfl) (pe_ix ix_list (pv 2) (pe_op op_mod (pv 0) pe_int) (fun _ _ => rfl)))
      (pss_one (ps_ret (pe_ix ix_S (pv 3) (pe_op op_mod (pe_op op_mod (pe_op op_mul (pe_op op_fdiv (pv 0) pe_int) pe_int) pe_int) (pe_callB call_lenS (by rfl) m_len PySem.boot_len (pa_cons (pv 3) pa_nil))) (fun _ _ => rfl)))))))), ?_⟩
  refine ⟨_, rfl, lit1, lit3, rfl, rfl, small (by decide), ?_⟩
  refine ⟨_, rfl, small (by decide), fun a ha => ?_⟩
  have h0 : 0 ≤ n % 4 := Int.emod_nonneg _ (by decide)
  have h1 : n % 4 < 4 := Int.emod_lt_of_pos _ (by decide)
  have hz : (n % 4).toNat < (menus.map fun r => V.str (S r)).length := by rw [List.length_map]; show _ < 4; omega
  have hat := atI_in (menus.map fun r => V.str (S r)) h0 hz
  obtain ⟨m, hm, em⟩ : ∃ m, m ∈ menus ∧ (menus.map fun r => V.str (S r))[(n % 4).toNat] = V.str (S m) := ⟨menus[(n % 4).toNat]'(by rw [List.length_map] at hz; exact hz), List.getElem_mem _, by rw [List.getElem_map]⟩
  rw [em] at hat
  obtain ⟨m1, m2, m3⟩ := menu_ok m hm
  have hpos : (0 : Int) < (m.length : Int) := by omega
  refine ⟨_, rfl, _, rfl, _, _, rfl, rfl, (by show (0 : Int) < 4; decide), a, _, _, _, rfl, rfl, SqL.of upd_same, hat, ?_⟩
  have g0 : 0 ≤ n / 4 * 48271 % 2147483647 % (m.length : Int) := Int.emod_nonneg _ (by omega)
  have g1 : n / 4 * 48271 % 2147483647 % (m.length : Int) < m.length := Int.emod_lt_of_pos _ hpos
  have gz : (n / 4 * 48271 % 2147483647 % (m.length : Int)).toNat < m.length := by omega
  exact ⟨_, rfl, _, rfl, _, _, rfl, rfl, ⟨by decide, by decide⟩, _, _, rfl, rfl, .inr ⟨by decide, by decide⟩, _, _, rfl, rfl, (by show (0 : Int) < 2147483647; decide), _, rfl, m, rfl, small (by omega), _, _, rfl, rfl, hpos, m, _, _, rfl, rfl, small (by omega), atI_in m g0 gz, q _ _ (m3 _ (List.getElem_mem _)) (same_new ha _)⟩
end

/-! modehand.rows, where the place or the row is one of the text: nothing is refused -/

def inP (l : List Nat) (p : Int) : Bool := decide (0 ≤ p) && decide (p ≤ l.length)
theorem inP_iff {l : List Nat} {p : Int} : inP l p = true ↔ 0 ≤ p ∧ p ≤ l.length := by unfold inP; simp
def inR (l : List Nat) (r : Int) : Bool := decide (0 ≤ r) && decide (r < (l.count 10 : Int) + 1)
theorem inR_iff {l : List Nat} {r : Int} : inR l r = true ↔ 0 ≤ r ∧ r < (l.count 10 : Int) + 1 := by unfold inR; simp
def sp_whole : Sp := fun vs H Q _ => (∃ i : Int, vs = [.int i] ∧ Q (.bl true) H) ∨ (vs = [.non] ∧ Q (.bl false) H)
theorem kit_ni {K : PySem.W.Frag} : PySem.W.kitOne K (.type "NoneType") (.type "int") = some false := by first | rfl | decide +kernel
def sp_is_place : Sp := fun vs H Q _ => (∃ (l : List Nat) (p : Int), vs = [.str (S l), .int p] ∧ l.length ≤ 1000000 ∧ Q (.bl (inP l p)) H) ∨ (∃ l : List Nat, vs = [.str (S l), .non] ∧ Q (.bl false) H)
def sp_row_count : Sp := fun vs H Q _ => ∃ l : List Nat, vs = [.str (S l)] ∧ Q (.int (l.count 10 + 1)) H
def sp_is_row : Sp := fun vs H Q _ => ∃ (l : List Nat) (r : Int), vs = [.str (S l), .int r] ∧ Q (.bl (inR l r)) H
def sp_chk_p : Sp := fun vs H Q _ => ∃ (l : List Nat) (p : Nat), vs = [.str (S l), .int (p : Int)] ∧ l.length ≤ 100000 ∧ p ≤ l.length ∧ Q .non H
def sp_chk_r : Sp := fun vs H Q _ => ∃ (l : List Nat) (r : Nat), vs = [.str (S l), .int (r : Int)] ∧ r ≤ l.count 10 ∧ Q .non H
def sp_row_in : Sp := fun vs H Q _ => ∃ (l : List Nat) (p : Nat), vs = [.str (S l), .int (p : Int)] ∧ l.length ≤ 100000 ∧ p ≤ l.length ∧ Q (.int (rno l p : Nat)) H
def sp_beg_in : Sp := fun vs H Q _ => ∃ (l : List Nat) (r : Nat), vs = [.str (S l), .int (r : Int)] ∧ l.length ≤ 100000 ∧ r ≤ l.count 10 ∧ ∀ H', Same H H' → Q (.int (begAt l r : Nat)) H'
def sp_end_in : Sp := fun vs H Q _ => ∃ (l : List Nat) (r : Nat), vs = [.str (S l), .int (r : Int)] ∧ l.length ≤ 100000 ∧ r ≤ l.count 10 ∧ ∀ H', Same H H' → Q (.int (endAt l r : Nat)) H'
def sp_bhd_in : Sp := fun vs H Q _ => ∃ (l : List Nat) (r : Nat), vs = [.str (S l), .int (r : Int)] ∧ l.length ≤ 100000 ∧ r ≤ l.count 10 ∧ ∀ H', Same H H' → Q (.int (min (endAt l r + 1) l.length : Nat)) H'
section
variable {P : Program} {w : World} {K : PySem.W.Frag} {mg : Str → Option Value} {base : Heap} {f : Addr} {fd : FuncData}
theorem sc_is_whole : FnScope ["value"] ["value"] (defScope s_is_whole) := ⟨rfl, rfl, rfl, by decide +kernel, rfl, by decide +kernel, by decide +kernel⟩
theorem ok_is_whole (F : Fun K "is_whole" "is_whole" s_is_whole f fd) (m_isinstance : mg "isinstance" = none) (m_int : mg "int" = none) (m_bool : mg "bool" = none) : FnOk P w K mg base CX0 1 f fd ["value"] sp_whole := by
  refine F.ok sc_is_whole (fun vs H Q E h => ?_) (fun cdv A outer s H vs Q E hr h => ?_)
  · rcases h with ⟨x, rfl, _⟩ | ⟨rfl, _⟩ <;> rfl
  refine ⟨_, (pss_one (ps_ret (pe_and (pe_callB call_isi (by rfl) m_isinstance boot_isi (pa_cons (pv 0) (pa_cons (pe_bltn (v := .ty "int") (by rfl) m_int boot_int rfl) pa_nil))) (pe_one (pe_not (pe_callB call_isi (by rfl) m_isinstance boot_isi (pa_cons (pv 0) (pa_cons (pe_bltn (v := .ty "bool") (by rfl) m_bool boot_bool rfl) pa_nil)))))))), ?_⟩
  rcases h with ⟨x, rfl, q⟩ | ⟨rfl, q⟩
  · refine ⟨_, rfl, _, _, _, _, rfl, ⟨_, .inl rfl⟩, .int x, kit_ii, _, rfl, iteT ?_⟩
    exact ⟨_, rfl, _, _, _, _, rfl, ⟨_, .inl rfl⟩, .int x, kit_ib, _, rfl, q⟩
  · exact ⟨_, rfl, _, _, _, _, rfl, ⟨_, .inl rfl⟩, .non, kit_ni, _, rfl, iteF q⟩
theorem sc_is_place : FnScope ["text", "place"] ["text", "place"] (defScope s_is_place) := ⟨rfl, rfl, rfl, by decide +kernel, rfl, by decide +kernel, by decide +kernel⟩
theorem ok_is_place (F : Fun K "is_place" "is_place" s_is_place f fd) (O_is_whole : Own P w K mg base CX0 1 "is_whole" ["value"] sp_whole) (m_len : mg "len" = none) : FnOk P w K mg base CX0 2 f fd ["text", "place"] sp_is_place := by
  refine F.ok sc_is_place (fun vs H Q E h => ?_) (fun cdv A outer s H vs Q E hr h => ?_)
  · rcases h with ⟨l, p, rfl, _⟩ | ⟨l, rfl, _⟩ <;> rfl
  refine ⟨_, (pss_one (ps_ret (pe_and (pe_own O_is_whole hr (by rfl) pass0 (pa_cons (pv 1) pa_nil)) (pe_one (pe_chain op_le op_le pe_int (pv 1) (pe_callB call_lenS (by rfl) m_len PySem.boot_len (pa_cons (pv 0) pa_nil))))))), ?_⟩
  rcases h with ⟨l, p, rfl, hl, q⟩ | ⟨l, rfl, q⟩
  case inr => exact ⟨_, rfl, .inr ⟨rfl, _, rfl, iteF q⟩⟩
  refine ⟨_, rfl, .inl ⟨_, rfl, _, rfl, iteT ?_⟩⟩
  refine ⟨_, rfl, _, _, rfl, rfl, _, rfl, ?_⟩
  unfold inP at q
  cases e : decide (0 ≤ p) with
  | true => rw [e] at q; exact iteT ⟨_, rfl, l, rfl, small hl, _, _, rfl, rfl, q⟩
  | false => rw [e] at q; exact iteF q
theorem sc_row_count : FnScope ["text"] ["text"] (defScope s_row_count) := ⟨rfl, rfl, rfl, by decide +kernel, rfl, by decide +kernel, by decide +kernel⟩
theorem ok_row_count (F : Fun K "row_count" "row_count" s_row_count f fd) : FnOk P w K mg base CX0 1 f fd ["text"] sp_row_count := by
  refine F.ok sc_row_count (fun vs H Q E h => ?_) (fun cdv A outer s H vs Q E hr h => ?_)
  · obtain ⟨l, rfl, _⟩ := h
    rfl
  obtain ⟨l, rfl, q⟩ := h
  refine ⟨_, (pss_one (ps_ret (pe_op op_add (pe_bm PySem.F.plainAttrs_str PySem.F.slot_str_count PySem.F.type_str_count mt_count (pv 0) (pa_cons pe_str pa_nil)) pe_int))), ?_⟩
  exact ⟨_, rfl, rfl, l, 10, rfl, rfl, _, _, rfl, rfl, q⟩
theorem sc_is_row : FnScope ["text", "row"] ["text", "row"] (defScope s_is_row) := ⟨rfl, rfl, rfl, by decide +kernel, rfl, by decide +kernel, by decide +kernel⟩
theorem ok_is_row (F : Fun K "is_row" "is_row" s_is_row f fd) (O_is_whole : Own P w K mg base CX0 1 "is_whole" ["value"] sp_whole) (O_row_count : Own P w K mg base CX0 1 "row_count" ["text"] sp_row_count) : FnOk P w K mg base CX0 2 f fd ["text", "row"] sp_is_row := by
  refine F.ok sc_is_row (fun vs H Q E h => ?_) (fun cdv A outer s H vs Q E hr h => ?_)
  · obtain ⟨l, p, rfl, _⟩ := h
    rfl
  obtain ⟨l, p, rfl, q⟩ := h
  refine ⟨_, (pss_one (ps_ret (pe_and (pe_own O_is_whole hr (by rfl) pass0 (pa_cons (pv 1) pa_nil)) (pe_one (pe_chain op_le op_lt pe_int (pv 1) (pe_own O_row_count hr (by rfl) pass0 (pa_cons (pv 0) pa_nil))))))), ?_⟩
  refine ⟨_, rfl, .inl ⟨_, rfl, _, rfl, iteT ?_⟩⟩
  refine ⟨_, rfl, _, _, rfl, rfl, _, rfl, ?_⟩
  unfold inR at q
  cases e : decide (0 ≤ p) with
  | true => rw [e] at q; exact iteT ⟨_, rfl, l, rfl, _, _, rfl, rfl, q⟩
  | false => rw [e] at q; exact iteF q
theorem sc_check_place : FnScope ["text", "place"] ["text", "place"] (defScope s_check_place) := ⟨rfl, rfl, rfl, by decide +kernel, rfl, by decide +kernel, by decide +kernel⟩
theorem ok_chk_p (F : Fun K "check_place" "check_place" s_check_place f fd) (O_is_place : Own P w K mg base CX0 2 "is_place" ["text", "place"] sp_is_place) : FnOk P w K mg base CX0 3 f fd ["text", "place"] sp_chk_p := by
  refine F.ok sc_check_place (fun vs H Q E h => ?_) (fun cdv A outer s H vs Q E hr h => ?_)
  · obtain ⟨l, p, rfl, _⟩ := h
    rfl
  obtain ⟨l, p, rfl, hl, hp, q⟩ := h
  refine ⟨_, (pss_one (ps_if (pt_not (pt_val (pe_own O_is_place hr (by rfl) pass0 (pa_cons (pv 0) (pa_cons (pv 1) pa_nil))))) pss_never pss_nil)), ?_⟩
  refine ⟨_, rfl, _, rfl, .inl ⟨l, _, rfl, by omega, _, rfl, ?_⟩⟩
  rw [inP_iff.mpr ⟨by omega, by omega⟩]
  exact iteF q
theorem sc_check_row : FnScope ["text", "row"] ["text", "row"] (defScope s_check_row) := ⟨rfl, rfl, rfl, by decide +kernel, rfl, by decide +kernel, by decide +kernel⟩
theorem ok_chk_r (F : Fun K "check_row" "check_row" s_check_row f fd) (O_is_row : Own P w K mg base CX0 2 "is_row" ["text", "row"] sp_is_row) : FnOk P w K mg base CX0 3 f fd ["text", "row"] sp_chk_r := by
  refine F.ok sc_check_row (fun vs H Q E h => ?_) (fun cdv A outer s H vs Q E hr h => ?_)
  · obtain ⟨l, p, rfl, _⟩ := h
    rfl
  obtain ⟨l, r, rfl, hr', q⟩ := h
  refine ⟨_, (pss_one (ps_if (pt_not (pt_val (pe_own O_is_row hr (by rfl) pass0 (pa_cons (pv 0) (pa_cons (pv 1) pa_nil))))) pss_never pss_nil)), ?_⟩
  refine ⟨_, rfl, _, rfl, l, _, rfl, _, rfl, ?_⟩
  rw [inR_iff.mpr ⟨by omega, by omega⟩]
  exact iteF q
theorem sc_row_of : FnScope ["text", "place"] ["text", "place"] (defScope s_row_of) := ⟨rfl, rfl, rfl, by decide +kernel, rfl, by decide +kernel, by decide +kernel⟩
theorem ok_row_of (F : Fun K "row_of" "row_of" s_row_of f fd) (O_check_place : Own P w K mg base CX0 3 "check_place" ["text", "place"] sp_chk_p) : FnOk P w K mg base CX0 4 f fd ["text", "place"] sp_row_in := by
  refine F.ok sc_row_of (fun vs H Q E h => ?_) (fun cdv A outer s H vs Q E hr h => ?_)
  · obtain ⟨l, p, rfl, _⟩ := h
    rfl
  obtain ⟨l, p, rfl, hl, hp, q⟩ := h
  refine ⟨_, (pss_cons (ps_expr (pe_own O_check_place hr (by rfl) pass0 (pa_cons (pv 0) (pa_cons (pv 1) pa_nil))))
      (pss_one (ps_ret (pe_bm PySem.F.plainAttrs_str PySem.F.slot_str_count PySem.F.type_str_count mt_count (pe_slice sl_str (pv 0) po_none (po_some (pv 1))) (pa_cons pe_str pa_nil))))), ?_⟩
  unfold rno at q
  rw [← cutL_m] at q
  exact ⟨_, rfl, _, rfl, l, p, rfl, hl, hp, _, rfl, _, rfl, _, rfl, l, rfl, small (by omega), rfl, _, 10, rfl, rfl, q⟩
theorem sc_begin_of : FnScope ["text", "row"] ["text", "row"] (defScope s_begin_of) := ⟨rfl, rfl, rfl, by decide +kernel, rfl, by decide +kernel, by decide +kernel⟩
theorem ok_begin_of (F : Fun K "begin_of" "begin_of" s_begin_of f fd) (O_check_row : Own P w K mg base CX0 3 "check_row" ["text", "row"] sp_chk_r) (m_len : mg "len" = none) : FnOk P w K mg base CX0 4 f fd ["text", "row"] sp_beg_in := by
  refine F.ok sc_begin_of (fun vs H Q E h => ?_) (fun cdv A outer s H vs Q E hr h => ?_)
  · obtain ⟨l, p, rfl, _⟩ := h
    rfl
  obtain ⟨l, r, rfl, hl, hr', q⟩ := h
  refine ⟨_, (pss_cons (ps_expr (pe_own O_check_row hr (by rfl) pass0 (pa_cons (pv 0) (pa_cons (pv 1) pa_nil))))
      (pss_one (ps_ret (pe_op op_sub (pe_callB call_lenS (by rfl) m_len PySem.boot_len (pa_cons (pv 0) pa_nil)) (pe_callB call_lenS (by rfl) m_len PySem.boot_len (pa_cons (pe_ix ix_list (pe_bm PySem.F.plainAttrs_str PySem.F.slot_str_split PySem.F.type_str_split mt_splitM (pv 0) (pa_cons pe_str (pa_cons (pv 1) pa_nil))) (pv 1) (fun _ _ => rfl)) pa_nil)))))), ?_⟩
  have hb := beg_le (l := l) (i := r) (by omega)
  have he := end_le (l := l) (i := r) (by omega)
  have hat : atI ((splitM l r).map fun r => V.str (S r)) (r : Int) = some (.str (S (l.drop (begAt l r)))) := atI_nat (by rw [List.getElem?_map, splitM_at hr']; rfl)
  refine ⟨_, rfl, _, rfl, l, r, rfl, hr', _, rfl, l, rfl, small (by omega), _, rfl, rfl, _, rfl, l, r, rfl, rfl, hr', hl, fun p hp => ?_⟩
  refine ⟨_, rfl, p, _, _, _, rfl, rfl, SqL.of upd_same, hat, _, rfl, small (by rw [List.length_drop]; omega), _, _, rfl, rfl, ?_⟩
  have z : ((l.length : Nat) : Int) - ((l.drop (begAt l r)).length : Int) = ((begAt l r : Nat) : Int) := by rw [List.length_drop]; omega
  show Q (V.int (((l.length : Nat) : Int) - ((l.drop (begAt l r)).length : Int))) _
  rw [z]
  exact q _ (same_new hp _)
theorem sc_end_of : FnScope ["text", "row", "end"] ["text", "row"] (defScope s_end_of) := ⟨rfl, rfl, rfl, by decide +kernel, rfl, by decide +kernel, by decide +kernel⟩
theorem ok_end_of (F : Fun K "end_of" "end_of" s_end_of f fd) (O_begin_of : Own P w K mg base CX0 4 "begin_of" ["text", "row"] sp_beg_in) (m_len : mg "len" = none) : FnOk P w K mg base CX0 5 f fd ["text", "row"] sp_end_in := by
  refine F.ok sc_end_of (fun vs H Q E h => ?_) (fun cdv A outer s H vs Q E hr h => ?_)
  · obtain ⟨l, p, rfl, _⟩ := h
    rfl
  obtain ⟨l, r, rfl, hl, hr', q⟩ := h
  refine ⟨_, (pss_cons (ps_set (i := 2) sc_end_of.nd rfl (Or.inl rfl) (pe_bm PySem.F.plainAttrs_str PySem.F.slot_str_find PySem.F.type_str_find mt_findN (pv 0) (pa_cons pe_str (pa_cons (pe_own O_begin_of hr (by rfl) pass0 (pa_cons (pv 0) (pa_cons (pv 1) pa_nil))) pa_nil))))
      (pss_one (ps_ret (pe_ifExp (pt_cmpR op_lt (pv 2) pe_int (nomark _)) (pe_callB call_lenS (by rfl) m_len PySem.boot_len (pa_cons (pv 0) pa_nil)) (pv 2))))), ?_⟩
  refine ⟨_, rfl, rfl, _, rfl, _, rfl, l, r, rfl, hl, hr', fun H1 S1 => ⟨l, _, rfl, rfl, ?_⟩⟩
  have he := end_le (l := l) (i := r) (by omega)
  rcases ffN_row hr' with ⟨e, e2⟩ | e
  · show gName _ (V.int (ffN l (begAt l r))) _ _ _
    rw [e]
    refine ⟨_, rfl, _, _, rfl, rfl, _, rfl, iteT ⟨_, rfl, l, rfl, small (by omega), ?_⟩⟩
    rw [← e2]
    exact q _ S1
  · show gName _ (V.int (ffN l (begAt l r))) _ _ _
    rw [e]
    have ed : decide (((endAt l r : Nat) : Int) < 0) = false := decide_eq_false (by omega)
    refine ⟨_, rfl, _, _, rfl, rfl, _, rfl, ?_⟩
    rw [ed]
    exact iteF ⟨_, rfl, q _ S1⟩

theorem sc_behind_of : FnScope ["text", "row"] ["text", "row"] (defScope s_behind_of) := ⟨rfl, rfl, rfl, by decide +kernel, rfl, by decide +kernel, by decide +kernel⟩
theorem ok_bhd (F : Fun K "behind_of" "behind_of" s_behind_of f fd) (O_end_of : Own P w K mg base CX0 5 "end_of" ["text", "row"] sp_end_in) (m_len : mg "len" = none) (m_min : mg "min" = none) : FnOk P w K mg base CX0 6 f fd ["text", "row"] sp_bhd_in := by
  refine F.ok sc_behind_of (fun vs H Q E h => ?_) (fun cdv A outer s H vs Q E hr h => ?_)
  · obtain ⟨l, p, rfl, _⟩ := h
    rfl
  obtain ⟨l, r, rfl, hl, hr', q⟩ := h
  refine ⟨_, (pss_one (ps_ret (pe_callB (call_min2 (by rfl)) (by rfl) m_min boot_min (pa_cons (pe_op op_add (pe_own O_end_of hr (by rfl) pass0 (pa_cons (pv 0) (pa_cons (pv 1) pa_nil))) pe_int) (pa_cons (pe_callB call_lenS (by rfl) m_len PySem.boot_len (pa_cons (pv 0) pa_nil)) pa_nil))))), ?_⟩
  refine ⟨_, rfl, _, rfl, l, r, rfl, hl, hr', fun H1 S1 => ⟨_, _, rfl, rfl, _, rfl, l, rfl, small (by omega), _, _, rfl, ?_⟩⟩
  have q' := q H1 S1
  have z : (if (l.length : Int) < ((endAt l r : Nat) : Int) + 1 then (l.length : Int) else ((endAt l r : Nat) : Int) + 1) = ((min (endAt l r + 1) l.length : Nat) : Int) := by split <;> omega
  show Q (V.int (if (l.length : Int) < ((endAt l r : Nat) : Int) + 1 then (l.length : Int) else ((endAt l r : Nat) : Int) + 1)) H1
  rw [z]
  exact q'

end
end My

set_option Elab.async false
set_option linter.all false
set_option maxRecDepth 100000
set_option maxHeartbeats 4000000
namespace My
open PySem L2



/-! the law's own heads of rows -/
def heL (l : List Nat) (n : Nat) : List Nat := (List.range' 0 n).map (begAt l)
theorem heL_len (l : List Nat) (n : Nat) : (heL l n).length = n := by unfold heL; rw [List.length_map, List.length_range']
theorem heL_succ (l : List Nat) (n : Nat) : heL l (n + 1) = heL l n ++ [begAt l n] := by
  unfold heL
  rw [List.range'_1_concat, List.map_append, Nat.zero_add]
  rfl
theorem heL_last (l : List Nat) (n : Nat) : (heL l (n + 1)).getLast? = some (begAt l n) := by rw [heL_succ]; simp
def sp_heads : Sp := fun vs H Q _ => ∃ l : List Nat, vs = [.str (S l)] ∧ l.length ≤ 1000 ∧ ∀ (D : Addr) (H' : Hp), Same H H' → H' D = some (.lst ((heL l (l.count 10 + 2)).map nV)) → Q (.ref D) H'
section
variable {P : Program} {w : World} {K : PySem.W.Frag} {mg : Str → Option Value} {base : Heap} {f : Addr} {fd : FuncData}
theorem sc__law_begins : FnScope ["_law_text", "_law_heads", "_law_row"] ["_law_text"] (defScope s__law_begins) := ⟨rfl, rfl, rfl, by decide +kernel, rfl, by decide +kernel, by decide +kernel⟩
theorem ok_heads (F : Fun K "_law_begins" "_law_begins" s__law_begins f fd) (m_len : mg "len" = none) : FnOk P w K mg base CX0 1 f fd ["_law_text"] sp_heads := by
  refine F.ok sc__law_begins (fun vs H Q E h => ?_) (fun cdv A outer s H vs Q E hr h => ?_)
  · obtain ⟨l, rfl, _⟩ := h
    rfl
  obtain ⟨l, rfl, hl, q⟩ := h
  have hcl := count_le l
  refine ⟨_, (pss_cons (ps_set (i := 1) sc__law_begins.nd rfl (Or.inl rfl) (pe_lst (pa_cons pe_int pa_nil)))
      (pss_cons (ps_for PassesOwn.never rfl (pi_list (pe_bm PySem.F.plainAttrs_str PySem.F.slot_str_split PySem.F.type_str_split mt_split (pv 0) (pa_cons pe_str pa_nil))) (pg_name (i := 2) sc__law_begins.nd rfl (Or.inl rfl)) (pss_one (ps_expr (pe_bm PySem.F.plainAttrs_list PySem.F.slot_list_append PySem.F.type_list_append mt_append (pv 1) (pa_cons (pe_op op_add (pe_op op_add (pe_ix ix_list (pv 1) (pe_un un_neg pe_int) (fun _ _ => rfl)) (pe_callB call_lenS (by rfl) m_len PySem.boot_len (pa_cons (pv 2) pa_nil))) pe_int) pa_nil)))))
      (pss_one (ps_ret (pv 1))))), ?_⟩
  refine ⟨(by show 1 ≤ sizeLine; decide), fun A hA => ?_⟩
  have S1 := same_new hA (.lst [.int 0])
  have hA1 : upd H A (.lst [.int 0]) A = some (.lst ((heL l 1).map nV)) := upd_same
  generalize upd H A (.lst [.int 0]) = H1 at S1 hA1
  refine ⟨_, rfl, rfl, l, rfl, rfl, by omega, fun R hR => ⟨R, rfl, ⟨_, SqL.of upd_same⟩, ?_⟩⟩
  have S2 := same_new hR (.lst ((splitL l).map fun r => V.str (S r)))
  have hA2 := S2 _ _ hA1
  have nAR : A ≠ R := ne_of_none hA1 hR
  have hR2 : upd H1 R (.lst ((splitL l).map fun r => V.str (S r))) R = some (.lst ((splitL l).map fun r => V.str (S r))) := upd_same
  generalize upd H1 R (.lst ((splitL l).map fun r => V.str (S r))) = H2 at S2 hA2 hR2
  have S12 := S1.trans S2
  refine for_list (xs := (splitL l).map fun r => V.str (S r)) (fun i σ H' => (∃ x : Option V, σ = [some (.str (S l)), some (.ref A), x]) ∧ Same H H' ∧ H' R = some (.lst ((splitL l).map fun r => V.str (S r))) ∧ H' A = some (.lst ((heL l (i + 1)).map nV))) ⟨⟨none, rfl⟩, S12, hR2, hA2⟩ (fun i σ H' _ h => SqL.of h.2.2.1) ?_ ?_
  · rintro i v σ H' hv ⟨⟨x, rfl⟩, SS, hR', hA'⟩
    have hi : i < l.count 10 + 1 := by
      have := (List.getElem?_eq_some_iff.mp hv).1
      rw [List.length_map, splitL_len] at this
      exact this
    obtain ⟨rr, er, el⟩ := splitL_at (l := l) (i := i) hi
    have ev : v = .str (S rr) := by
      rw [List.getElem?_map, er] at hv
      exact (Option.some.inj hv).symm
    subst ev
    have hb := beg_le (l := l) (i := i) (by omega)
    have he := end_le (l := l) (i := i) (by omega)
    have hat : atI ((heL l (i + 1)).map nV) (-1) = some (nV (begAt l i)) := by
      rw [atI_lst (by rw [List.length_map, heL_len]; omega), List.getLast?_map, heL_last]
      rfl
    refine ⟨_, rfl, .inl ⟨rfl, _, SqL.of hA'⟩, _, rfl, _, rfl, A, _, _, _, rfl, rfl, SqL.of hA', hat, _, rfl, rr, rfl, small (by omega), _, _, rfl, rfl, _, _, rfl, rfl, A, _, _, rfl, rfl, hA', ?_, ⟨_, rfl⟩, same_upd SS hA, (upd_ne (Ne.symm nAR)).trans hR', ?_⟩
    · rw [List.length_map, heL_len]
      exact Nat.lt_of_lt_of_le (show _ < 1000000 by omega) (small (Nat.le_refl _))
    · rw [upd_same, heL_succ l (i + 1), List.map_append]
      show some (HO.lst (_ ++ [V.int (((begAt l i : Nat) : Int) + (rr.length : Int) + 1)])) = some (HO.lst (_ ++ [V.int ((begAt l (i + 1) : Nat) : Int)]))
      rw [show ((begAt l (i + 1) : Nat) : Int) = ((begAt l i : Nat) : Int) + (rr.length : Int) + 1 from by show ((endAt l i + 1 : Nat) : Int) = _; omega]
  · rintro σ H' ⟨⟨x, rfl⟩, SS, hR', hA'⟩
    rw [List.length_map, splitL_len] at hA'
    exact ⟨_, rfl, q A H' SS hA'⟩
end

/-! the greatest head not behind a place, the least behind it -/
theorem he_mem {l : List Nat} {n : Nat} : n ∈ heL l (l.count 10 + 2) ↔ ∃ j, j ≤ l.count 10 + 1 ∧ begAt l j = n := by
  unfold heL
  rw [List.mem_map]
  constructor
  · rintro ⟨j, h1, h2⟩
    have := List.mem_range'_1.mp h1
    exact ⟨j, by omega, h2⟩
  · rintro ⟨j, h1, h2⟩
    exact ⟨j, List.mem_range'_1.mpr ⟨by omega, by omega⟩, h2⟩
theorem he_max {l : List Nat} {p : Nat} (hp : p ≤ l.length) {m : Int} (h1 : m ∈ (((heL l (l.count 10 + 2)).filter fun x => decide (x ≤ p)).map fun n : Nat => (n : Int))) (h2 : ∀ n ∈ (((heL l (l.count 10 + 2)).filter fun x => decide (x ≤ p)).map fun n : Nat => (n : Int)), n ≤ m) : m = (rb l p : Nat) := by
  have hr := rno_le l hp
  obtain ⟨n, hn, rfl⟩ := List.mem_map.mp h1
  obtain ⟨hn1, hn2⟩ := List.mem_filter.mp hn
  obtain ⟨j, hj, rfl⟩ := he_mem.mp hn1
  have hjr := (head_le hp hj).mp (of_decide_eq_true hn2)
  have h3 := beg_mono (l := l) hjr (by omega)
  have h4 := h2 ((rb l p : Nat) : Int) (List.mem_map.mpr ⟨rb l p, List.mem_filter.mpr ⟨he_mem.mpr ⟨rno l p, by omega, rfl⟩, decide_eq_true (row_is hp).1⟩, rfl⟩)
  have h5 : rb l p = begAt l (rno l p) := rfl
  omega
theorem he_min {l : List Nat} {p : Nat} (hp : p ≤ l.length) {m : Int} (h1 : m ∈ (((heL l (l.count 10 + 2)).filter fun x => decide (p < x)).map fun n : Nat => (n : Int))) (h2 : ∀ n ∈ (((heL l (l.count 10 + 2)).filter fun x => decide (p < x)).map fun n : Nat => (n : Int)), m ≤ n) : m = (re l p + 1 : Nat) := by
  have hr := rno_le l hp
  obtain ⟨n, hn, rfl⟩ := List.mem_map.mp h1
  obtain ⟨hn1, hn2⟩ := List.mem_filter.mp hn
  obtain ⟨j, hj, rfl⟩ := he_mem.mp hn1
  have hlt := of_decide_eq_true hn2
  have hjr : rno l p + 1 ≤ j := by
    rcases Nat.lt_or_ge (rno l p) j with z | z
    · exact z
    · have := (head_le hp hj).mpr z; omega
  have h3 := beg_mono (l := l) hjr hj
  have e : begAt l (rno l p + 1) = re l p + 1 := rfl
  have h6 : p < begAt l (rno l p + 1) := by have := (row_is hp).2.1; omega
  have h4 := h2 ((re l p + 1 : Nat) : Int) (List.mem_map.mpr ⟨re l p + 1, List.mem_filter.mpr ⟨he_mem.mpr ⟨rno l p + 1, by omega, rfl⟩, decide_eq_true (by omega)⟩, rfl⟩)
  omega
theorem he_pos {l : List Nat} {p : Nat} (hp : p ≤ l.length) : 0 < (((heL l (l.count 10 + 2)).filter fun x => decide (x ≤ p)).map fun n : Nat => (n : Int)).length := by
  refine List.length_pos_of_mem (a := ((rb l p : Nat) : Int)) (List.mem_map.mpr ⟨rb l p, List.mem_filter.mpr ⟨he_mem.mpr ⟨rno l p, by have := rno_le l hp; omega, rfl⟩, decide_eq_true (row_is hp).1⟩, rfl⟩)
theorem he_pos2 {l : List Nat} {p : Nat} (hp : p ≤ l.length) : 0 < (((heL l (l.count 10 + 2)).filter fun x => decide (p < x)).map fun n : Nat => (n : Int)).length := by
  refine List.length_pos_of_mem (a := ((re l p + 1 : Nat) : Int)) (List.mem_map.mpr ⟨re l p + 1, List.mem_filter.mpr ⟨he_mem.mpr ⟨rno l p + 1, by have := rno_le l hp; omega, rfl⟩, decide_eq_true (by have := (row_is hp).2.1; omega)⟩, rfl⟩)
theorem leD (x p : Nat) : decide ((x : Int) ≤ (p : Int)) = decide (x ≤ p) := decide_eq_decide.mpr ⟨fun h => by omega, fun h => by omega⟩
theorem min_if (a b : Nat) : (if (b : Int) < (a : Int) then (b : Int) else (a : Int)) = ((min a b : Nat) : Int) := by split <;> omega
theorem max_if (a b : Nat) : (if (b : Int) > (a : Int) then (b : Int) else (a : Int)) = ((max a b : Nat) : Int) := by split <;> omega

/-! modehand.things: between, rows_between, seen_stretch -/

def sp_between : Sp := fun vs H Q _ => ∃ (a b : Nat) (k : List Nat), vs = [.int (a : Int), .int (b : Int), .str (S k)] ∧ ∀ v H', Same H H' → StV H' (some (min a b, max a b, k)) v → Q v H'
def sp_rbetween : Sp := fun vs H Q _ => ∃ (l : List Nat) (a b : Nat), vs = [.str (S l), .int (a : Int), .int (b : Int)] ∧ l.length ≤ 100000 ∧ a ≤ l.length ∧ b ≤ l.length ∧ ∀ v H', Same H H' → StV H' (some (rowsB l a b)) v → Q v H'
section
variable {P : Program} {w : World} {K : PySem.W.Frag} {mg : Str → Option Value} {base : Heap} {f : Addr} {fd : FuncData}
theorem sc_between : FnScope ["one", "other", "kind"] ["one", "other", "kind"] (defScope s_between) := ⟨rfl, rfl, rfl, by decide +kernel, rfl, by decide +kernel, by decide +kernel⟩
theorem ok_between (F : Fun K "between" "between" s_between f fd) (m_min : mg "min" = none) (m_max : mg "max" = none) : FnOk P w K mg base CX0 1 f fd ["one", "other", "kind"] sp_between := by
  refine F.ok sc_between (fun vs H Q E h => ?_) (fun cdv A outer s H vs Q E hr h => ?_)
  · obtain ⟨a, b, k, rfl, _⟩ := h
    rfl
  obtain ⟨a, b, k, rfl, q⟩ := h
  refine ⟨_, (pss_one (ps_ret (pe_tup (pa_cons (pe_callB (call_min2 (by rfl)) (by rfl) m_min boot_min (pa_cons (pv 0) (pa_cons (pv 1) pa_nil))) (pa_cons (pe_callB (call_max2 (by rfl)) (by rfl) m_max boot_max (pa_cons (pv 0) (pa_cons (pv 1) pa_nil))) (pa_cons (pv 2) pa_nil)))))), ?_⟩
  refine ⟨_, rfl, _, rfl, _, _, rfl, _, rfl, _, rfl, _, _, rfl, _, rfl, (by show 3 ≤ sizeLine; decide), fun t ht => q _ _ (same_new ht _) ⟨t, rfl, ?_⟩⟩
  rw [upd_same]
  show some (HO.tup [V.int (if (b : Int) < (a : Int) then (b : Int) else (a : Int)), V.int (if (b : Int) > (a : Int) then (b : Int) else (a : Int)), _]) = _
  rw [min_if, max_if]
  rfl
theorem sc_rows_between : FnScope ["text", "one", "other", "first", "last"] ["text", "one", "other"] (defScope s_rows_between) := ⟨rfl, rfl, rfl, by decide +kernel, rfl, by decide +kernel, by decide +kernel⟩
theorem ok_rbetween (F : Fun K "rows_between" "rows_between" s_rows_between f fd) (O_row_of : Own P w K mg base CX0 4 "row_of" ["text", "place"] sp_row_in) (O_begin_of : Own P w K mg base CX0 4 "begin_of" ["text", "row"] sp_beg_in) (O_behind_of : Own P w K mg base CX0 6 "behind_of" ["text", "row"] sp_bhd_in) (m_min : mg "min" = none) (m_max : mg "max" = none) : FnOk P w K mg base CX0 7 f fd ["text", "one", "other"] sp_rbetween := by
  refine F.ok sc_rows_between (fun vs H Q E h => ?_) (fun cdv A outer s H vs Q E hr h => ?_)
  · obtain ⟨l, a, b, rfl, _⟩ := h
    rfl
  obtain ⟨l, a, b, rfl, hl, ha, hb, q⟩ := h
  have h1 : min a b ≤ l.length := by omega
  have h2 : max a b ≤ l.length := by omega
  refine ⟨_, (pss_cons (ps_set (i := 3) sc_rows_between.nd rfl (Or.inl rfl) (pe_own O_row_of hr (by rfl) pass0 (pa_cons (pv 0) (pa_cons (pe_callB (call_min2 (by rfl)) (by rfl) m_min boot_min (pa_cons (pv 1) (pa_cons (pv 2) pa_nil))) pa_nil))))
      (pss_cons (ps_set (i := 4) sc_rows_between.nd rfl (Or.inl rfl) (pe_own O_row_of hr (by rfl) pass0 (pa_cons (pv 0) (pa_cons (pe_callB (call_max2 (by rfl)) (by rfl) m_max boot_max (pa_cons (pv 1) (pa_cons (pv 2) pa_nil))) pa_nil))))
      (pss_one (ps_ret (pe_tup (pa_cons (pe_own O_begin_of hr (by rfl) pass0 (pa_cons (pv 0) (pa_cons (pv 3) pa_nil))) (pa_cons (pe_own O_behind_of hr (by rfl) pass0 (pa_cons (pv 0) (pa_cons (pv 4) pa_nil))) (pa_cons pe_str pa_nil)))))))), ?_⟩
  refine ⟨_, rfl, _, rfl, _, rfl, _, _, rfl, l, min a b, (by show [V.str (S l), V.int (if (b : Int) < (a : Int) then (b : Int) else (a : Int))] ++ [] = _; rw [min_if]; rfl), hl, h1, ?_⟩
  refine ⟨_, rfl, _, rfl, _, rfl, _, _, rfl, l, max a b, (by show [V.str (S l), V.int (if (b : Int) > (a : Int) then (b : Int) else (a : Int))] ++ [] = _; rw [max_if]; rfl), hl, h2, ?_⟩
  refine ⟨_, rfl, _, rfl, l, _, rfl, hl, rno_le l h1, fun H1 S1 => ?_⟩
  refine ⟨_, rfl, _, rfl, l, _, rfl, hl, rno_le l h2, fun H2 S2 => ?_⟩
  exact ⟨(by show 3 ≤ sizeLine; decide), fun t ht => q _ _ (S1.trans (S2.trans (same_new ht _))) ⟨t, rfl, upd_same⟩⟩

def seenO (l : List Nat) (p : Nat) : Option (Nat × Nat) → St3
  | none => none
  | some (a, k) => some (if k = 114 then rowsB l a p else (min a p, max a p, if k = 98 then cBlock else cSigns))
theorem seenO_some (l : List Nat) (p a k : Nat) : seenO l p (some (a, k)) = some (if k = 114 then rowsB l a p else (min a p, max a p, if k = 98 then cBlock else cSigns)) := rfl
def SeenV (H : Hp) : Option (Nat × Nat) → V → Prop
  | none, v => v = .non
  | some (a, k), v => ∃ t, v = .ref t ∧ H t = some (.tup [nV a, .str (S [k])])
def sp_seen : Sp := fun vs H Q _ => ∃ (l : List Nat) (p : Nat) (o : Option (Nat × Nat)) (u : V), vs = [.str (S l), .int (p : Int), u] ∧ l.length ≤ 100000 ∧ p ≤ l.length ∧ (∀ a k, o = some (a, k) → a ≤ l.length) ∧ SeenV H o u ∧ ∀ v H', Same H H' → StV H' (seenO l p o) v → Q v H'
theorem sc_seen_stretch : FnScope ["text", "place", "seen"] ["text", "place", "seen"] (defScope s_seen_stretch) := ⟨rfl, rfl, rfl, by decide +kernel, rfl, by decide +kernel, by decide +kernel⟩
theorem ok_seen (F : Fun K "seen_stretch" "seen_stretch" s_seen_stretch f fd) (O_between : Own P w K mg base CX0 1 "between" ["one", "other", "kind"] sp_between) (O_rows_between : Own P w K mg base CX0 7 "rows_between" ["text", "one", "other"] sp_rbetween) : FnOk P w K mg base CX0 8 f fd ["text", "place", "seen"] sp_seen := by
  refine F.ok sc_seen_stretch (fun vs H Q E h => ?_) (fun cdv A outer s H vs Q E hr h => ?_)
  · obtain ⟨l, p, o, u, rfl, _⟩ := h
    rfl
  obtain ⟨l, p, o, u, rfl, hl, hp, ha, hu, q⟩ := h
  refine ⟨_, (pss_cons (ps_if (pt_cmpR op_isN (pv 2) pe_non (nomark _)) (pss_one (ps_ret pe_non)) pss_nil)
      (pss_cons (ps_if (pt_cmpR op_eq (pe_ix ix_tup (pv 2) pe_int (fun _ _ => rfl)) pe_str (nomark _)) (pss_one (ps_ret (pe_own O_rows_between hr (by rfl) pass0 (pa_cons (pv 0) (pa_cons (pe_ix ix_tup (pv 2) pe_int (fun _ _ => rfl)) (pa_cons (pv 1) pa_nil)))))) pss_nil)
      (pss_one (ps_ret (pe_own O_between hr (by rfl) pass0 (pa_cons (pe_ix ix_tup (pv 2) pe_int (fun _ _ => rfl)) (pa_cons (pv 1) (pa_cons (pe_ifExp (pt_cmpR op_eq (pe_ix ix_tup (pv 2) pe_int (fun _ _ => rfl)) pe_str (nomark _)) pe_str pe_str) pa_nil)))))))), ?_⟩
  rcases o with _ | ⟨a, k⟩
  · cases hu
    exact ⟨_, rfl, rfl, _, rfl, iteDT rfl (q _ H (Same.refl _) rfl)⟩
  · obtain ⟨t, rfl, ht⟩ := hu
    have ha' := ha a k rfl
    refine ⟨_, rfl, rfl, _, rfl, iteDF (fun z => by cases z) ?_⟩
    refine ⟨_, rfl, t, _, _, _, rfl, rfl, SqT.of ht, rfl, rfl, _, rfl, ?_⟩
    rw [seenO_some] at q
    by_cases e : k = 114
    · subst e
      exact iteDT rfl ⟨_, rfl, _, rfl, t, _, _, _, rfl, rfl, SqT.of ht, rfl, _, rfl, l, a, p, rfl, hl, ha', hp, q⟩
    · rw [if_neg e] at q
      refine iteDF (neS e) ⟨_, rfl, t, _, _, _, rfl, rfl, SqT.of ht, rfl, _, rfl, _, rfl, t, _, _, _, rfl, rfl, SqT.of ht, rfl, rfl, _, rfl, ?_⟩
      by_cases e2 : k = 98
      · subst e2
        exact iteDT rfl ⟨a, p, cBlock, rfl, q⟩
      · rw [if_neg e2] at q
        exact iteDF (neS e2) ⟨a, p, cSigns, rfl, q⟩
end

/-! stretch, for s -/

def sp_stretch : Sp := fun vs H Q _ => ∃ (l : List Nat) (p : Nat) (c : Option Nat) (o : Option (Nat × Nat)) (u : V), vs = [.str (S [115]), .str (S l), .int (p : Int), optV c, u] ∧ l.length ≤ 100000 ∧ p ≤ l.length ∧ (∀ a k, o = some (a, k) → a ≤ l.length) ∧ SeenV H o u ∧ ∀ v H', Same H H' → StV H' (seenO l p o) v → Q v H'
theorem fn_false {P : Program} {w : World} {K : PySem.W.Frag} {mg : Str → Option Value} {base : Heap} {f : Addr} {fd : FuncData} {k : Nat} {ps : List Str} : FnOk P w K mg base CX0 k f fd ps (fun _ _ _ _ => False) := ⟨fun _ _ _ _ h => h.elim, fun _ _ _ _ _ _ _ _ _ _ _ _ _ h => h.elim⟩
section
variable {P : Program} {w : World} {K : PySem.W.Frag} {mg : Str → Option Value} {base : Heap} {f A_OPENING A_CLOSING A_COUNT_PASSED_OVER : Addr} {fd : FuncData}
theorem sc_stretch : FnScope ["key", "text", "place", "count", "seen", "many"] ["key", "text", "place", "count", "seen"] (defScope s_stretch) := ⟨rfl, rfl, rfl, by decide +kernel, rfl, by decide +kernel, by decide +kernel⟩
theorem ok_stretch {dV : Value} (F : FunD K "stretch" "stretch" s_stretch dV f fd) (m_OPENING : mg "OPENING" = some (.ref A_OPENING)) (m_CLOSING : mg "CLOSING" = some (.ref A_CLOSING)) (m_COUNT_PASSED_OVER : mg "COUNT_PASSED_OVER" = some (.ref A_COUNT_PASSED_OVER))
    (O_seen_stretch : Own P w K mg base CX0 8 "seen_stretch" ["text", "place", "seen"] sp_seen) (O_rows_from : Own P w K mg base CX0 1 "rows_from" ["text", "place", "many"] (fun _ _ _ _ => False)) (O_inside : Own P w K mg base CX0 1 "inside" ["pair"] (fun _ _ _ _ => False)) (O_outside : Own P w K mg base CX0 1 "outside" ["pair"] (fun _ _ _ _ => False)) (O_brackets_round : Own P w K mg base CX0 1 "brackets_round" ["text", "place", "opening", "many"] (fun _ _ _ _ => False)) (O_opening_of : Own P w K mg base CX0 1 "opening_of" ["closing"] (fun _ _ _ _ => False)) :
    FnOk P w K mg base CX0 9 f fd ["key", "text", "place", "count", "seen"] sp_stretch := by
  refine F.ok sc_stretch (fun vs H Q E h => ?_) (fun cdv A outer s H vs Q E hr h => ?_)
  · obtain ⟨l, p, c, o, u, rfl, _⟩ := h
    rfl
  obtain ⟨l, p, c, o, u, rfl, hl, hp, ha, hu, q⟩ := h
  refine ⟨_, (pss_cons (ps_set (i := 5) sc_stretch.nd rfl (Or.inl rfl) (pe_ifExp (pt_cmpR op_isN (pv 3) pe_non (nomark _)) pe_int (pv 3)))
      (pss_cons (ps_if (pt_cmpR op_eq (pv 0) pe_str (nomark _)) (pss_one (ps_ret (pe_own O_seen_stretch hr (by rfl) pass0 (pa_cons (pv 1) (pa_cons (pv 2) (pa_cons (pv 4) pa_nil)))))) pss_nil)
      (pss_cons (ps_if (pt_cmpR op_eq (pv 0) pe_str (nomark _)) (pss_one (ps_ret (pe_own O_rows_from hr (by rfl) pass0 (pa_cons (pv 1) (pa_cons (pv 2) (pa_cons (pv 5) pa_nil)))))) pss_nil)
      (pss_cons (ps_if (pt_cmpR op_in_seq (pv 0) (pe_glob (v := .ref A_OPENING) (by rfl) m_OPENING rfl) rfl) (pss_one (ps_ret (pe_own O_inside hr (by rfl) pass0 (pa_cons (pe_own O_brackets_round hr (by rfl) pass0 (pa_cons (pv 1) (pa_cons (pv 2) (pa_cons (pv 0) (pa_cons (pv 5) pa_nil))))) pa_nil)))) pss_nil)
      (pss_cons (ps_if (pt_cmpR op_in_seq (pv 0) (pe_glob (v := .ref A_CLOSING) (by rfl) m_CLOSING rfl) rfl) (pss_one (ps_ret (pe_own O_outside hr (by rfl) pass0 (pa_cons (pe_own O_brackets_round hr (by rfl) pass0 (pa_cons (pv 1) (pa_cons (pv 2) (pa_cons (pe_own O_opening_of hr (by rfl) pass0 (pa_cons (pv 0) pa_nil)) (pa_cons (pv 5) pa_nil))))) pa_nil)))) pss_nil)
      (pss_cons (ps_if (pt_cmp (pc_kin (pv 0) (pe_glob (v := .ref A_COUNT_PASSED_OVER) (by rfl) m_COUNT_PASSED_OVER rfl))) (pss_one (ps_ret (pe_callF hr (pe_kget (pe_glob (v := .ref A_COUNT_PASSED_OVER) (by rfl) m_COUNT_PASSED_OVER rfl) (pv 0) (fun _ _ => rfl)) pass0 (pa_cons (pv 1) (pa_cons (pv 2) pa_nil))))) pss_nil)
      (pss_one (ps_ret pe_non)))))))), ?_⟩
  refine seq_to (fun σ H' => H = H' ∧ ∃ x : Option V, σ = [some (.str (S [115])), some (.str (S l)), some (.int (p : Int)), some (optV c), some u, x]) (fun nx fin => ?_) ?_
  · cases c with
    | none => exact ⟨_, rfl, rfl, _, rfl, iteDT rfl (fin _ _ ⟨rfl, _, rfl⟩)⟩
    | some n => exact ⟨_, rfl, rfl, _, rfl, iteDF (fun z => by cases z) ⟨_, rfl, fin _ _ ⟨rfl, _, rfl⟩⟩⟩
  rintro σ H' ⟨rfl, x, rfl⟩
  exact ⟨_, rfl, rfl, _, rfl, iteDT rfl ⟨_, rfl, _, rfl, _, rfl, l, p, o, u, rfl, hl, hp, ha, hu, q⟩⟩
end

end My

set_option Elab.async false
set_option linter.all false
set_option maxRecDepth 100000
set_option maxHeartbeats 4000000
namespace My
open PySem L2



/-! the law's own comparison of stretches -/
def sp_lwhole : Sp := fun vs H Q _ => ∃ i : Int, vs = [.int i] ∧ Q (.bl true) H
def sp_same4 : Sp := fun vs H Q _ => ∃ (o : Nat × Nat × List Nat) (u v : V), vs = [u, v] ∧ StV H (some o) u ∧ StV H (some o) v ∧ Q (.bl true) H
section
variable {P : Program} {w : World} {K : PySem.W.Frag} {mg : Str → Option Value} {base : Heap} {f : Addr} {fd : FuncData}
theorem sc__law_whole : FnScope ["_law_found"] ["_law_found"] (defScope s__law_whole) := ⟨rfl, rfl, rfl, by decide +kernel, rfl, by decide +kernel, by decide +kernel⟩
theorem ok_lwhole (F : Fun K "_law_whole" "_law_whole" s__law_whole f fd) (m_isinstance : mg "isinstance" = none) (m_int : mg "int" = none) (m_bool : mg "bool" = none) : FnOk P w K mg base CX0 1 f fd ["_law_found"] sp_lwhole := by
  refine F.ok sc__law_whole (fun vs H Q E h => ?_) (fun cdv A outer s H vs Q E hr h => ?_)
  · obtain ⟨x, rfl, _⟩ := h
    rfl
  obtain ⟨x, rfl, q⟩ := h
  refine ⟨_, (pss_one (ps_ret (pe_and (pe_callB call_isi (by rfl) m_isinstance boot_isi (pa_cons (pv 0) (pa_cons (pe_bltn (v := .ty "int") (by rfl) m_int boot_int rfl) pa_nil))) (pe_one (pe_not (pe_callB call_isi (by rfl) m_isinstance boot_isi (pa_cons (pv 0) (pa_cons (pe_bltn (v := .ty "bool") (by rfl) m_bool boot_bool rfl) pa_nil)))))))), ?_⟩
  refine ⟨_, rfl, _, _, _, _, rfl, ⟨_, .inl rfl⟩, .int x, kit_ii, _, rfl, iteT ?_⟩
  exact ⟨_, rfl, _, _, _, _, rfl, ⟨_, .inl rfl⟩, .int x, kit_ib, _, rfl, q⟩
theorem sc__law_same : FnScope ["_law_found", "_law_due_here"] ["_law_found", "_law_due_here"] (defScope s__law_same) := ⟨rfl, rfl, rfl, by decide +kernel, rfl, by decide +kernel, by decide +kernel⟩
theorem ok_same4 (F : Fun K "_law_same" "_law_same" s__law_same f fd) (O__law_whole : Own P w K mg base CX0 1 "_law_whole" ["_law_found"] sp_lwhole) (m_len : mg "len" = none) (m_isinstance : mg "isinstance" = none) (m_str : mg "str" = none) (m_tuple : mg "tuple" = none) : FnOk P w K mg base CX0 2 f fd ["_law_found", "_law_due_here"] sp_same4 := by
  refine F.ok sc__law_same (fun vs H Q E h => ?_) (fun cdv A outer s H vs Q E hr h => ?_)
  · obtain ⟨o, u, v, rfl, _⟩ := h
    rfl
  obtain ⟨o, u, v, rfl, hu, hv, q⟩ := h
  refine ⟨_, (pss_cons (ps_if (PW.pt (pw_or (pt_not (pt_val (pe_callB call_isi (by rfl) m_isinstance boot_isi (pa_cons (pv 0) (pa_cons (pe_bltn (v := .ty "tuple") (by rfl) m_tuple boot_tuple rfl) pa_nil))))) (pw_or1 (pt_cmpR op_ne (pe_callB call_len_seq (by rfl) m_len PySem.boot_len (pa_cons (pv 0) pa_nil)) pe_int (nomark _))))) (pss_one (ps_ret pe_bl)) pss_nil)
      (pss_cons (ps_if (PW.pt (pw_or (pt_not (pt_val (pe_own O__law_whole hr (by rfl) pass0 (pa_cons (pe_ix ix_tup (pv 0) pe_int (fun _ _ => rfl)) pa_nil)))) (pw_or (pt_not (pt_val (pe_own O__law_whole hr (by rfl) pass0 (pa_cons (pe_ix ix_tup (pv 0) pe_int (fun _ _ => rfl)) pa_nil)))) (pw_or1 (pt_not (pt_val (pe_callB call_isi (by rfl) m_isinstance boot_isi (pa_cons (pe_ix ix_tup (pv 0) pe_int (fun _ _ => rfl)) (pa_cons (pe_bltn (v := .ty "str") (by rfl) m_str boot_str rfl) pa_nil))))))))) (pss_one (ps_ret pe_bl)) pss_nil)
      (pss_one (ps_ret (pe_cmpR (op_eqQ hr.units0) (pv 0) (pv 1) (nomark _)))))), ?_⟩
  obtain ⟨a, b, k⟩ := o
  obtain ⟨t, rfl, ht⟩ := hu
  obtain ⟨t', rfl, ht'⟩ := hv
  refine ⟨_, rfl, _, _, _, _, rfl, ⟨_, .inl rfl⟩, .tup ht, kit_tt, _, rfl, iteF ?_⟩
  refine ⟨_, rfl, t, _, rfl, .inr (SqT.of ht), rfl, _, rfl, iteF ?_⟩
  refine ⟨_, rfl, t, _, _, _, rfl, rfl, SqT.of ht, rfl, _, rfl, _, rfl, iteF ?_⟩
  refine ⟨_, rfl, t, _, _, _, rfl, rfl, SqT.of ht, rfl, _, rfl, _, rfl, iteF ?_⟩
  refine ⟨_, rfl, t, _, _, _, rfl, rfl, SqT.of ht, rfl, _, _, _, _, rfl, ⟨_, .inl rfl⟩, .str _, kit_ss, _, rfl, iteF ?_⟩
  have e : eqs [nV a, nV b, .str (S k)] [nV a, nV b, .str (S k)] = true := by unfold eqs nV; simp [eqV, eqs]
  refine ⟨_, rfl, _, rfl, t, t', _, _, rfl, rfl, .inr ⟨SqT.of ht, SqT.of ht'⟩, rfl, rfl, ?_⟩
  rw [e]
  exact q
end


def sp_due : Sp := fun vs H Q _ => ∃ (l : List Nat) (p a k : Nat), vs = [.str (S l), .int (p : Int), .int (a : Int), .str (S [k])] ∧ l.length ≤ 1000 ∧ p ≤ l.length ∧ a ≤ l.length ∧ (k = 115 ∨ k = 114 ∨ k = 98) ∧ ∀ v H', Same H H' → StV H' (seenO l p (some (a, k))) v → Q v H'
def sp_asked : Sp := fun vs H Q _ => ∃ (l : List Nat) (n : Int), vs = [.str (S l), .int n] ∧ l.length ≤ 1000 ∧ ∀ H', Same H H' → Q (.bl true) H'
section
variable {P : Program} {w : World} {K : PySem.W.Frag} {mg : Str → Option Value} {base : Heap} {f : Addr} {fd : FuncData}
theorem sc__law_due : FnScope ["_law_text", "_law_place", "_law_start", "_law_look", "_law_low", "_law_high", "_law_heads", "_law_near", "_law_last"] ["_law_text", "_law_place", "_law_start", "_law_look"] (defScope s__law_due) := ⟨rfl, rfl, rfl, by decide +kernel, rfl, by decide +kernel, by decide +kernel⟩
theorem ok_due (F : Fun K "_law_due" "_law_due" s__law_due f fd) (O__law_begins : Own P w K mg base CX0 1 "_law_begins" ["_law_text"] sp_heads) (m_len : mg "len" = none) (m_min : mg "min" = none) (m_max : mg "max" = none) : FnOk P w K mg base CX0 2 f fd ["_law_text", "_law_place", "_law_start", "_law_look"] sp_due := by
  refine F.ok sc__law_due (fun vs H Q E h => ?_) (fun cdv A outer s H vs Q E hr h => ?_)
  · obtain ⟨l, p, a, k, rfl, _⟩ := h
    rfl
  obtain ⟨l, p, a, k, rfl, hl, hp, ha, hk, q⟩ := h
  have h1 : min p a ≤ l.length := by omega
  have h2 : max p a ≤ l.length := by omega
  have emin : min a p = min p a := by omega
  have emax : max a p = max p a := by omega
  refine ⟨_, (pss_cons (ps_set (i := 4) sc__law_due.nd rfl (Or.inr rfl) (pe_callB (call_min2 (by rfl)) (by rfl) m_min boot_min (pa_cons (pv 1) (pa_cons (pv 2) pa_nil))))
      (pss_cons (ps_set (i := 5) sc__law_due.nd rfl (Or.inr rfl) (pe_callB (call_max2 (by rfl)) (by rfl) m_max boot_max (pa_cons (pv 1) (pa_cons (pv 2) pa_nil))))
      (pss_cons (ps_if (pt_cmpR op_eq (pv 3) pe_str (nomark _)) (pss_one (ps_ret (pe_tup (pa_cons (pv 4) (pa_cons (pv 5) (pa_cons pe_str pa_nil)))))) pss_nil)
      (pss_cons (ps_if (pt_cmpR op_eq (pv 3) pe_str (nomark _)) (pss_one (ps_ret (pe_tup (pa_cons (pv 4) (pa_cons (pv 5) (pa_cons pe_str pa_nil)))))) pss_nil)
      (pss_cons (ps_set (i := 6) sc__law_due.nd rfl (Or.inl rfl) (pe_own O__law_begins hr (by rfl) pass0 (pa_cons (pv 0) pa_nil)))
      (pss_cons (ps_set (i := 7) sc__law_due.nd rfl (Or.inl rfl) (pe_callB (call_maxL (by rfl)) (by rfl) m_max boot_max (pa_cons (pe_compF ["_law_head", "_law_low"] [none, some 4] ["_law_text", "_law_place", "_law_start", "_law_look", "_law_low", "_law_high", "_law_heads", "_law_near", "_law_last"] (defScope s__law_due) rfl (by decide +kernel) rfl rfl (pi_list (pv 6)) (fun _ _ _ _ _ => pg_name (i := 0) (show (["_law_head", "_law_low"] : List Str).Nodup by decide +kernel) rfl (Or.inl rfl)) (fun _ _ _ _ _ => (pif_one (pt_cmpR op_le (pv 0) (pv 1) (nomark _)))) (fun _ _ _ _ _ => (pv 0))) pa_nil)))
      (pss_cons (ps_set (i := 8) sc__law_due.nd rfl (Or.inl rfl) (pe_callB (call_minL (by rfl)) (by rfl) m_min boot_min (pa_cons (pe_compF ["_law_head", "_law_high"] [none, some 5] ["_law_text", "_law_place", "_law_start", "_law_look", "_law_low", "_law_high", "_law_heads", "_law_near", "_law_last"] (defScope s__law_due) rfl (by decide +kernel) rfl rfl (pi_list (pv 6)) (fun _ _ _ _ _ => pg_name (i := 0) (show (["_law_head", "_law_high"] : List Str).Nodup by decide +kernel) rfl (Or.inl rfl)) (fun _ _ _ _ _ => (pif_one (pt_cmpR op_gt (pv 0) (pv 1) (nomark _)))) (fun _ _ _ _ _ => (pv 0))) pa_nil)))
      (pss_one (ps_ret (pe_tup (pa_cons (pv 7) (pa_cons (pe_callB (call_min2 (by rfl)) (by rfl) m_min boot_min (pa_cons (pv 8) (pa_cons (pe_callB call_lenS (by rfl) m_len PySem.boot_len (pa_cons (pv 0) pa_nil)) pa_nil))) (pa_cons pe_str pa_nil))))))))))))), ?_⟩
  refine ⟨_, rfl, _, rfl, _, _, rfl, ?_⟩
  show gName _ (V.int (if (a : Int) < (p : Int) then (a : Int) else (p : Int))) _ _ _
  rw [min_if]
  refine ⟨_, rfl, _, rfl, _, _, rfl, ?_⟩
  show gName _ (V.int (if (a : Int) > (p : Int) then (a : Int) else (p : Int))) _ _ _
  rw [max_if]
  refine ⟨_, rfl, rfl, _, rfl, ?_⟩
  rw [seenO_some] at q
  unfold rowsB at q
  rw [emin, emax] at q
  by_cases e1 : k = 115
  · subst e1
    exact iteDT rfl ⟨_, rfl, _, rfl, (by show 3 ≤ sizeLine; decide), fun t ht => q _ _ (same_new ht _) ⟨t, rfl, upd_same⟩⟩
  refine iteDF (neS e1) ⟨_, rfl, rfl, _, rfl, ?_⟩
  by_cases e2 : k = 98
  · subst e2
    exact iteDT rfl ⟨_, rfl, _, rfl, (by show 3 ≤ sizeLine; decide), fun t ht => q _ _ (same_new ht _) ⟨t, rfl, upd_same⟩⟩
  refine iteDF (neS e2) ⟨_, rfl, l, rfl, hl, fun D H1 S1 hD => ?_⟩
  have e3 : k = 114 := by omega
  rw [if_pos e3] at q
  have hlen : (heL l (l.count 10 + 2)).length ≤ 100000 := by rw [heL_len]; have := count_le l; omega
  refine ⟨_, rfl, D, rfl, ⟨_, SqL.of hD⟩, fun D1 hD1 => ?_⟩
  refine comp_keepL (ns := heL l (l.count 10 + 2)) (fun x => decide (x ≤ min p a)) [some (.int (min p a : Nat))] rfl (SqL.of hD) hD1 hlen (fun y _ H' k' _ hk' => ⟨_, rfl, _, rfl, _, _, rfl, rfl, _, rfl, by show k' (decide ((y : Int) ≤ ((min p a : Nat) : Int))) H'; rw [leD]; exact hk'⟩) (fun H2 S2 hN => ?_)
  rw [nV_int] at hN
  refine ⟨D1, _, rfl, SqL.of hN, he_pos h1, fun m hm1 hm2 => ?_⟩
  rw [he_max h1 hm1 hm2]
  have hD2 := S2 _ _ hD
  refine ⟨_, rfl, D, rfl, ⟨_, SqL.of hD2⟩, fun D3 hD3 => ?_⟩
  refine comp_keepL (ns := heL l (l.count 10 + 2)) (fun x => decide (max p a < x)) [some (.int (max p a : Nat))] rfl (SqL.of hD2) hD3 hlen (fun y _ H' k' _ hk' => ⟨_, rfl, _, rfl, _, _, rfl, rfl, _, rfl, by show k' (decide ((y : Int) > ((max p a : Nat) : Int))) H'; rw [gtD]; exact hk'⟩) (fun H3 S3 hN3 => ?_)
  rw [nV_int] at hN3
  refine ⟨D3, _, rfl, SqL.of hN3, he_pos2 h2, fun m2 hm3 hm4 => ?_⟩
  rw [he_min h2 hm3 hm4]
  refine ⟨_, rfl, _, rfl, _, rfl, l, rfl, small (by omega), _, _, rfl, (by show 3 ≤ sizeLine; decide), fun t ht => q _ _ (S1.trans (S2.trans (S3.trans (same_new ht _)))) ⟨t, rfl, ?_⟩⟩
  rw [upd_same]
  show some (HO.tup [_, V.int (if (l.length : Int) < ((re l (max p a) + 1 : Nat) : Int) then (l.length : Int) else ((re l (max p a) + 1 : Nat) : Int)), _]) = _
  rw [min_if]
  rfl
theorem sc__law_asked : FnScope ["_law_text", "_law_cell", "_law_mixed", "_law_other", "_law_place", "_law_start", "_law_look", "_law_due_here"] ["_law_text", "_law_cell"] (defScope s__law_asked) := ⟨rfl, rfl, rfl, by decide +kernel, rfl, by decide +kernel, by decide +kernel⟩
theorem ok_asked (F : Fun K "_law_asked" "_law_asked" s__law_asked f fd) (O__law_due : Own P w K mg base CX0 2 "_law_due" ["_law_text", "_law_place", "_law_start", "_law_look"] sp_due) (O__law_same : Own P w K mg base CX0 2 "_law_same" ["_law_found", "_law_due_here"] sp_same4) (O_stretch2 : OwnD P w K mg base CX0 9 "stretch" ["key", "text", "place", "count", "seen"] sp_stretch [.non, .non]) (O_stretch : Own P w K mg base CX0 9 "stretch" ["key", "text", "place", "count", "seen"] sp_stretch) (m_len : mg "len" = none) : FnOk P w K mg base CX0 10 f fd ["_law_text", "_law_cell"] sp_asked := by
  refine F.ok sc__law_asked (fun vs H Q E h => ?_) (fun cdv A outer s H vs Q E hr h => ?_)
  · obtain ⟨l, n, rfl, _⟩ := h
    rfl
  obtain ⟨l, n, rfl, hl, q⟩ := h
  have hpos : (0 : Int) < (l.length : Int) + 1 := by omega
  refine ⟨_, (pss_cons (ps_set (i := 2) sc__law_asked.nd rfl (Or.inl rfl) (pe_op op_mod (pe_op op_mul (pv 1) pe_int) pe_int))
      (pss_cons (ps_set (i := 3) sc__law_asked.nd rfl (Or.inl rfl) (pe_op op_mod (pe_op op_mul (pv 1) pe_int) pe_int))
      (pss_cons (ps_set (i := 4) sc__law_asked.nd rfl (Or.inl rfl) (pe_op op_mod (pv 2) (pe_op op_add (pe_callB call_lenS (by rfl) m_len PySem.boot_len (pa_cons (pv 0) pa_nil)) pe_int)))
      (pss_cons (ps_set (i := 5) sc__law_asked.nd rfl (Or.inl rfl) (pe_op op_mod (pv 3) (pe_op op_add (pe_callB call_lenS (by rfl) m_len PySem.boot_len (pa_cons (pv 0) pa_nil)) pe_int)))
      (pss_cons (ps_set (i := 6) sc__law_asked.nd rfl (Or.inl rfl) (pe_ix ix_S pe_str (pe_op op_mod (pe_op op_fdiv (pv 2) pe_int) pe_int) (fun _ _ => rfl)))
      (pss_cons (ps_set (i := 7) sc__law_asked.nd rfl (Or.inl rfl) (pe_own O__law_due hr (by rfl) pass0 (pa_cons (pv 0) (pa_cons (pv 4) (pa_cons (pv 5) (pa_cons (pv 6) pa_nil))))))
      (pss_cons (ps_if (pt_cmpR op_notN (pe_ownD O_stretch2 hr (by rfl) pass0 (pa_cons pe_str (pa_cons (pv 0) (pa_cons (pv 4) pa_nil)))) pe_non (nomark _)) (pss_one (ps_ret pe_bl)) pss_nil)
      (pss_cons (ps_if (pt_not (pt_val (pe_own O__law_same hr (by rfl) pass0 (pa_cons (pe_own O_stretch hr (by rfl) pass0 (pa_cons pe_str (pa_cons (pv 0) (pa_cons (pv 4) (pa_cons pe_non (pa_cons (pe_tup (pa_cons (pv 5) (pa_cons (pv 6) pa_nil))) pa_nil)))))) (pa_cons (pv 7) pa_nil))))) (pss_one (ps_ret pe_bl)) pss_nil)
      (pss_one (ps_ret (pe_own O__law_same hr (by rfl) pass0 (pa_cons (pe_own O_stretch hr (by rfl) pass0 (pa_cons pe_str (pa_cons (pv 0) (pa_cons (pv 4) (pa_cons (pe_op op_add pe_int (pe_op op_mod (pe_op op_fdiv (pv 3) pe_int) pe_int)) (pa_cons (pe_tup (pa_cons (pv 5) (pa_cons (pv 6) pa_nil))) pa_nil)))))) (pa_cons (pv 7) pa_nil))))))))))))), ?_⟩
  refine ⟨_, rfl, _, _, rfl, rfl, .inr ⟨by decide, by decide⟩, _, _, rfl, rfl, (by show (0 : Int) < 2147483629; decide), ?_⟩
  show gName _ (V.int (n * 69621 % 2147483629)) _ _ _
  generalize n * 69621 % 2147483629 = mx
  refine ⟨_, rfl, _, _, rfl, rfl, .inr ⟨by decide, by decide⟩, _, _, rfl, rfl, (by show (0 : Int) < 2147483399; decide), ?_⟩
  show gName _ (V.int (n * 40692 % 2147483399)) _ _ _
  have g1 : 0 ≤ n * 40692 % 2147483399 := Int.emod_nonneg _ (by decide)
  generalize n * 40692 % 2147483399 = ot at g1
  have p0 : 0 ≤ mx % ((l.length : Int) + 1) := Int.emod_nonneg _ (Int.ne_of_gt hpos)
  have p1 : mx % ((l.length : Int) + 1) < (l.length : Int) + 1 := Int.emod_lt_of_pos _ hpos
  have s0 : 0 ≤ ot % ((l.length : Int) + 1) := Int.emod_nonneg _ (Int.ne_of_gt hpos)
  have s1 : ot % ((l.length : Int) + 1) < (l.length : Int) + 1 := Int.emod_lt_of_pos _ hpos
  obtain ⟨p, hp⟩ : ∃ p : Nat, mx % ((l.length : Int) + 1) = (p : Int) := ⟨_, (Int.toNat_of_nonneg p0).symm⟩
  obtain ⟨a, ha⟩ : ∃ a : Nat, ot % ((l.length : Int) + 1) = (a : Int) := ⟨_, (Int.toNat_of_nonneg s0).symm⟩
  refine ⟨_, rfl, _, rfl, l, rfl, small (by omega), _, _, rfl, rfl, _, _, rfl, rfl, hpos, ?_⟩
  show gName _ (V.int (mx % ((l.length : Int) + 1))) _ _ _
  rw [hp]
  rw [hp] at p1
  refine ⟨_, rfl, _, rfl, l, rfl, small (by omega), _, _, rfl, rfl, _, _, rfl, rfl, hpos, ?_⟩
  show gName _ (V.int (ot % ((l.length : Int) + 1))) _ _ _
  rw [ha]
  rw [ha] at s1
  have hp' : p ≤ l.length := by omega
  have ha' : a ≤ l.length := by omega
  have k0 : 0 ≤ mx / 64 % 3 := Int.emod_nonneg _ (by decide)
  have k1 : mx / 64 % 3 < 3 := Int.emod_lt_of_pos _ (by decide)
  obtain ⟨k, hk, hat⟩ : ∃ k, (k = 115 ∨ k = 114 ∨ k = 98) ∧ atI [115, 114, 98] (mx / 64 % 3) = some k := by
    have h : mx / 64 % 3 = 0 ∨ mx / 64 % 3 = 1 ∨ mx / 64 % 3 = 2 := by omega
    rcases h with h | h | h
    · rw [h]; exact ⟨115, .inl rfl, rfl⟩
    · rw [h]; exact ⟨114, .inr (.inl rfl), rfl⟩
    · rw [h]; exact ⟨98, .inr (.inr rfl), rfl⟩
  refine ⟨_, rfl, _, _, rfl, rfl, ⟨by decide, by decide⟩, _, _, rfl, rfl, (by show (0 : Int) < 3; decide), [115, 114, 98], _, _, rfl, rfl, small (by decide), hat, ?_⟩
  refine ⟨_, rfl, _, rfl, _, rfl, _, rfl, l, p, a, k, rfl, hl, hp', ha', hk, fun dv H1 S1 hdv => ?_⟩
  refine ⟨_, rfl, _, rfl, l, p, none, none, .non, rfl, by omega, hp', (fun a k z => by cases z), rfl, fun v1 H2 S2 hv1 => ?_⟩
  cases hv1
  refine ⟨rfl, _, rfl, iteNS rfl ?_⟩
  refine ⟨_, rfl, _, rfl, _, rfl, _, rfl, (by show 2 ≤ sizeLine; decide), fun t ht => ?_⟩
  have S3 := same_new ht (.tup [nV a, .str (S [k])])
  have S13 := S2.trans S3
  refine ⟨l, p, none, some (a, k), .ref t, rfl, by omega, hp', (fun b c z => by cases z; exact ha'), ⟨t, rfl, upd_same⟩, fun v2 H4 S4 hv2 => ?_⟩
  refine ⟨_, rfl, _, v2, dv, rfl, hv2, hdv.same (S13.trans S4), _, rfl, iteF ?_⟩
  have m0 : 0 ≤ ot / 64 % 999 := Int.emod_nonneg _ (by decide)
  refine ⟨_, rfl, _, rfl, _, rfl, _, _, rfl, rfl, ⟨by decide, by decide⟩, _, _, rfl, rfl, (by show (0 : Int) < 999; decide), _, _, rfl, rfl, ?_⟩
  obtain ⟨c, hc⟩ : ∃ c : Nat, 1 + ot / 64 % 999 = (c : Int) := ⟨_, (Int.toNat_of_nonneg (by omega)).symm⟩
  refine ⟨_, rfl, _, rfl, (by show 2 ≤ sizeLine; decide), fun t5 ht5 => ?_⟩
  have S5 := same_new ht5 (.tup [nV a, .str (S [k])])
  have S15 := S13.trans (S4.trans S5)
  refine ⟨l, p, some c, some (a, k), .ref t5, (by show [V.str (S [115]), V.str (S l), V.int (p : Int), V.int (1 + ot / 64 % 999), V.ref t5] ++ [] = _; rw [hc]; rfl), by omega, hp', (fun b c z => by cases z; exact ha'), ⟨t5, rfl, upd_same⟩, fun v3 H6 S6 hv3 => ?_⟩
  exact ⟨_, rfl, _, v3, dv, rfl, hv3, hdv.same (S15.trans S6), q _ (S1.trans (S15.trans S6))⟩
theorem sc_law : FnScope ["_law_script", "_law_text", "_law_cell"] ["_law_script"] (defScope s_law) := ⟨rfl, rfl, rfl, by decide +kernel, rfl, by decide +kernel, by decide +kernel⟩
theorem ok_law (F : Fun K "law" "law" s_law f fd) (O__law_sign_by : Own P w K mg base CX0 1 "_law_sign_by" ["_law_cell"] sp_sign) (O__law_cell_at : Own P w K mg base CX0 1 "_law_cell_at" ["_law_script", "_law_k"] (sp_cell K)) (O__law_asked : Own P w K mg base CX0 10 "_law_asked" ["_law_text", "_law_cell"] sp_asked) : FnOk P w K mg base CX0 11 f fd ["_law_script"] (sp_law K) := by
  refine F.ok sc_law (fun vs H Q E h => ?_) (fun cdv A outer s H vs Q E hr h => ?_)
  · obtain ⟨a, ns, rfl, _⟩ := h
    rfl
  obtain ⟨a, ns, rfl, hS, h63, q⟩ := h
  refine ⟨_, (pss_cons (ps_set (i := 1) sc_law.nd rfl (Or.inl rfl) (pe_bm PySem.F.plainAttrs_str PySem.F.slot_str_join PySem.F.type_str_join mt_join pe_str (pa_cons (pe_comp ["_law_cell"] _ [] rfl (cl_none ["_law_cell"] (by decide +kernel) rfl (by decide +kernel)) (pi_list (pe_slice sl_list (pv 0) (po_some pe_int) (po_some pe_int))) (fun _ _ _ _ => pg_name (i := 0) (nd1 _) rfl (Or.inl rfl)) (fun _ _ _ _ => pif_nil) (fun _ _ _ _ => (pe_own O__law_sign_by hr (by rfl) pass0 (pa_cons (pv 0) pa_nil)))) pa_nil)))
      (pss_cons (ps_if (pt_not (pt_val (pe_own O__law_asked hr (by rfl) pass0 (pa_cons (pv 1) (pa_cons (pe_own O__law_cell_at hr (by rfl) pass0 (pa_cons (pv 0) (pa_cons pe_int pa_nil))) pa_nil))))) (pss_one (ps_ret pe_bl)) pss_nil)
      (pss_cons (ps_for PassesOwn.never rfl (pi_list (pe_slice sl_list (pv 0) (po_some pe_int) (po_some pe_int))) (pg_name (i := 2) sc_law.nd rfl (Or.inl rfl)) (pss_one (ps_if (pt_not (pt_val (pe_own O__law_asked hr (by rfl) pass0 (pa_cons (pv 1) (pa_cons (pv 2) pa_nil))))) (pss_one (ps_ret pe_bl)) pss_nil)))
      (pss_one (ps_ret pe_bl))))), ?_⟩
  have cut63 : ∀ (i j : Option Int), (cutL ns i j).length ≤ 63 := fun i j => Nat.le_trans (cutL_le _ _ _) h63
  refine ⟨rfl, _, rfl, _, rfl, _, rfl, a, _, rfl, hS, fun d hd => ?_⟩
  have S1 := same_new hd (.lst (cutV (ns.map V.int) (some 2) (some 62)))
  have sqd : SqL K (upd H d (.lst (cutV (ns.map V.int) (some 2) (some 62)))) d ((cutL ns (some 2) (some 62)).map V.int) := sq_cut
  have hcut := cut63 (some 2) (some 62)
  refine ⟨d, rfl, ⟨_, sqd⟩, fun D hD => ?_⟩
  refine comp_signs [] rfl sqd hD (by omega) (fun x H' k S' h => ⟨_, rfl, x, rfl, fun c H2 hc S2 => h c H2 hc S2⟩) (fun l H2 S2 hl hc hD2 => ?_)
  have SD : SqL K H2 D ((l.map fun c => [c]).map fun r => V.str (S r)) := by rw [← ones_eq]; exact SqL.of hD2
  have SS := S1.trans S2
  refine ⟨D, l.map fun c => [c], rfl, rfl, SD, by rw [ones_flat]; omega, ?_⟩
  rw [ones_flat]
  refine ⟨_, rfl, _, rfl, a, ns, 0, rfl, SS.seq hS, l, _, rfl, by omega, fun H3 S3 => ⟨_, rfl, iteF ?_⟩⟩
  have SS3 := SS.trans S3
  refine ⟨_, rfl, _, rfl, _, rfl, a, _, rfl, SS3.seq hS, fun d2 hd2 => ?_⟩
  have S4 := same_new hd2 (.lst (cutV (ns.map V.int) (some 1) (some 61)))
  have sq2 : SqL K (upd H3 d2 (.lst (cutV (ns.map V.int) (some 1) (some 61)))) d2 ((cutL ns (some 1) (some 61)).map V.int) := sq_cut
  generalize upd H3 d2 (.lst (cutV (ns.map V.int) (some 1) (some 61))) = H4 at S4 sq2
  generalize cutL ns (some 1) (some 61) = cs at sq2
  refine ⟨d2, rfl, ⟨_, sq2⟩, ?_⟩
  refine for_list (xs := cs.map V.int) (fun i σ H' => Same H4 H' ∧ ∃ x : Option V, σ = [some (.ref a), some (.str (S l)), x]) ⟨Same.refl _, none, rfl⟩ (fun i σ H' _ h => h.1.seq sq2) ?_ ?_
  · rintro i v σ H' hv ⟨S5, x, rfl⟩
    obtain ⟨n, hn, rfl⟩ := List.mem_map.mp (List.mem_of_getElem? hv)
    exact ⟨_, rfl, _, rfl, l, n, rfl, by omega, fun H6 S6 => ⟨_, rfl, iteF ⟨S5.trans S6, _, rfl⟩⟩⟩
  · rintro σ H' ⟨S5, x, rfl⟩
    exact q H'
end
end My

set_option Elab.async false
set_option linter.all false
set_option maxRecDepth 100000
set_option maxHeartbeats 4000000
namespace My
open PySem L2


theorem len0 {α : Type} {us : List α} (h : us.length = 0) : us = [] := List.length_eq_zero_iff.mp h
theorem len1 {α : Type} {us : List α} (h : us.length = 1) : ∃ a, us = [a] := List.length_eq_one_iff.mp h
theorem len2 {α : Type} {us : List α} (h : us.length = 2) : ∃ a b, us = [a, b] := by
  cases us with
  | nil => cases h
  | cons a r => obtain ⟨b, rfl⟩ := len1 (Nat.succ.inj h); exact ⟨a, b, rfl⟩
theorem len3 {α : Type} {us : List α} (h : us.length = 3) : ∃ a b c, us = [a, b, c] := by
  cases us with
  | nil => cases h
  | cons a r => obtain ⟨b, c, rfl⟩ := len2 (Nat.succ.inj h); exact ⟨a, b, c, rfl⟩
theorem len4 {α : Type} {us : List α} (h : us.length = 4) : ∃ a b c d, us = [a, b, c, d] := by
  cases us with
  | nil => cases h
  | cons a r => obtain ⟨b, c, d, rfl⟩ := len3 (Nat.succ.inj h); exact ⟨a, b, c, d, rfl⟩
theorem len5 {α : Type} {us : List α} (h : us.length = 5) : ∃ a b c d e, us = [a, b, c, d, e] := by
  cases us with
  | nil => cases h
  | cons a r => obtain ⟨b, c, d, e, rfl⟩ := len4 (Nat.succ.inj h); exact ⟨a, b, c, d, e, rfl⟩

theorem all_mk {l : PySem.W.OpenLaw} {w : World} {K : PySem.W.Frag} {h : Heap} {mg : Str → Option Value} {fa : Addr} (X : K.In h) (G : h.Ns mainGlobals mg) (hfa : mg "law" = some (.ref fa))
    {f_is_whole : Addr} {od_is_whole an_is_whole : Option Addr} {sl_is_whole : Array (Option Value)} {oc_is_whole kV_is_whole dc_is_whole pm_is_whole cd_is_whole ct_is_whole : Value}
    (a_is_whole : PySem.W.nsIn K mainGlobals "is_whole" = some (some (.ref f_is_whole))) (l_is_whole : K.lookup f_is_whole = some ⟨oc_is_whole, od_is_whole, .func (PySem.W.fnOf "is_whole" "is_whole" (defArgs s_is_whole) (defBody s_is_whole) (defScope s_is_whole) .none kV_is_whole dc_is_whole pm_is_whole an_is_whole cd_is_whole ct_is_whole), sl_is_whole⟩) (c_is_whole : PySem.W.codeIn K cd_is_whole "is_whole" = true) (k_is_whole : PySem.W.keepIn K (.ref f_is_whole) = true)
    {f_is_place : Addr} {od_is_place an_is_place : Option Addr} {sl_is_place : Array (Option Value)} {oc_is_place kV_is_place dc_is_place pm_is_place cd_is_place ct_is_place : Value}
    (a_is_place : PySem.W.nsIn K mainGlobals "is_place" = some (some (.ref f_is_place))) (l_is_place : K.lookup f_is_place = some ⟨oc_is_place, od_is_place, .func (PySem.W.fnOf "is_place" "is_place" (defArgs s_is_place) (defBody s_is_place) (defScope s_is_place) .none kV_is_place dc_is_place pm_is_place an_is_place cd_is_place ct_is_place), sl_is_place⟩) (c_is_place : PySem.W.codeIn K cd_is_place "is_place" = true) (k_is_place : PySem.W.keepIn K (.ref f_is_place) = true)
    {f_is_row : Addr} {od_is_row an_is_row : Option Addr} {sl_is_row : Array (Option Value)} {oc_is_row kV_is_row dc_is_row pm_is_row cd_is_row ct_is_row : Value}
    (a_is_row : PySem.W.nsIn K mainGlobals "is_row" = some (some (.ref f_is_row))) (l_is_row : K.lookup f_is_row = some ⟨oc_is_row, od_is_row, .func (PySem.W.fnOf "is_row" "is_row" (defArgs s_is_row) (defBody s_is_row) (defScope s_is_row) .none kV_is_row dc_is_row pm_is_row an_is_row cd_is_row ct_is_row), sl_is_row⟩) (c_is_row : PySem.W.codeIn K cd_is_row "is_row" = true) (k_is_row : PySem.W.keepIn K (.ref f_is_row) = true)
    {f_check_place : Addr} {od_check_place an_check_place : Option Addr} {sl_check_place : Array (Option Value)} {oc_check_place kV_check_place dc_check_place pm_check_place cd_check_place ct_check_place : Value}
    (a_check_place : PySem.W.nsIn K mainGlobals "check_place" = some (some (.ref f_check_place))) (l_check_place : K.lookup f_check_place = some ⟨oc_check_place, od_check_place, .func (PySem.W.fnOf "check_place" "check_place" (defArgs s_check_place) (defBody s_check_place) (defScope s_check_place) .none kV_check_place dc_check_place pm_check_place an_check_place cd_check_place ct_check_place), sl_check_place⟩) (c_check_place : PySem.W.codeIn K cd_check_place "check_place" = true) (k_check_place : PySem.W.keepIn K (.ref f_check_place) = true)
    {f_check_row : Addr} {od_check_row an_check_row : Option Addr} {sl_check_row : Array (Option Value)} {oc_check_row kV_check_row dc_check_row pm_check_row cd_check_row ct_check_row : Value}
    (a_check_row : PySem.W.nsIn K mainGlobals "check_row" = some (some (.ref f_check_row))) (l_check_row : K.lookup f_check_row = some ⟨oc_check_row, od_check_row, .func (PySem.W.fnOf "check_row" "check_row" (defArgs s_check_row) (defBody s_check_row) (defScope s_check_row) .none kV_check_row dc_check_row pm_check_row an_check_row cd_check_row ct_check_row), sl_check_row⟩) (c_check_row : PySem.W.codeIn K cd_check_row "check_row" = true) (k_check_row : PySem.W.keepIn K (.ref f_check_row) = true)
    {f_row_count : Addr} {od_row_count an_row_count : Option Addr} {sl_row_count : Array (Option Value)} {oc_row_count kV_row_count dc_row_count pm_row_count cd_row_count ct_row_count : Value}
    (a_row_count : PySem.W.nsIn K mainGlobals "row_count" = some (some (.ref f_row_count))) (l_row_count : K.lookup f_row_count = some ⟨oc_row_count, od_row_count, .func (PySem.W.fnOf "row_count" "row_count" (defArgs s_row_count) (defBody s_row_count) (defScope s_row_count) .none kV_row_count dc_row_count pm_row_count an_row_count cd_row_count ct_row_count), sl_row_count⟩) (c_row_count : PySem.W.codeIn K cd_row_count "row_count" = true) (k_row_count : PySem.W.keepIn K (.ref f_row_count) = true)
    {f_row_of : Addr} {od_row_of an_row_of : Option Addr} {sl_row_of : Array (Option Value)} {oc_row_of kV_row_of dc_row_of pm_row_of cd_row_of ct_row_of : Value}
    (a_row_of : PySem.W.nsIn K mainGlobals "row_of" = some (some (.ref f_row_of))) (l_row_of : K.lookup f_row_of = some ⟨oc_row_of, od_row_of, .func (PySem.W.fnOf "row_of" "row_of" (defArgs s_row_of) (defBody s_row_of) (defScope s_row_of) .none kV_row_of dc_row_of pm_row_of an_row_of cd_row_of ct_row_of), sl_row_of⟩) (c_row_of : PySem.W.codeIn K cd_row_of "row_of" = true) (k_row_of : PySem.W.keepIn K (.ref f_row_of) = true)
    {f_begin_of : Addr} {od_begin_of an_begin_of : Option Addr} {sl_begin_of : Array (Option Value)} {oc_begin_of kV_begin_of dc_begin_of pm_begin_of cd_begin_of ct_begin_of : Value}
    (a_begin_of : PySem.W.nsIn K mainGlobals "begin_of" = some (some (.ref f_begin_of))) (l_begin_of : K.lookup f_begin_of = some ⟨oc_begin_of, od_begin_of, .func (PySem.W.fnOf "begin_of" "begin_of" (defArgs s_begin_of) (defBody s_begin_of) (defScope s_begin_of) .none kV_begin_of dc_begin_of pm_begin_of an_begin_of cd_begin_of ct_begin_of), sl_begin_of⟩) (c_begin_of : PySem.W.codeIn K cd_begin_of "begin_of" = true) (k_begin_of : PySem.W.keepIn K (.ref f_begin_of) = true)
    {f_end_of : Addr} {od_end_of an_end_of : Option Addr} {sl_end_of : Array (Option Value)} {oc_end_of kV_end_of dc_end_of pm_end_of cd_end_of ct_end_of : Value}
    (a_end_of : PySem.W.nsIn K mainGlobals "end_of" = some (some (.ref f_end_of))) (l_end_of : K.lookup f_end_of = some ⟨oc_end_of, od_end_of, .func (PySem.W.fnOf "end_of" "end_of" (defArgs s_end_of) (defBody s_end_of) (defScope s_end_of) .none kV_end_of dc_end_of pm_end_of an_end_of cd_end_of ct_end_of), sl_end_of⟩) (c_end_of : PySem.W.codeIn K cd_end_of "end_of" = true) (k_end_of : PySem.W.keepIn K (.ref f_end_of) = true)
    {f_behind_of : Addr} {od_behind_of an_behind_of : Option Addr} {sl_behind_of : Array (Option Value)} {oc_behind_of kV_behind_of dc_behind_of pm_behind_of cd_behind_of ct_behind_of : Value}
    (a_behind_of : PySem.W.nsIn K mainGlobals "behind_of" = some (some (.ref f_behind_of))) (l_behind_of : K.lookup f_behind_of = some ⟨oc_behind_of, od_behind_of, .func (PySem.W.fnOf "behind_of" "behind_of" (defArgs s_behind_of) (defBody s_behind_of) (defScope s_behind_of) .none kV_behind_of dc_behind_of pm_behind_of an_behind_of cd_behind_of ct_behind_of), sl_behind_of⟩) (c_behind_of : PySem.W.codeIn K cd_behind_of "behind_of" = true) (k_behind_of : PySem.W.keepIn K (.ref f_behind_of) = true)
    {f_between : Addr} {od_between an_between : Option Addr} {sl_between : Array (Option Value)} {oc_between kV_between dc_between pm_between cd_between ct_between : Value}
    (a_between : PySem.W.nsIn K mainGlobals "between" = some (some (.ref f_between))) (l_between : K.lookup f_between = some ⟨oc_between, od_between, .func (PySem.W.fnOf "between" "between" (defArgs s_between) (defBody s_between) (defScope s_between) .none kV_between dc_between pm_between an_between cd_between ct_between), sl_between⟩) (c_between : PySem.W.codeIn K cd_between "between" = true) (k_between : PySem.W.keepIn K (.ref f_between) = true)
    {f_rows_between : Addr} {od_rows_between an_rows_between : Option Addr} {sl_rows_between : Array (Option Value)} {oc_rows_between kV_rows_between dc_rows_between pm_rows_between cd_rows_between ct_rows_between : Value}
    (a_rows_between : PySem.W.nsIn K mainGlobals "rows_between" = some (some (.ref f_rows_between))) (l_rows_between : K.lookup f_rows_between = some ⟨oc_rows_between, od_rows_between, .func (PySem.W.fnOf "rows_between" "rows_between" (defArgs s_rows_between) (defBody s_rows_between) (defScope s_rows_between) .none kV_rows_between dc_rows_between pm_rows_between an_rows_between cd_rows_between ct_rows_between), sl_rows_between⟩) (c_rows_between : PySem.W.codeIn K cd_rows_between "rows_between" = true) (k_rows_between : PySem.W.keepIn K (.ref f_rows_between) = true)
    {f_seen_stretch : Addr} {od_seen_stretch an_seen_stretch : Option Addr} {sl_seen_stretch : Array (Option Value)} {oc_seen_stretch kV_seen_stretch dc_seen_stretch pm_seen_stretch cd_seen_stretch ct_seen_stretch : Value}
    (a_seen_stretch : PySem.W.nsIn K mainGlobals "seen_stretch" = some (some (.ref f_seen_stretch))) (l_seen_stretch : K.lookup f_seen_stretch = some ⟨oc_seen_stretch, od_seen_stretch, .func (PySem.W.fnOf "seen_stretch" "seen_stretch" (defArgs s_seen_stretch) (defBody s_seen_stretch) (defScope s_seen_stretch) .none kV_seen_stretch dc_seen_stretch pm_seen_stretch an_seen_stretch cd_seen_stretch ct_seen_stretch), sl_seen_stretch⟩) (c_seen_stretch : PySem.W.codeIn K cd_seen_stretch "seen_stretch" = true) (k_seen_stretch : PySem.W.keepIn K (.ref f_seen_stretch) = true)
    {f_rows_from : Addr} {od_rows_from an_rows_from : Option Addr} {sl_rows_from : Array (Option Value)} {oc_rows_from kV_rows_from dc_rows_from pm_rows_from cd_rows_from ct_rows_from : Value}
    (a_rows_from : PySem.W.nsIn K mainGlobals "rows_from" = some (some (.ref f_rows_from))) (l_rows_from : K.lookup f_rows_from = some ⟨oc_rows_from, od_rows_from, .func (PySem.W.fnOf "rows_from" "rows_from" (defArgs s_rows_from) (defBody s_rows_from) (defScope s_rows_from) .none kV_rows_from dc_rows_from pm_rows_from an_rows_from cd_rows_from ct_rows_from), sl_rows_from⟩) (c_rows_from : PySem.W.codeIn K cd_rows_from "rows_from" = true) (k_rows_from : PySem.W.keepIn K (.ref f_rows_from) = true)
    {f_inside : Addr} {od_inside an_inside : Option Addr} {sl_inside : Array (Option Value)} {oc_inside kV_inside dc_inside pm_inside cd_inside ct_inside : Value}
    (a_inside : PySem.W.nsIn K mainGlobals "inside" = some (some (.ref f_inside))) (l_inside : K.lookup f_inside = some ⟨oc_inside, od_inside, .func (PySem.W.fnOf "inside" "inside" (defArgs s_inside) (defBody s_inside) (defScope s_inside) .none kV_inside dc_inside pm_inside an_inside cd_inside ct_inside), sl_inside⟩) (c_inside : PySem.W.codeIn K cd_inside "inside" = true) (k_inside : PySem.W.keepIn K (.ref f_inside) = true)
    {f_outside : Addr} {od_outside an_outside : Option Addr} {sl_outside : Array (Option Value)} {oc_outside kV_outside dc_outside pm_outside cd_outside ct_outside : Value}
    (a_outside : PySem.W.nsIn K mainGlobals "outside" = some (some (.ref f_outside))) (l_outside : K.lookup f_outside = some ⟨oc_outside, od_outside, .func (PySem.W.fnOf "outside" "outside" (defArgs s_outside) (defBody s_outside) (defScope s_outside) .none kV_outside dc_outside pm_outside an_outside cd_outside ct_outside), sl_outside⟩) (c_outside : PySem.W.codeIn K cd_outside "outside" = true) (k_outside : PySem.W.keepIn K (.ref f_outside) = true)
    {f_brackets_round : Addr} {od_brackets_round an_brackets_round : Option Addr} {sl_brackets_round : Array (Option Value)} {oc_brackets_round kV_brackets_round dc_brackets_round pm_brackets_round cd_brackets_round ct_brackets_round : Value}
    (a_brackets_round : PySem.W.nsIn K mainGlobals "brackets_round" = some (some (.ref f_brackets_round))) (l_brackets_round : K.lookup f_brackets_round = some ⟨oc_brackets_round, od_brackets_round, .func (PySem.W.fnOf "brackets_round" "brackets_round" (defArgs s_brackets_round) (defBody s_brackets_round) (defScope s_brackets_round) .none kV_brackets_round dc_brackets_round pm_brackets_round an_brackets_round cd_brackets_round ct_brackets_round), sl_brackets_round⟩) (c_brackets_round : PySem.W.codeIn K cd_brackets_round "brackets_round" = true) (k_brackets_round : PySem.W.keepIn K (.ref f_brackets_round) = true)
    {f_opening_of : Addr} {od_opening_of an_opening_of : Option Addr} {sl_opening_of : Array (Option Value)} {oc_opening_of kV_opening_of dc_opening_of pm_opening_of cd_opening_of ct_opening_of : Value}
    (a_opening_of : PySem.W.nsIn K mainGlobals "opening_of" = some (some (.ref f_opening_of))) (l_opening_of : K.lookup f_opening_of = some ⟨oc_opening_of, od_opening_of, .func (PySem.W.fnOf "opening_of" "opening_of" (defArgs s_opening_of) (defBody s_opening_of) (defScope s_opening_of) .none kV_opening_of dc_opening_of pm_opening_of an_opening_of cd_opening_of ct_opening_of), sl_opening_of⟩) (c_opening_of : PySem.W.codeIn K cd_opening_of "opening_of" = true) (k_opening_of : PySem.W.keepIn K (.ref f_opening_of) = true)
    {f_stretch : Addr} {od_stretch an_stretch : Option Addr} {sl_stretch : Array (Option Value)} {oc_stretch kV_stretch dc_stretch pm_stretch cd_stretch ct_stretch : Value}
    {dT_stretch : Addr} {dO_stretch : Value} {dD_stretch : Option Addr} {dN_stretch : Nat} {dS_stretch : Array (Option Value)} (dl_stretch : K.lookup dT_stretch = some ⟨dO_stretch, dD_stretch, .seq #[.none, .none] dN_stretch, dS_stretch⟩)
    (a_stretch : PySem.W.nsIn K mainGlobals "stretch" = some (some (.ref f_stretch))) (l_stretch : K.lookup f_stretch = some ⟨oc_stretch, od_stretch, .func (PySem.W.fnOf "stretch" "stretch" (defArgs s_stretch) (defBody s_stretch) (defScope s_stretch) (.ref dT_stretch) kV_stretch dc_stretch pm_stretch an_stretch cd_stretch ct_stretch), sl_stretch⟩) (c_stretch : PySem.W.codeIn K cd_stretch "stretch" = true) (k_stretch : PySem.W.keepIn K (.ref f_stretch) = true)
    {f__law_cell_at : Addr} {od__law_cell_at an__law_cell_at : Option Addr} {sl__law_cell_at : Array (Option Value)} {oc__law_cell_at kV__law_cell_at dc__law_cell_at pm__law_cell_at cd__law_cell_at ct__law_cell_at : Value}
    (a__law_cell_at : PySem.W.nsIn K mainGlobals "_law_cell_at" = some (some (.ref f__law_cell_at))) (l__law_cell_at : K.lookup f__law_cell_at = some ⟨oc__law_cell_at, od__law_cell_at, .func (PySem.W.fnOf "_law_cell_at" "_law_cell_at" (defArgs s__law_cell_at) (defBody s__law_cell_at) (defScope s__law_cell_at) .none kV__law_cell_at dc__law_cell_at pm__law_cell_at an__law_cell_at cd__law_cell_at ct__law_cell_at), sl__law_cell_at⟩) (c__law_cell_at : PySem.W.codeIn K cd__law_cell_at "_law_cell_at" = true) (k__law_cell_at : PySem.W.keepIn K (.ref f__law_cell_at) = true)
    {f__law_whole : Addr} {od__law_whole an__law_whole : Option Addr} {sl__law_whole : Array (Option Value)} {oc__law_whole kV__law_whole dc__law_whole pm__law_whole cd__law_whole ct__law_whole : Value}
    (a__law_whole : PySem.W.nsIn K mainGlobals "_law_whole" = some (some (.ref f__law_whole))) (l__law_whole : K.lookup f__law_whole = some ⟨oc__law_whole, od__law_whole, .func (PySem.W.fnOf "_law_whole" "_law_whole" (defArgs s__law_whole) (defBody s__law_whole) (defScope s__law_whole) .none kV__law_whole dc__law_whole pm__law_whole an__law_whole cd__law_whole ct__law_whole), sl__law_whole⟩) (c__law_whole : PySem.W.codeIn K cd__law_whole "_law_whole" = true) (k__law_whole : PySem.W.keepIn K (.ref f__law_whole) = true)
    {f__law_sign_by : Addr} {od__law_sign_by an__law_sign_by : Option Addr} {sl__law_sign_by : Array (Option Value)} {oc__law_sign_by kV__law_sign_by dc__law_sign_by pm__law_sign_by cd__law_sign_by ct__law_sign_by : Value}
    (a__law_sign_by : PySem.W.nsIn K mainGlobals "_law_sign_by" = some (some (.ref f__law_sign_by))) (l__law_sign_by : K.lookup f__law_sign_by = some ⟨oc__law_sign_by, od__law_sign_by, .func (PySem.W.fnOf "_law_sign_by" "_law_sign_by" (defArgs s__law_sign_by) (defBody s__law_sign_by) (defScope s__law_sign_by) .none kV__law_sign_by dc__law_sign_by pm__law_sign_by an__law_sign_by cd__law_sign_by ct__law_sign_by), sl__law_sign_by⟩) (c__law_sign_by : PySem.W.codeIn K cd__law_sign_by "_law_sign_by" = true) (k__law_sign_by : PySem.W.keepIn K (.ref f__law_sign_by) = true)
    {f__law_begins : Addr} {od__law_begins an__law_begins : Option Addr} {sl__law_begins : Array (Option Value)} {oc__law_begins kV__law_begins dc__law_begins pm__law_begins cd__law_begins ct__law_begins : Value}
    (a__law_begins : PySem.W.nsIn K mainGlobals "_law_begins" = some (some (.ref f__law_begins))) (l__law_begins : K.lookup f__law_begins = some ⟨oc__law_begins, od__law_begins, .func (PySem.W.fnOf "_law_begins" "_law_begins" (defArgs s__law_begins) (defBody s__law_begins) (defScope s__law_begins) .none kV__law_begins dc__law_begins pm__law_begins an__law_begins cd__law_begins ct__law_begins), sl__law_begins⟩) (c__law_begins : PySem.W.codeIn K cd__law_begins "_law_begins" = true) (k__law_begins : PySem.W.keepIn K (.ref f__law_begins) = true)
    {f__law_due : Addr} {od__law_due an__law_due : Option Addr} {sl__law_due : Array (Option Value)} {oc__law_due kV__law_due dc__law_due pm__law_due cd__law_due ct__law_due : Value}
    (a__law_due : PySem.W.nsIn K mainGlobals "_law_due" = some (some (.ref f__law_due))) (l__law_due : K.lookup f__law_due = some ⟨oc__law_due, od__law_due, .func (PySem.W.fnOf "_law_due" "_law_due" (defArgs s__law_due) (defBody s__law_due) (defScope s__law_due) .none kV__law_due dc__law_due pm__law_due an__law_due cd__law_due ct__law_due), sl__law_due⟩) (c__law_due : PySem.W.codeIn K cd__law_due "_law_due" = true) (k__law_due : PySem.W.keepIn K (.ref f__law_due) = true)
    {f__law_same : Addr} {od__law_same an__law_same : Option Addr} {sl__law_same : Array (Option Value)} {oc__law_same kV__law_same dc__law_same pm__law_same cd__law_same ct__law_same : Value}
    (a__law_same : PySem.W.nsIn K mainGlobals "_law_same" = some (some (.ref f__law_same))) (l__law_same : K.lookup f__law_same = some ⟨oc__law_same, od__law_same, .func (PySem.W.fnOf "_law_same" "_law_same" (defArgs s__law_same) (defBody s__law_same) (defScope s__law_same) .none kV__law_same dc__law_same pm__law_same an__law_same cd__law_same ct__law_same), sl__law_same⟩) (c__law_same : PySem.W.codeIn K cd__law_same "_law_same" = true) (k__law_same : PySem.W.keepIn K (.ref f__law_same) = true)
    {f__law_asked : Addr} {od__law_asked an__law_asked : Option Addr} {sl__law_asked : Array (Option Value)} {oc__law_asked kV__law_asked dc__law_asked pm__law_asked cd__law_asked ct__law_asked : Value}
    (a__law_asked : PySem.W.nsIn K mainGlobals "_law_asked" = some (some (.ref f__law_asked))) (l__law_asked : K.lookup f__law_asked = some ⟨oc__law_asked, od__law_asked, .func (PySem.W.fnOf "_law_asked" "_law_asked" (defArgs s__law_asked) (defBody s__law_asked) (defScope s__law_asked) .none kV__law_asked dc__law_asked pm__law_asked an__law_asked cd__law_asked ct__law_asked), sl__law_asked⟩) (c__law_asked : PySem.W.codeIn K cd__law_asked "_law_asked" = true) (k__law_asked : PySem.W.keepIn K (.ref f__law_asked) = true)
    {f_law : Addr} {od_law an_law : Option Addr} {sl_law : Array (Option Value)} {oc_law kV_law dc_law pm_law cd_law ct_law : Value}
    (a_law : PySem.W.nsIn K mainGlobals "law" = some (some (.ref f_law))) (l_law : K.lookup f_law = some ⟨oc_law, od_law, .func (PySem.W.fnOf "law" "law" (defArgs s_law) (defBody s_law) (defScope s_law) .none kV_law dc_law pm_law an_law cd_law ct_law), sl_law⟩) (c_law : PySem.W.codeIn K cd_law "law" = true) (k_law : PySem.W.keepIn K (.ref f_law) = true)
    {C_OPENING : Addr} (n_OPENING : PySem.W.nsIn K mainGlobals "OPENING" = some (some (.ref C_OPENING)))
    {C_CLOSING : Addr} (n_CLOSING : PySem.W.nsIn K mainGlobals "CLOSING" = some (some (.ref C_CLOSING)))
    {C_COUNT_PASSED_OVER : Addr} (n_COUNT_PASSED_OVER : PySem.W.nsIn K mainGlobals "COUNT_PASSED_OVER" = some (some (.ref C_COUNT_PASSED_OVER)))
    (z_len : PySem.W.nsIn K mainGlobals "len" = some none) (z_min : PySem.W.nsIn K mainGlobals "min" = some none) (z_max : PySem.W.nsIn K mainGlobals "max" = some none) (z_isinstance : PySem.W.nsIn K mainGlobals "isinstance" = some none) (z_int : PySem.W.nsIn K mainGlobals "int" = some none) (z_bool : PySem.W.nsIn K mainGlobals "bool" = some none) (z_str : PySem.W.nsIn K mainGlobals "str" = some none) (z_tuple : PySem.W.nsIn K mainGlobals "tuple" = some none) :
    ∃ fd : FuncData, (∀ (s : Shared) (v : Value), BindsTo s fd ⟨[v], []⟩ [("_law_script", v)]) ∧ ∀ base : Heap, K.In base → base.Ns mainGlobals mg → FnOk l.prog w K mg base CX0 11 fa fd ["_law_script"] (sp_law K) := by
  have e := hfa.symm.trans (PySem.W.mg_of X G a_law)
  cases e
  have F_is_whole := fun_mk (st := s_is_whole) l_is_whole c_is_whole k_is_whole
  have b_is_whole := F_is_whole.binds (ps := ["value"]) fun _ _ _ _ _ _ us hl => (by obtain ⟨_, rfl⟩ := len1 hl; rfl)
  have F_is_place := fun_mk (st := s_is_place) l_is_place c_is_place k_is_place
  have b_is_place := F_is_place.binds (ps := ["text", "place"]) fun _ _ _ _ _ _ us hl => (by obtain ⟨_, _, rfl⟩ := len2 hl; rfl)
  have F_is_row := fun_mk (st := s_is_row) l_is_row c_is_row k_is_row
  have b_is_row := F_is_row.binds (ps := ["text", "row"]) fun _ _ _ _ _ _ us hl => (by obtain ⟨_, _, rfl⟩ := len2 hl; rfl)
  have F_check_place := fun_mk (st := s_check_place) l_check_place c_check_place k_check_place
  have b_check_place := F_check_place.binds (ps := ["text", "place"]) fun _ _ _ _ _ _ us hl => (by obtain ⟨_, _, rfl⟩ := len2 hl; rfl)
  have F_check_row := fun_mk (st := s_check_row) l_check_row c_check_row k_check_row
  have b_check_row := F_check_row.binds (ps := ["text", "row"]) fun _ _ _ _ _ _ us hl => (by obtain ⟨_, _, rfl⟩ := len2 hl; rfl)
  have F_row_count := fun_mk (st := s_row_count) l_row_count c_row_count k_row_count
  have b_row_count := F_row_count.binds (ps := ["text"]) fun _ _ _ _ _ _ us hl => (by obtain ⟨_, rfl⟩ := len1 hl; rfl)
  have F_row_of := fun_mk (st := s_row_of) l_row_of c_row_of k_row_of
  have b_row_of := F_row_of.binds (ps := ["text", "place"]) fun _ _ _ _ _ _ us hl => (by obtain ⟨_, _, rfl⟩ := len2 hl; rfl)
  have F_begin_of := fun_mk (st := s_begin_of) l_begin_of c_begin_of k_begin_of
  have b_begin_of := F_begin_of.binds (ps := ["text", "row"]) fun _ _ _ _ _ _ us hl => (by obtain ⟨_, _, rfl⟩ := len2 hl; rfl)
  have F_end_of := fun_mk (st := s_end_of) l_end_of c_end_of k_end_of
  have b_end_of := F_end_of.binds (ps := ["text", "row"]) fun _ _ _ _ _ _ us hl => (by obtain ⟨_, _, rfl⟩ := len2 hl; rfl)
  have F_behind_of := fun_mk (st := s_behind_of) l_behind_of c_behind_of k_behind_of
  have b_behind_of := F_behind_of.binds (ps := ["text", "row"]) fun _ _ _ _ _ _ us hl => (by obtain ⟨_, _, rfl⟩ := len2 hl; rfl)
  have F_between := fun_mk (st := s_between) l_between c_between k_between
  have b_between := F_between.binds (ps := ["one", "other", "kind"]) fun _ _ _ _ _ _ us hl => (by obtain ⟨_, _, _, rfl⟩ := len3 hl; rfl)
  have F_rows_between := fun_mk (st := s_rows_between) l_rows_between c_rows_between k_rows_between
  have b_rows_between := F_rows_between.binds (ps := ["text", "one", "other"]) fun _ _ _ _ _ _ us hl => (by obtain ⟨_, _, _, rfl⟩ := len3 hl; rfl)
  have F_seen_stretch := fun_mk (st := s_seen_stretch) l_seen_stretch c_seen_stretch k_seen_stretch
  have b_seen_stretch := F_seen_stretch.binds (ps := ["text", "place", "seen"]) fun _ _ _ _ _ _ us hl => (by obtain ⟨_, _, _, rfl⟩ := len3 hl; rfl)
  have F_rows_from := fun_mk (st := s_rows_from) l_rows_from c_rows_from k_rows_from
  have b_rows_from := F_rows_from.binds (ps := ["text", "place", "many"]) fun _ _ _ _ _ _ us hl => (by obtain ⟨_, _, _, rfl⟩ := len3 hl; rfl)
  have F_inside := fun_mk (st := s_inside) l_inside c_inside k_inside
  have b_inside := F_inside.binds (ps := ["pair"]) fun _ _ _ _ _ _ us hl => (by obtain ⟨_, rfl⟩ := len1 hl; rfl)
  have F_outside := fun_mk (st := s_outside) l_outside c_outside k_outside
  have b_outside := F_outside.binds (ps := ["pair"]) fun _ _ _ _ _ _ us hl => (by obtain ⟨_, rfl⟩ := len1 hl; rfl)
  have F_brackets_round := fun_mk (st := s_brackets_round) l_brackets_round c_brackets_round k_brackets_round
  have b_brackets_round := F_brackets_round.binds (ps := ["text", "place", "opening", "many"]) fun _ _ _ _ _ _ us hl => (by obtain ⟨_, _, _, _, rfl⟩ := len4 hl; rfl)
  have F_opening_of := fun_mk (st := s_opening_of) l_opening_of c_opening_of k_opening_of
  have b_opening_of := F_opening_of.binds (ps := ["closing"]) fun _ _ _ _ _ _ us hl => (by obtain ⟨_, rfl⟩ := len1 hl; rfl)
  have F_stretch := funD_mk (st := s_stretch) l_stretch c_stretch k_stretch
  have b_stretch_0 : Binds K _ ["key", "text", "place", "count", "seen"] [] := fun s us X hl => match us, (show us.length = 5 by simpa using hl) with | [_, _, _, _, _], _ => PySem.W.binds_K (fd := PySem.W.fnOf "stretch" "stretch" (defArgs s_stretch) (defBody s_stretch) (defScope s_stretch) (.ref dT_stretch) kV_stretch dc_stretch pm_stretch an_stretch cd_stretch ct_stretch) X rfl dl_stretch rfl rfl rfl
  have b_stretch_1 : Binds K _ ["key", "text", "place", "count", "seen"] [.none] := fun s us X hl => match us, (show us.length = 4 by simpa using hl) with | [_, _, _, _], _ => PySem.W.binds_K (fd := PySem.W.fnOf "stretch" "stretch" (defArgs s_stretch) (defBody s_stretch) (defScope s_stretch) (.ref dT_stretch) kV_stretch dc_stretch pm_stretch an_stretch cd_stretch ct_stretch) X rfl dl_stretch rfl rfl rfl
  have b_stretch_2 : Binds K _ ["key", "text", "place", "count", "seen"] [.none, .none] := fun s us X hl => match us, (show us.length = 3 by simpa using hl) with | [_, _, _], _ => PySem.W.binds_K (fd := PySem.W.fnOf "stretch" "stretch" (defArgs s_stretch) (defBody s_stretch) (defScope s_stretch) (.ref dT_stretch) kV_stretch dc_stretch pm_stretch an_stretch cd_stretch ct_stretch) X rfl dl_stretch rfl rfl rfl
  have F__law_cell_at := fun_mk (st := s__law_cell_at) l__law_cell_at c__law_cell_at k__law_cell_at
  have b__law_cell_at := F__law_cell_at.binds (ps := ["_law_script", "_law_k"]) fun _ _ _ _ _ _ us hl => (by obtain ⟨_, _, rfl⟩ := len2 hl; rfl)
  have F__law_whole := fun_mk (st := s__law_whole) l__law_whole c__law_whole k__law_whole
  have b__law_whole := F__law_whole.binds (ps := ["_law_found"]) fun _ _ _ _ _ _ us hl => (by obtain ⟨_, rfl⟩ := len1 hl; rfl)
  have F__law_sign_by := fun_mk (st := s__law_sign_by) l__law_sign_by c__law_sign_by k__law_sign_by
  have b__law_sign_by := F__law_sign_by.binds (ps := ["_law_cell"]) fun _ _ _ _ _ _ us hl => (by obtain ⟨_, rfl⟩ := len1 hl; rfl)
  have F__law_begins := fun_mk (st := s__law_begins) l__law_begins c__law_begins k__law_begins
  have b__law_begins := F__law_begins.binds (ps := ["_law_text"]) fun _ _ _ _ _ _ us hl => (by obtain ⟨_, rfl⟩ := len1 hl; rfl)
  have F__law_due := fun_mk (st := s__law_due) l__law_due c__law_due k__law_due
  have b__law_due := F__law_due.binds (ps := ["_law_text", "_law_place", "_law_start", "_law_look"]) fun _ _ _ _ _ _ us hl => (by obtain ⟨_, _, _, _, rfl⟩ := len4 hl; rfl)
  have F__law_same := fun_mk (st := s__law_same) l__law_same c__law_same k__law_same
  have b__law_same := F__law_same.binds (ps := ["_law_found", "_law_due_here"]) fun _ _ _ _ _ _ us hl => (by obtain ⟨_, _, rfl⟩ := len2 hl; rfl)
  have F__law_asked := fun_mk (st := s__law_asked) l__law_asked c__law_asked k__law_asked
  have b__law_asked := F__law_asked.binds (ps := ["_law_text", "_law_cell"]) fun _ _ _ _ _ _ us hl => (by obtain ⟨_, _, rfl⟩ := len2 hl; rfl)
  have F_law := fun_mk (st := s_law) l_law c_law k_law
  have b_law := F_law.binds (ps := ["_law_script"]) fun _ _ _ _ _ _ us hl => (by obtain ⟨_, rfl⟩ := len1 hl; rfl)
  have m := fun (x : Str) (z : PySem.W.nsIn K mainGlobals x = some none) => PySem.W.mg_none_of X G z
  have ml := m _ z_len
  refine ⟨PySem.W.fnOf "law" "law" (defArgs s_law) (defBody s_law) (defScope s_law) .none kV_law dc_law pm_law an_law cd_law ct_law, fun s v => .of_eq rfl, fun base _ _ => ?_⟩
  have Oiw : Own l.prog w K mg base CX0 1 "is_whole" ["value"] sp_whole := ⟨_, _, ok_is_whole F_is_whole (m _ z_isinstance) (m _ z_int) (m _ z_bool), b_is_whole, k_is_whole, PySem.W.mg_of X G a_is_whole⟩
  have Oip : Own l.prog w K mg base CX0 2 "is_place" ["text", "place"] sp_is_place := ⟨_, _, ok_is_place F_is_place Oiw ml, b_is_place, k_is_place, PySem.W.mg_of X G a_is_place⟩
  have Orc : Own l.prog w K mg base CX0 1 "row_count" ["text"] sp_row_count := ⟨_, _, ok_row_count F_row_count, b_row_count, k_row_count, PySem.W.mg_of X G a_row_count⟩
  have Oir : Own l.prog w K mg base CX0 2 "is_row" ["text", "row"] sp_is_row := ⟨_, _, ok_is_row F_is_row Oiw Orc, b_is_row, k_is_row, PySem.W.mg_of X G a_is_row⟩
  have Ocp : Own l.prog w K mg base CX0 3 "check_place" ["text", "place"] sp_chk_p := ⟨_, _, ok_chk_p F_check_place Oip, b_check_place, k_check_place, PySem.W.mg_of X G a_check_place⟩
  have Ocr : Own l.prog w K mg base CX0 3 "check_row" ["text", "row"] sp_chk_r := ⟨_, _, ok_chk_r F_check_row Oir, b_check_row, k_check_row, PySem.W.mg_of X G a_check_row⟩
  have Iro : Own l.prog w K mg base CX0 4 "row_of" ["text", "place"] sp_row_in := ⟨_, _, ok_row_of F_row_of Ocp, b_row_of, k_row_of, PySem.W.mg_of X G a_row_of⟩
  have Ibg : Own l.prog w K mg base CX0 4 "begin_of" ["text", "row"] sp_beg_in := ⟨_, _, ok_begin_of F_begin_of Ocr ml, b_begin_of, k_begin_of, PySem.W.mg_of X G a_begin_of⟩
  have Ien : Own l.prog w K mg base CX0 5 "end_of" ["text", "row"] sp_end_in := ⟨_, _, ok_end_of F_end_of Ibg ml, b_end_of, k_end_of, PySem.W.mg_of X G a_end_of⟩
  have Ibh : Own l.prog w K mg base CX0 6 "behind_of" ["text", "row"] sp_bhd_in := ⟨_, _, ok_bhd F_behind_of Ien ml (m _ z_min), b_behind_of, k_behind_of, PySem.W.mg_of X G a_behind_of⟩
  have Obt : Own l.prog w K mg base CX0 1 "between" ["one", "other", "kind"] sp_between := ⟨_, _, ok_between F_between (m _ z_min) (m _ z_max), b_between, k_between, PySem.W.mg_of X G a_between⟩
  have Orb : Own l.prog w K mg base CX0 7 "rows_between" ["text", "one", "other"] sp_rbetween := ⟨_, _, ok_rbetween F_rows_between Iro Ibg Ibh (m _ z_min) (m _ z_max), b_rows_between, k_rows_between, PySem.W.mg_of X G a_rows_between⟩
  have Fst := ok_stretch (P := l.prog) (w := w) (mg := mg) (base := base) F_stretch (PySem.W.mg_of X G n_OPENING) (PySem.W.mg_of X G n_CLOSING) (PySem.W.mg_of X G n_COUNT_PASSED_OVER)
    ⟨_, _, ok_seen F_seen_stretch Obt Orb, b_seen_stretch, k_seen_stretch, PySem.W.mg_of X G a_seen_stretch⟩ ⟨_, _, fn_false, b_rows_from, k_rows_from, PySem.W.mg_of X G a_rows_from⟩ ⟨_, _, fn_false, b_inside, k_inside, PySem.W.mg_of X G a_inside⟩ ⟨_, _, fn_false, b_outside, k_outside, PySem.W.mg_of X G a_outside⟩ ⟨_, _, fn_false, b_brackets_round, k_brackets_round, PySem.W.mg_of X G a_brackets_round⟩ ⟨_, _, fn_false, b_opening_of, k_opening_of, PySem.W.mg_of X G a_opening_of⟩
  have Ost2 : OwnD l.prog w K mg base CX0 9 "stretch" ["key", "text", "place", "count", "seen"] sp_stretch [.non, .non] := ⟨_, _, _, Fst, b_stretch_2, .cons rfl (.cons rfl .nil), k_stretch, PySem.W.mg_of X G a_stretch⟩
  have Ost : Own l.prog w K mg base CX0 9 "stretch" ["key", "text", "place", "count", "seen"] sp_stretch := ⟨_, _, Fst, b_stretch_0, k_stretch, PySem.W.mg_of X G a_stretch⟩
  have Oce : Own l.prog w K mg base CX0 1 "_law_cell_at" ["_law_script", "_law_k"] (sp_cell K) := ⟨_, _, ok_cell F__law_cell_at ml, b__law_cell_at, k__law_cell_at, PySem.W.mg_of X G a__law_cell_at⟩
  exact ok_law F_law ⟨_, _, ok_sign F__law_sign_by ml, b__law_sign_by, k__law_sign_by, PySem.W.mg_of X G a__law_sign_by⟩ Oce
    ⟨_, _, ok_asked F__law_asked ⟨_, _, ok_due F__law_due ⟨_, _, ok_heads F__law_begins ml, b__law_begins, k__law_begins, PySem.W.mg_of X G a__law_begins⟩ ml (m _ z_min) (m _ z_max), b__law_due, k__law_due, PySem.W.mg_of X G a__law_due⟩
      ⟨_, _, ok_same4 F__law_same ⟨_, _, ok_lwhole F__law_whole (m _ z_isinstance) (m _ z_int) (m _ z_bool), b__law_whole, k__law_whole, PySem.W.mg_of X G a__law_whole⟩ ml (m _ z_isinstance) (m _ z_str) (m _ z_tuple), b__law_same, k__law_same, PySem.W.mg_of X G a__law_same⟩ Ost2 Ost ml, b__law_asked, k__law_asked, PySem.W.mg_of X G a__law_asked⟩
theorem walk {l : PySem.W.OpenLaw} {q : Program} {loose : List Str} {XP : (Str → Option Value) → Heap → Prop} {YP : World → Heap → Prop} {d : DefRec} {K : Params → PySem.W.Frag} (hn : l.most = some 63) (hdf : d.params.defaults = [])
    (hY : ∀ (w : World) (h : Heap), YP w h → (K w.params).In h)
    (F : ∀ (w : World) (mg : Str → Option Value) (fa : Addr) (h : Heap), (K w.params).In h → h.Ns mainGlobals mg → mg d.name = some (.ref fa) →
      ∃ fd : FuncData, (∀ (s : Shared) (u : Value), BindsTo s fd ⟨[u], []⟩ [("_law_script", u)]) ∧ ∀ base : Heap, (K w.params).In base → base.Ns mainGlobals mg → FnOk l.prog w (K w.params) mg base CX0 11 fa fd ["_law_script"] (sp_law (K w.params))) :
    PySem.W.WalkO q loose XP YP l.row.toRowW d [] (fun f vs => PySem.call f vs) :=
  L2.walk_of (n := 63) (k := 11) (x := "_law_script") (CX := fun _ => CX0) (sp := fun w => sp_law (K w.params)) hn (by decide) hdf ⟨rfl, by decide, by decide⟩ hY F (fun _ _ a ns hl _ hS => ⟨a, ns, rfl, hS, hl, fun _ => rfl⟩) fun _ _ _ _ _ z => z
end My
open PySem PySem.W PyProof.Rows
def PySem.W.Fast.tw185454386481657888 : Nat := 0
def PySem.W.Fast.tw6154837118151120960 : Nat := 0
def PySem.W.Fast.tw2366832299810495648 : Nat := 0
def PySem.W.Fast.tw8824532412679628096 : Nat := 0
def PySem.W.Fast.tw1547597761648574784 : Nat := 0
def PySem.W.Fast.tw6834658777873563040 : Nat := 0
def PySem.W.Fast.tw7465511588425661888 : Nat := 0
def PySem.W.Fast.tw2189047071670809056 : Nat := 0
def PySem.W.Fast.tw16760421797965532672 : Nat := 0
def PySem.W.Fast.tw1755703871250623136 : Nat := 0
def PySem.W.Fast.tw5092548169665495776 : Nat := 0
def PySem.W.Fast.tw3994137688434521888 : Nat := 0
def PySem.W.Fast.tw15011776199073218464 : Nat := 0
def PySem.W.Fast.tw5316619482516082592 : Nat := 0
def PySem.W.Fast.tw1526629553050217408 : Nat := 0
def PySem.W.Fast.tw8232078269899933664 : Nat := 0
def PySem.W.Fast.tw17426227491648305153 : Nat := 0
def PySem.W.Fast.tw6600448873119189057 : Nat := 0
def PySem.W.Fast.tw4565264020153383073 : Nat := 0
def PySem.W.Fast.tw2172889824142621889 : Nat := 0
def PySem.W.Fast.tw5857120283696181633 : Nat := 0
def PySem.W.Fast.tw7825257037080523137 : Nat := 0
def PySem.W.Fast.tw8872876169085188513 : Nat := 0
def PySem.W.Fast.tw6287753198033417697 : Nat := 0
def PySem.W.Fast.tw3251016424497364545 : Nat := 0
def PySem.W.Fast.tw18318649673196401249 : Nat := 0
def PySem.W.Fast.tw6510299013464379426 : Nat := 0
def PySem.W.Fast.tw15032690150870491266 : Nat := 0
def PySem.W.Fast.tw14127285950355420322 : Nat := 0
def PySem.W.Fast.tw454298266051774690 : Nat := 0
def PySem.W.Fast.tw17764806580210796866 : Nat := 0
def PySem.W.Fast.tw5137908275322038946 : Nat := 0
def PySem.W.Fast.tw5315586953444193986 : Nat := 0
def PySem.W.Fast.tw15765176902362997602 : Nat := 0
def PySem.W.Fast.tw14658153443356427331 : Nat := 0
def PySem.W.Fast.tw271407354265157955 : Nat := 0
def PySem.W.Fast.tw6950927001002915171 : Nat := 0
def PySem.W.Fast.tw1439434757501101411 : Nat := 0
def PySem.W.Fast.tw17097831336708537731 : Nat := 0
def PySem.W.Fast.tw8987674249996032483 : Nat := 0
def PySem.W.Fast.tw10426467458886878723 : Nat := 0
def PySem.W.Fast.tw12995705466879287043 : Nat := 0
def PySem.W.Fast.tw17875841581453158179 : Nat := 0
def PySem.W.Fast.tw16690126600576539491 : Nat := 0
def PySem.W.Fast.tw5620125073016993828 : Nat := 0
def PySem.W.Fast.tw15790105924373287140 : Nat := 0
def PySem.W.Fast.tw3734250483340628356 : Nat := 0
def PySem.W.Fast.tw11693685733893734852 : Nat := 0
def PySem.W.Fast.tw12369056517546124772 : Nat := 0
def PySem.W.Fast.tw14795489882492612196 : Nat := 0
def PySem.W.Fast.tw8731596278040100612 : Nat := 0
def PySem.W.Fast.tw4812968560677910308 : Nat := 0
def PySem.W.Fast.tw12062904697173230404 : Nat := 0
def PySem.W.Fast.tw7568751684924212100 : Nat := 0
def PySem.W.Fast.tw14490153771026330500 : Nat := 0
def PySem.W.Fast.tw12891438397538908036 : Nat := 0
def PySem.W.Fast.tw1725270022323870757 : Nat := 0
def PySem.W.Fast.tw13584547565189217381 : Nat := 0
def PySem.W.Fast.tw15986675619003433125 : Nat := 0
def PySem.W.Fast.tw14244194486990502053 : Nat := 0
def PySem.W.Fast.tw17873197412221383045 : Nat := 0
def PySem.W.Fast.tw17807861604392373669 : Nat := 0
def PySem.W.Fast.tw4330470812811465541 : Nat := 0
def PySem.W.Fast.tw16697271375887574022 : Nat := 0
def PySem.W.Fast.tw1545599735120168006 : Nat := 0
def PySem.W.Fast.tw572008709226026406 : Nat := 0
def PySem.W.Fast.tw1111598208483895750 : Nat := 0
def PySem.W.Fast.tw4584162530860399430 : Nat := 0
def PySem.W.Fast.tw12110537220306123590 : Nat := 0
def PySem.W.Fast.tw5824762350363618214 : Nat := 0
def PySem.W.Fast.tw10695767755257456711 : Nat := 0
def PySem.W.Fast.tw18041836730981529703 : Nat := 0
def PySem.W.Fast.tw425152562561149415 : Nat := 0
def PySem.W.Fast.tw277211626051062503 : Nat := 0
def PySem.W.Fast.tw1475307454674875143 : Nat := 0
def PySem.W.Fast.tw3142793300268286759 : Nat := 0
def PySem.W.Fast.tw17684191970537070471 : Nat := 0
def PySem.W.Fast.tw13860309209229467688 : Nat := 0
def PySem.W.Fast.tw10588915773389891656 : Nat := 0
def PySem.W.Fast.tw7229210797350100104 : Nat := 0
def PySem.W.Fast.tw12136911712095320232 : Nat := 0
def PySem.W.Fast.tw10502306441337421032 : Nat := 0
def PySem.W.Fast.tw18419443061834865928 : Nat := 0
def PySem.W.Fast.tw408181601734534536 : Nat := 0
def PySem.W.Fast.tw9812085027142657448 : Nat := 0
def PySem.W.Fast.tw7962598961144344168 : Nat := 0
def PySem.W.Fast.tw14848737869105982056 : Nat := 0
def PySem.W.Fast.tw9401514010715735720 : Nat := 0
def PySem.W.Fast.tw7285723963885410120 : Nat := 0
def PySem.W.Fast.tw12768360317098857320 : Nat := 0
def PySem.W.Fast.tw10070254798277133224 : Nat := 0
def PySem.W.Fast.tw1221547079255607272 : Nat := 0
def PySem.W.Fast.tw8576775261345991689 : Nat := 0
def PySem.W.Fast.tw10633360547275953225 : Nat := 0
def PySem.W.Fast.tw11707953218035266633 : Nat := 0
def PySem.W.Fast.tw14357751215926698153 : Nat := 0
def PySem.W.Fast.tw11131118704408185001 : Nat := 0
def PySem.W.Fast.tw5217682944497282313 : Nat := 0
def PySem.W.Fast.tw11617658012015946025 : Nat := 0
def PySem.W.Fast.tw5260133424134509865 : Nat := 0
def PySem.W.Fast.tw4808420347956101449 : Nat := 0
def PySem.W.Fast.tw4605156834024063337 : Nat := 0
def PySem.W.Fast.tw2468884595161987497 : Nat := 0
def PySem.W.Fast.tw18241441501878988201 : Nat := 0
def PySem.W.Fast.tw604902204595054025 : Nat := 0
def PySem.W.Fast.tw17451209409384753609 : Nat := 0
def PySem.W.Fast.tw17460071269892376201 : Nat := 0
def PySem.W.Fast.tw6223707611966474921 : Nat := 0
def PySem.W.Fast.tw14085323072923357961 : Nat := 0
def PySem.W.Fast.tw1529442676515281673 : Nat := 0
def PySem.W.Fast.tw6217732211851560713 : Nat := 0
def PySem.W.Fast.tw16805273932588210121 : Nat := 0
def PySem.W.Fast.tw17241384150736844810 : Nat := 0
def PySem.W.Fast.tw7310782239805291658 : Nat := 0
def PySem.W.Fast.tw14059682632499666122 : Nat := 0
def PySem.W.Fast.tw17910357793357782250 : Nat := 0
def PySem.W.Fast.tw13068710861662762250 : Nat := 0
def PySem.W.Fast.tw2453999741788983594 : Nat := 0
def PySem.W.Fast.tw14411365398114883882 : Nat := 0
def PySem.W.Fast.tw9624446801955618122 : Nat := 0
def PySem.W.Fast.tw2437904821914496362 : Nat := 0
def PySem.W.Fast.tw9023038252690952554 : Nat := 0
def PySem.W.Fast.tw4997999352780607914 : Nat := 0
def PySem.W.Fast.tw15599378926276077226 : Nat := 0
def PySem.W.Fast.tw15669795663647084266 : Nat := 0
def PySem.W.Fast.tw14546301636149154602 : Nat := 0
def PySem.W.Fast.tw8313675550874413898 : Nat := 0
def PySem.W.Fast.tw11291651515998801834 : Nat := 0
def PySem.W.Fast.tw10051066018096659467 : Nat := 0
def PySem.W.Fast.tw10359154257122727947 : Nat := 0
def PySem.W.Fast.tw11420924955273179179 : Nat := 0
def PySem.W.Fast.tw2934658888716316715 : Nat := 0
def PySem.W.Fast.tw11441411515563181131 : Nat := 0
def PySem.W.Fast.tw4110387735565235339 : Nat := 0
def PySem.W.Fast.tw9815879560517764235 : Nat := 0
def PySem.W.Fast.tw7893960582731635883 : Nat := 0
def PySem.W.Fast.tw14161941798947393707 : Nat := 0
def PySem.W.Fast.tw10065516934675547371 : Nat := 0
def PySem.W.Fast.tw7588541664814602475 : Nat := 0
def PySem.W.Fast.tw5650815070792598795 : Nat := 0
def PySem.W.Fast.tw5472518306246749579 : Nat := 0
def PySem.W.Fast.tw10743288752752467499 : Nat := 0
def PySem.W.Fast.tw14192869294433271467 : Nat := 0
def PySem.W.Fast.tw17902823244200043467 : Nat := 0
def PySem.W.Fast.tw17535197267878798540 : Nat := 0
def PySem.W.Fast.tw3194187934818347308 : Nat := 0
def PySem.W.Fast.tw15735980834619306284 : Nat := 0
def PySem.W.Fast.tw11945229663838800204 : Nat := 0
def PySem.W.Fast.tw9603501239790828908 : Nat := 0
def PySem.W.Fast.tw8781010790855571852 : Nat := 0
def PySem.W.Fast.tw5552880037047785004 : Nat := 0
def PySem.W.Fast.tw10634752681982840460 : Nat := 0
def PySem.W.Fast.tw11809466549358516044 : Nat := 0
def PySem.W.Fast.tw5836247403245581421 : Nat := 0
def PySem.W.Fast.tw10445852502108133581 : Nat := 0
def PySem.W.Fast.tw13693233040114684173 : Nat := 0
def PySem.W.Fast.tw14541084681979981421 : Nat := 0
def PySem.W.Fast.tw5575061527240732397 : Nat := 0
def PySem.W.Fast.tw15332758443977946925 : Nat := 0
def PySem.W.Fast.tw2472035065147110221 : Nat := 0
def PySem.W.Fast.tw1532572020065928013 : Nat := 0
def PySem.W.Fast.tw13691135889231651725 : Nat := 0
def PySem.W.Fast.tw3940031438155369357 : Nat := 0
def PySem.W.Fast.tw7204134582425110670 : Nat := 0
def PySem.W.Fast.tw13413245596998269134 : Nat := 0
def PySem.W.Fast.tw10301944547425561966 : Nat := 0
def PySem.W.Fast.tw5755325469585311086 : Nat := 0
def PySem.W.Fast.tw5841496468691891630 : Nat := 0
def PySem.W.Fast.tw8105326959103788462 : Nat := 0
def PySem.W.Fast.tw16395145222925261326 : Nat := 0
def PySem.W.Fast.tw12827016704966370926 : Nat := 0
def PySem.W.Fast.tw14522164803397326478 : Nat := 0
def PySem.W.Fast.tw16976065849714258734 : Nat := 0
def PySem.W.Fast.tw13851664705630761806 : Nat := 0
def PySem.W.Fast.tw1453263091806743567 : Nat := 0
def PySem.W.Fast.tw2184392715795674255 : Nat := 0
def PySem.W.Fast.tw14454596030450355407 : Nat := 0
def PySem.W.Fast.tw16518548915861545231 : Nat := 0
def PySem.W.Fast.tw9792001088051225903 : Nat := 0
def PySem.W.Fast.tw10611587498525801807 : Nat := 0
def PySem.W.Fast.tw6556039400508567951 : Nat := 0
def PySem.W.Fast.tw1743169477057768911 : Nat := 0
def PySem.W.Fast.tw11547081936689529359 : Nat := 0
def PySem.W.Fast.tw17948335502218769967 : Nat := 0
def PySem.W.Fast.tw15513008637650538063 : Nat := 0
def PySem.W.Fast.tw16316747589074082447 : Nat := 0
def PySem.W.Fast.tw6525834961906231951 : Nat := 0
def PySem.W.Fast.tw14832437351494964911 : Nat := 0
def PySem.W.Fast.tw13149439466174589647 : Nat := 0
def PySem.W.Fast.tw7047205227105443535 : Nat := 0
def PySem.W.Fast.tw16850234696505928463 : Nat := 0
def PySem.W.Fast.tw14427825865120003919 : Nat := 0
def PySem.W.Fast.tw8226077762695919535 : Nat := 0
def PySem.W.Fast.tw12314479816481981456 : Nat := 0
def PySem.W.Fast.tw9862280950938685584 : Nat := 0
def PySem.W.Fast.tw17512398693359895696 : Nat := 0
def PySem.W.Fast.tw1785562554674187472 : Nat := 0
def PySem.W.Fast.tw12571519720335161648 : Nat := 0
def PySem.W.Fast.tw1174676672529676624 : Nat := 0
def PySem.W.Fast.tw13882892727253330288 : Nat := 0
def PySem.W.Fast.tw777733693018385808 : Nat := 0
def PySem.W.Fast.tw935194523995093424 : Nat := 0
def PySem.W.Fast.tw2621926690440627696 : Nat := 0
def PySem.W.Fast.tw2469555051214746416 : Nat := 0
def PySem.W.Fast.tw10353538986619686800 : Nat := 0
def PySem.W.Fast.tw3765203760163678160 : Nat := 0
def PySem.W.Fast.tw6470674286212624401 : Nat := 0
def PySem.W.Fast.tw9342917276896921905 : Nat := 0
def PySem.W.Fast.tw11840128904467272017 : Nat := 0
def PySem.W.Fast.tw14419936979840327089 : Nat := 0
def PySem.W.Fast.tw8824347828784449041 : Nat := 0
def PySem.W.Fast.tw6885600295616497201 : Nat := 0
def PySem.W.Fast.tw10919961871291880113 : Nat := 0
def PySem.W.Fast.tw7821279560661334737 : Nat := 0
def PySem.W.Fast.tw10277584493152157393 : Nat := 0
def PySem.W.Fast.tw5573108456914444177 : Nat := 0
def PySem.W.Fast.tw13639734456535854993 : Nat := 0
def PySem.W.Fast.tw16905772024749987825 : Nat := 0
def PySem.W.Fast.tw1895959767724981330 : Nat := 0
def PySem.W.Fast.tw12898394911421524114 : Nat := 0
def PySem.W.Fast.tw7212697271752415506 : Nat := 0
def PySem.W.Fast.tw12846150256446288306 : Nat := 0
def PySem.W.Fast.tw8386574284093858450 : Nat := 0
def PySem.W.Fast.tw2452689359273282258 : Nat := 0
def PySem.W.Fast.tw11857057379850485586 : Nat := 0
def PySem.W.Fast.tw10591957695764549458 : Nat := 0
def PySem.W.Fast.tw5618697222669989746 : Nat := 0
def PySem.W.Fast.tw44173331957398450 : Nat := 0
def PySem.W.Fast.tw13910360412455690162 : Nat := 0
def PySem.W.Fast.tw11083664879672248306 : Nat := 0
def PySem.W.Fast.tw16635921471221565747 : Nat := 0
def PySem.W.Fast.tw10968520855173270835 : Nat := 0
def PySem.W.Fast.tw10355134419957136723 : Nat := 0
def PySem.W.Fast.tw1986885900578623891 : Nat := 0
def PySem.W.Fast.tw3086204999704575475 : Nat := 0
def PySem.W.Fast.tw1409409342063850195 : Nat := 0
def PySem.W.Fast.tw10769859389458553619 : Nat := 0
def PySem.W.Fast.tw8991378137421857812 : Nat := 0
def PySem.W.Fast.tw2878709109441723540 : Nat := 0
def PySem.W.Fast.tw11354528565737211060 : Nat := 0
def PySem.W.Fast.tw16137029828765428980 : Nat := 0
def PySem.W.Fast.tw8733252699721522580 : Nat := 0
def PySem.W.Fast.tw6097704470132182548 : Nat := 0
def PySem.W.Fast.tw3749850003023244852 : Nat := 0
def PySem.W.Fast.tw14652838436916731476 : Nat := 0
def PySem.W.Fast.tw14393845205649998548 : Nat := 0
def PySem.W.Fast.tw9833858052777867092 : Nat := 0
def PySem.W.Fast.tw14485611110994253716 : Nat := 0
def PySem.W.Fast.tw11178907532274571188 : Nat := 0
def PySem.W.Fast.tw16376839508441645012 : Nat := 0
def PySem.W.Fast.tw4326603703592995861 : Nat := 0
def PySem.W.Fast.tw15524729050923175061 : Nat := 0
def PySem.W.Fast.tw1201172449557393557 : Nat := 0
def PySem.W.Fast.tw3018120610042437781 : Nat := 0
def PySem.W.Fast.tw1868774744156649685 : Nat := 0
def PySem.W.Fast.tw18403299706724062453 : Nat := 0
def PySem.W.Fast.tw12178533158072996117 : Nat := 0
def PySem.W.Fast.tw8520987950432309557 : Nat := 0
def PySem.W.Fast.tw1510179806985712149 : Nat := 0
def PySem.W.Fast.tw1258529544642191925 : Nat := 0
def PySem.W.Fast.tw8029786222490638933 : Nat := 0
def PySem.W.Fast.tw16578683113830634229 : Nat := 0
def PySem.W.Fast.tw58847188111908597 : Nat := 0
def PySem.W.Fast.tw6400659399565116181 : Nat := 0
def PySem.W.Fast.tw9320754901364520725 : Nat := 0
def PySem.W.Fast.tw13209470010667265813 : Nat := 0
def PySem.W.Fast.tw3625816967952439093 : Nat := 0
def PySem.W.Fast.tw682911332283043862 : Nat := 0
def PySem.W.Fast.tw2636353635722882070 : Nat := 0
def PySem.W.Fast.tw13093583767414033526 : Nat := 0
def PySem.W.Fast.tw15714538501180787926 : Nat := 0
def PySem.W.Fast.tw11773389851748024534 : Nat := 0
def PySem.W.Fast.tw17490976525625004566 : Nat := 0
def PySem.W.Fast.tw2330123911473878614 : Nat := 0
def PySem.W.Fast.tw6516989459672520406 : Nat := 0
def PySem.W.Fast.tw3664380971464725430 : Nat := 0
def PySem.W.Fast.tw13685096310800789462 : Nat := 0
def PySem.W.Fast.tw8887911944786862070 : Nat := 0
def PySem.W.Fast.tw17823124407899939959 : Nat := 0
def PySem.W.Fast.tw11675198293293918359 : Nat := 0
def PySem.W.Fast.tw15887998421848804663 : Nat := 0
def PySem.W.Fast.tw10256140131168500023 : Nat := 0
def PySem.W.Fast.tw1772334339190055415 : Nat := 0
def PySem.W.Fast.tw3625997095341724183 : Nat := 0
def PySem.W.Fast.tw4639182196726494839 : Nat := 0
def PySem.W.Fast.tw16208305097855911543 : Nat := 0
def PySem.W.Fast.tw14174738388710557335 : Nat := 0
def PySem.W.Fast.tw15887366090475519799 : Nat := 0
def PySem.W.Fast.tw6671478924089419671 : Nat := 0
def PySem.W.Fast.tw15928047721195425783 : Nat := 0
def PySem.W.Fast.tw736908637294966840 : Nat := 0
def PySem.W.Fast.tw7789409636411560152 : Nat := 0
def PySem.W.Fast.tw5068815601007886648 : Nat := 0
def PySem.W.Fast.tw7037592049874399576 : Nat := 0
def PySem.W.Fast.tw8247062956167097816 : Nat := 0
def PySem.W.Fast.tw15845232029931786712 : Nat := 0
def PySem.W.Fast.tw5458642386375647832 : Nat := 0
def PySem.W.Fast.tw12349397422885401336 : Nat := 0
def PySem.W.Fast.tw6419298386495083352 : Nat := 0
def PySem.W.Fast.tw12274313237533936504 : Nat := 0
def PySem.W.Fast.tw9593900045903409016 : Nat := 0
def PySem.W.Fast.tw8774065378674816920 : Nat := 0
def PySem.W.Fast.tw2745379613677983672 : Nat := 0
def PySem.W.Fast.tw17183700853534920664 : Nat := 0
def PySem.W.Fast.tw974296362943039448 : Nat := 0
def PySem.W.Fast.tw2682185611386172569 : Nat := 0
def PySem.W.Fast.tw12334777193857115353 : Nat := 0
def PySem.W.Fast.tw4918856568792809721 : Nat := 0
def PySem.W.Fast.tw15214087227569121689 : Nat := 0
def PySem.W.Fast.tw11623213061080802937 : Nat := 0
def PySem.W.Fast.tw13167467516408468121 : Nat := 0
def PySem.W.Fast.tw7450164740173364025 : Nat := 0
def PySem.W.Fast.tw9364817950457822169 : Nat := 0
def PySem.W.Fast.tw13361960906580841465 : Nat := 0
def PySem.W.Fast.tw1627964045037291706 : Nat := 0
def PySem.W.Fast.tw16129803501676785946 : Nat := 0
def PySem.W.Fast.tw3784319269912285562 : Nat := 0
def PySem.W.Fast.tw18265775537694721530 : Nat := 0
def PySem.W.Fast.tw16940391306937320986 : Nat := 0
def PySem.W.Fast.tw17884829049129503354 : Nat := 0
def PySem.W.Fast.tw2372896334694369114 : Nat := 0
def PySem.W.Fast.tw6008150111968459642 : Nat := 0
def PySem.W.Fast.tw720924179387623515 : Nat := 0
def PySem.W.Fast.tw4014306988482669659 : Nat := 0
def PySem.W.Fast.tw15133971331945596027 : Nat := 0
def PySem.W.Fast.tw15244389051043932283 : Nat := 0
def PySem.W.Fast.tw17427085062566705275 : Nat := 0
def PySem.W.Fast.tw14236737553941832987 : Nat := 0
def PySem.W.Fast.tw10750561597204286939 : Nat := 0
def PySem.W.Fast.tw4694235229686710779 : Nat := 0
def PySem.W.Fast.tw4481192261821874043 : Nat := 0
def PySem.W.Fast.tw4259121684535610331 : Nat := 0
def PySem.W.Fast.tw420305517612713084 : Nat := 0
def PySem.W.Fast.tw17937534885661110492 : Nat := 0
def PySem.W.Fast.tw5255378169060596060 : Nat := 0
def PySem.W.Fast.tw12461674298213816764 : Nat := 0
def PySem.W.Fast.tw9955221888350601852 : Nat := 0
def PySem.W.Fast.tw7658767993610128028 : Nat := 0
def PySem.W.Fast.tw16021676243249279772 : Nat := 0
def PySem.W.Fast.tw435202195016296284 : Nat := 0
def PySem.W.Fast.tw8079630779163772764 : Nat := 0
def PySem.W.Fast.tw17113472449685796860 : Nat := 0
def PySem.W.Fast.tw8821838768916542460 : Nat := 0
def PySem.W.Fast.tw10488011590651427869 : Nat := 0
def PySem.W.Fast.tw514593813108565053 : Nat := 0
def PySem.W.Fast.tw4146129151196447997 : Nat := 0
def PySem.W.Fast.tw16553601141889329405 : Nat := 0
def PySem.W.Fast.tw3139179122309413629 : Nat := 0
def PySem.W.Fast.tw13842504038944120701 : Nat := 0
def PySem.W.Fast.tw3852866964848314398 : Nat := 0
def PySem.W.Fast.tw16958047819793037566 : Nat := 0
def PySem.W.Fast.tw11100074555951428958 : Nat := 0
def PySem.W.Fast.tw4674529195527676414 : Nat := 0
def PySem.W.Fast.tw16674504836659705438 : Nat := 0
def PySem.W.Fast.tw7377090890449626750 : Nat := 0
def PySem.W.Fast.tw16549266723922708350 : Nat := 0
def PySem.W.Fast.tw10275371062882625663 : Nat := 0
def PySem.W.Fast.tw11220146292999882911 : Nat := 0
def PySem.W.Fast.tw3349296309761625311 : Nat := 0
def PySem.W.Fast.tw13657969833279000831 : Nat := 0
def PySem.W.Fast.tw6218881569893252383 : Nat := 0
def PySem.W.Fast.tw8894929580776325503 : Nat := 0
def PySem.W.Fast.tw18049267512115365375 : Nat := 0
def PySem.W.Fast.tw684928002476835359 : Nat := 0
def PySem.W.Fast.tw11485252482384182815 : Nat := 0
def PySem.W.Fast.tw3228970523680674367 : Nat := 0
def PySem.W.Fast.tw243934455240646623 : Nat := 0
set_option maxRecDepth 100000 in
set_option maxHeartbeats 0 in
theorem PySem.Challenge.cw_modehand_k26_what_is_seen_holds : PySem.Challenge.rw_modehand_k26_what_is_seen.Holds := by
  w_on; o_law; k_head; (case hw => w_witness2)
  k_fill
  refine My.walk (l := PySem.Challenge.rw_modehand_k26_what_is_seen) rfl rfl (fun w h Y => PySem.W.kIn_of Y) ?F
  case F =>
    intro w mg fa h KX G hmg
    refine' My.all_mk KX G hmg ?a_is_whole ?l_is_whole ?c_is_whole ?k_is_whole ?a_is_place ?l_is_place ?c_is_place ?k_is_place ?a_is_row ?l_is_row ?c_is_row ?k_is_row ?a_check_place ?l_check_place ?c_check_place ?k_check_place ?a_check_row ?l_check_row ?c_check_row ?k_check_row ?a_row_count ?l_row_count ?c_row_count ?k_row_count ?a_row_of ?l_row_of ?c_row_of ?k_row_of ?a_begin_of ?l_begin_of ?c_begin_of ?k_begin_of ?a_end_of ?l_end_of ?c_end_of ?k_end_of ?a_behind_of ?l_behind_of ?c_behind_of ?k_behind_of ?a_between ?l_between ?c_between ?k_between ?a_rows_between ?l_rows_between ?c_rows_between ?k_rows_between ?a_seen_stretch ?l_seen_stretch ?c_seen_stretch ?k_seen_stretch ?a_rows_from ?l_rows_from ?c_rows_from ?k_rows_from ?a_inside ?l_inside ?c_inside ?k_inside ?a_outside ?l_outside ?c_outside ?k_outside ?a_brackets_round ?l_brackets_round ?c_brackets_round ?k_brackets_round ?a_opening_of ?l_opening_of ?c_opening_of ?k_opening_of ?dl_stretch ?a_stretch ?l_stretch ?c_stretch ?k_stretch ?a__law_cell_at ?l__law_cell_at ?c__law_cell_at ?k__law_cell_at ?a__law_whole ?l__law_whole ?c__law_whole ?k__law_whole ?a__law_sign_by ?l__law_sign_by ?c__law_sign_by ?k__law_sign_by ?a__law_begins ?l__law_begins ?c__law_begins ?k__law_begins ?a__law_due ?l__law_due ?c__law_due ?k__law_due ?a__law_same ?l__law_same ?c__law_same ?k__law_same ?a__law_asked ?l__law_asked ?c__law_asked ?k__law_asked ?a_law ?l_law ?c_law ?k_law ?n_OPENING ?n_CLOSING ?n_COUNT_PASSED_OVER ?z_len ?z_min ?z_max ?z_isinstance ?z_int ?z_bool ?z_str ?z_tuple
    (case a_is_whole => k_is); (case l_is_whole => k_is); (case c_is_whole => k_is); (case k_is_whole => k_is)
    (case a_is_place => k_is); (case l_is_place => k_is); (case c_is_place => k_is); (case k_is_place => k_is)
    (case a_is_row => k_is); (case l_is_row => k_is); (case c_is_row => k_is); (case k_is_row => k_is)
    (case a_check_place => k_is); (case l_check_place => k_is); (case c_check_place => k_is); (case k_check_place => k_is)
    (case a_check_row => k_is); (case l_check_row => k_is); (case c_check_row => k_is); (case k_check_row => k_is)
    (case a_row_count => k_is); (case l_row_count => k_is); (case c_row_count => k_is); (case k_row_count => k_is)
    (case a_row_of => k_is); (case l_row_of => k_is); (case c_row_of => k_is); (case k_row_of => k_is)
    (case a_begin_of => k_is); (case l_begin_of => k_is); (case c_begin_of => k_is); (case k_begin_of => k_is)
    (case a_end_of => k_is); (case l_end_of => k_is); (case c_end_of => k_is); (case k_end_of => k_is)
    (case a_behind_of => k_is); (case l_behind_of => k_is); (case c_behind_of => k_is); (case k_behind_of => k_is)
    (case a_between => k_is); (case l_between => k_is); (case c_between => k_is); (case k_between => k_is)
    (case a_rows_between => k_is); (case l_rows_between => k_is); (case c_rows_between => k_is); (case k_rows_between => k_is)
    (case a_seen_stretch => k_is); (case l_seen_stretch => k_is); (case c_seen_stretch => k_is); (case k_seen_stretch => k_is)
    (case a_rows_from => k_is); (case l_rows_from => k_is); (case c_rows_from => k_is); (case k_rows_from => k_is)
    (case a_inside => k_is); (case l_inside => k_is); (case c_inside => k_is); (case k_inside => k_is)
    (case a_outside => k_is); (case l_outside => k_is); (case c_outside => k_is); (case k_outside => k_is)
    (case a_brackets_round => k_is); (case l_brackets_round => k_is); (case c_brackets_round => k_is); (case k_brackets_round => k_is)
    (case a_opening_of => k_is); (case l_opening_of => k_is); (case c_opening_of => k_is); (case k_opening_of => k_is)
    (case a_stretch => k_is); (case l_stretch => k_is); (case c_stretch => k_is); (case k_stretch => k_is); (case dl_stretch => k_is)
    (case a__law_cell_at => k_is); (case l__law_cell_at => k_is); (case c__law_cell_at => k_is); (case k__law_cell_at => k_is)
    (case a__law_whole => k_is); (case l__law_whole => k_is); (case c__law_whole => k_is); (case k__law_whole => k_is)
    (case a__law_sign_by => k_is); (case l__law_sign_by => k_is); (case c__law_sign_by => k_is); (case k__law_sign_by => k_is)
    (case a__law_begins => k_is); (case l__law_begins => k_is); (case c__law_begins => k_is); (case k__law_begins => k_is)
    (case a__law_due => k_is); (case l__law_due => k_is); (case c__law_due => k_is); (case k__law_due => k_is)
    (case a__law_same => k_is); (case l__law_same => k_is); (case c__law_same => k_is); (case k__law_same => k_is)
    (case a__law_asked => k_is); (case l__law_asked => k_is); (case c__law_asked => k_is); (case k__law_asked => k_is)
    (case a_law => k_is); (case l_law => k_is); (case c_law => k_is); (case k_law => k_is)
    (case n_OPENING => k_is); (case n_CLOSING => k_is); (case n_COUNT_PASSED_OVER => k_is); (case z_len => k_is); (case z_min => k_is); (case z_max => k_is); (case z_isinstance => k_is); (case z_int => k_is); (case z_bool => k_is); (case z_str => k_is); (case z_tuple => k_is)
#print axioms PySem.Challenge.cw_modehand_k26_what_is_seen_holds
