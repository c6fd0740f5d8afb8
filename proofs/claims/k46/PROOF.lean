import PyProof.Rows.All
import Wide.All
import OpenK.AllK
import Wide.FinOn
import Lean
import PyProof.EqAt
import PyProof.EqKinds
import PyProof.TupleCall
import PySem.Challenge.RW_modehand_k46_whole_rows_of_keys
-- CHANGE: your row's module here, as the last of these rows
set_option Elab.async false
set_option linter.all false
set_option maxRecDepth 100000
/-! THE HAND LAYER, for ints, bools, texts, own classes, LISTS and tuples (index, slices, in, append, pop ..), calls, loops. Paste it whole ahead of your own text; what your proof does not reach may be deleted. -/
namespace L2
open PySem PySem.Spec PyProof.Rows

abbrev Key := Sum Int Str
def keyIs : Key → Value → Bool
  | .inl k, v => Value.isInt k v
  | .inr x, v => Value.isStrOf x v
def keyH (w : World) : Key → Int
  | .inl k => hashInt k
  | .inr x => hashStr w x
theorem keyIs_shape : ∀ {k : Key} {v : Value}, keyIs k v = true → (∃ i t, k = Sum.inl i ∧ v = Value.int i t) ∨ (∃ x t, k = Sum.inr x ∧ v = Value.str x t)
  | .inl i, v, h => by
    obtain ⟨t, e⟩ := Value.isInt_shape (k := i) (v := v) h
    exact .inl ⟨i, t, rfl, e⟩
  | .inr x, v, h => by
    obtain ⟨t, e⟩ := Value.isStrOf_shape (x := x) (v := v) h
    exact .inr ⟨x, t, rfl, e⟩
theorem key_ll (a b : Int) : decide ((Sum.inl a : Key) = Sum.inl b) = (a == b) := by
  by_cases e : a = b
  · subst e; simp
  · have h : ¬ (Sum.inl a : Key) = Sum.inl b := fun q => e (Sum.inl.inj q)
    rw [decide_eq_false h]
    exact (beq_eq_false_iff_ne.mpr e).symm
theorem key_rr (a b : Str) : decide ((Sum.inr a : Key) = Sum.inr b) = decide (a = b) := by
  by_cases e : a = b
  · subst e; simp
  · have h : ¬ (Sum.inr a : Key) = Sum.inr b := fun q => e (Sum.inr.inj q)
    rw [decide_eq_false h, decide_eq_false e]
theorem key_lr (a : Int) (b : Str) : decide ((Sum.inl a : Key) = Sum.inr b) = false := decide_eq_false (fun q => nomatch q)
theorem key_rl (a : Str) (b : Int) : decide ((Sum.inr a : Key) = Sum.inl b) = false := decide_eq_false (fun q => nomatch q)

def mixKind (prog : Program) (w : World) : PySem.KeyKind prog w Key where
  is := keyIs
  hash := keyH w
  inj := fun v a b ha hb => by
    rcases keyIs_shape ha with ⟨i, t, rfl, rfl⟩ | ⟨x, t, rfl, rfl⟩
    · rcases keyIs_shape hb with ⟨j, u, rfl, e⟩ | ⟨y, u, rfl, e⟩
      · injection e with e1 _; rw [e1]
      · exact nomatch e
    · rcases keyIs_shape hb with ⟨j, u, rfl, e⟩ | ⟨y, u, rfl, e⟩
      · exact nomatch e
      · injection e with e1 _; rw [e1]
  byValue := fun k v h => by
    rcases keyIs_shape h with ⟨i, t, rfl, rfl⟩ | ⟨x, t, rfl, rfl⟩ <;> rfl
  pyHash := fun hv h => by
    rcases keyIs_shape hv with ⟨i, t, rfl, rfl⟩ | ⟨x, t, rfl, rfl⟩
    · exact wpAny_pyHash_int h
    · exact wpAny_pyHash_str h
  eqBool := fun hu hv h => by
    rcases keyIs_shape hu with ⟨i, t, rfl, rfl⟩ | ⟨x, t, rfl, rfl⟩
    · rcases keyIs_shape hv with ⟨j, u, rfl, rfl⟩ | ⟨y, u, rfl, rfl⟩
      · rw [key_ll] at h; exact wpAny_eqBool_int h
      · rw [key_lr] at h; exact SeqAt.EqAt.int_str i t y u _ _ _ _ h
    · rcases keyIs_shape hv with ⟨j, u, rfl, rfl⟩ | ⟨y, u, rfl, rfl⟩
      · rw [key_rl] at h; exact SeqAt.EqAt.str_int x t j u _ _ _ _ h
      · rw [key_rr] at h; exact wpAny_eqBool_str h
  «strs» := fun k x t v h => by
    rcases keyIs_shape h with ⟨i, u, rfl, e⟩ | ⟨y, u, rfl, e⟩
    · exact nomatch e
    · injection e with e1 _
      subst e1
      cases v <;> rfl

end L2

namespace L2
open PySem PySem.Spec PyProof.Rows

inductive V where
  | non | bl (b : Bool) | int (i : Int) | str (x : Str) | byt (b : Array UInt8) | flt (b : UInt64) | ref (a : Addr) | ty (n : String)
  deriving DecidableEq

def RelV : V → Value → Prop
  | .non, u => u = Value.none
  | .bl b, u => u = Value.bool b
  | .int i, u => ∃ t, u = Value.int i t
  | .str x, u => ∃ t, u = Value.str x t
  | .byt b, u => ∃ t, u = Value.bytes b t
  | .flt b, u => ∃ t, u = Value.float b t
  | .ref a, u => u = Value.ref a
  | .ty n, u => u = Value.type n

abbrev Vals : List V → List Value → Prop := Paired RelV
theorem Vals.length {xs : List V} {us : List Value} (r : Vals xs us) : xs.length = us.length := Paired.length r
theorem Vals.get : ∀ {xs : List V} {us : List Value} {i : Nat} {x : V}, Vals xs us → xs[i]? = some x → ∃ u, us[i]? = some u ∧ RelV x u
  | _, _, _, _, .nil, e => by simp at e
  | _, _, 0, _, .cons r _, e => by simp at e; subst e; exact ⟨_, rfl, r⟩
  | _, _, i + 1, x, .cons _ t, e => by
    obtain ⟨u, h1, h2⟩ := Vals.get (i := i) (x := x) t (by simpa using e)
    exact ⟨u, by simpa using h1, h2⟩
theorem Vals.append : ∀ {xs ys : List V} {us ws : List Value}, Vals xs us → Vals ys ws → Vals (xs ++ ys) (us ++ ws)
  | _, _, _, _, .nil, s => s
  | _, _, _, _, .cons r t, s => .cons r (Vals.append t s)
def RelO : Option V → Option Value → Prop
  | some v, some u => RelV v u
  | none, none => True
  | _, _ => False
def KV {κ : Type} : List (κ × V) → List (κ × Value) → Prop := Paired fun (p : κ × V) (q : κ × Value) => p.1 = q.1 ∧ RelV p.2 q.2

def kV : Key → V
  | .inl i => .int i
  | .inr x => .str x

inductive HO where
  /-- a list -/
  | lst (xs : List V)
  /-- a tuple (never changes) -/
  | tup (xs : List V)
  /-- a dict whose keys are ints and texts; one whose keys are tuples of ints and texts (the empty one is both) -/
  | dK (kvs : List (Key × V)) | dT (kvs : List (List Key × V))
  /-- a set of ints: its members, its size -/
  | set (S : Int → Bool) (n : Nat)
  /-- an instance of the class at C, its dict at dx, its attributes -/
  | ins (C dx : Addr) (fs : List (Str × V))
  /-- the dict of the instance at x -/
  | own (x : Addr)
  /-- the dict of an exception -/
  | xd (fs : List (Str × V))
  /-- a bound method, f of x -/
  | met (f x : Addr)
  /-- a range object lo, lo + 1, .. below hi -/
  | rng (lo hi : Int)
  /-- a thing that is known to the object (the script; a dict while a loop walks it): read, never written while it is so -/
  | frz (o : Obj) (u : HO)
  /-- a code object's table -/
  | tbl (ps : Array Value)
  /-- any other thing, by what is true of its one object (a def of one's own: SetO a S n := HO.ext fun h => ..) -/
  | ext (φ : Heap → Prop)

abbrev Hp := Addr → Option HO
def upd (H : Hp) (a : Addr) (o : HO) : Hp := fun b => if b = a then some o else H b
theorem upd_same {H : Hp} {a : Addr} {o : HO} : upd H a o a = some o := by unfold upd; rw [if_pos rfl]
theorem upd_ne {H : Hp} {a b : Addr} {o : HO} (h : b ≠ a) : upd H a o b = H b := by unfold upd; rw [if_neg h]
theorem ne_of_none {H : Hp} {a b : Addr} {o : HO} (h : H a = some o) (h' : H b = none) : a ≠ b := by
  intro e; subst e; rw [h] at h'; cases h'

section
variable (P : Program) (w : World)
def ObjOk (H : Hp) (h : Heap) (a : Addr) : HO → Prop
  | .lst xs => xs.length ≤ sizeLine ∧ ∃ (its : List Value) (n : Nat), Vals xs its ∧ h.get? a = some { cls := .type "list", data := .seq its.toArray n }
  | .tup xs => xs.length ≤ sizeLine ∧ ∃ its : List Value, Vals xs its ∧ IsTup h a its.toArray
  | .dK kvs => kvs.length ≤ sizeLine ∧ (a == sysModules) = false ∧ ∃ vs, KV kvs vs ∧ h.DictOf (mixKind P w) a vs
  | .dT kvs => kvs.length ≤ sizeLine ∧ (a == sysModules) = false ∧ ∃ xs : List (List Key × Addr × Value),
      Paired (fun (p : List Key × V) (q : List Key × Addr × Value) => p.1 = q.1 ∧ H q.2.1 = some (.tup (p.1.map kV)) ∧ RelV p.2 q.2.2) kvs xs ∧
      ∃ o es ep, h.get? a = some o ∧ o.ExactDict ∧ o.data = .dict es ep ∧ es.toList = xs.map (entryOfKey (tupleKind (mixKind P w))) ∧ (xs.map (·.1)).Nodup
  | .set S n => h.SetOf (intKind P w) a S n
  | .ins C dx fs => H dx = some (.own a) ∧ fs.length ≤ 1000 ∧ dx ≠ a ∧ h.get? a = some (PySem.W.instObj C dx) ∧
      ∃ mA, h.Ns1 dx mA ∧ (∀ f, RelO (fs.lookup f) (mA f)) ∧ PySem.Within mA (fs.map (·.1))
  | .own _ => ∃ o, h.get? a = some o
  | .xd fs => ∃ mA, h.Ns1 a mA ∧ ∀ f, RelO (fs.lookup f) (mA f)
  | .rng lo hi => ∃ t u v, h.get? a = some { cls := .type "range", data := .fields #[.int lo t, .int hi u, .int 1 v] }
  | .frz o u => h.get? a = some o ∧ ObjOk H h a u
  | .tbl ps => h.get? a = some { cls := .none, data := .fields ps }
  | .met f x => h.get? a = some (PySem.W.methodObj (.ref f) (.ref x))
  | .ext φ => φ h ∧ (∃ o, h.get? a = some o) ∧ ∀ h1 h2 : Heap, φ h1 → (∀ o, h1.get? a = some o → h2.get? a = some o) → φ h2
def HOk (H : Hp) (h : Heap) : Prop := ∀ a o, H a = some o → ObjOk P w H h a o
end

section
variable {P : Program} {w : World} {H H' : Hp} {h h' : Heap} {a : Addr} {o : HO}
theorem ObjOk.lt (x : ObjOk P w H h a o) : a < h.objs.size := by
  cases o with
  | lst xs => obtain ⟨_, _, _, _, e⟩ := x; exact Heap.lt_size e
  | tup xs => obtain ⟨_, _, _, p⟩ := x; exact p.lt
  | dK kvs => obtain ⟨_, _, _, _, o, _, _, e, _⟩ := x; exact Heap.lt_size e
  | dT kvs => obtain ⟨_, _, _, _, o, _, _, e, _⟩ := x; exact Heap.lt_size e
  | set S n => obtain ⟨o, _, _, _, e, _⟩ := x; exact Heap.lt_size e
  | ins C dx fs => obtain ⟨_, _, _, e, _⟩ := x; exact Heap.lt_size e
  | own y => obtain ⟨_, e⟩ := x; exact Heap.lt_size e
  | xd fs => obtain ⟨_, ⟨_, _, _, e, _⟩, _⟩ := x; exact Heap.lt_size e
  | rng lo hi => obtain ⟨_, _, _, e⟩ := x; exact Heap.lt_size e
  | frz ob u => obtain ⟨e, _⟩ := x; exact Heap.lt_size e
  | tbl ps => exact Heap.lt_size (show h.get? a = some _ from x)
  | met f y => exact Heap.lt_size (show h.get? a = some _ from x)
  | ext φ => obtain ⟨_, ⟨_, e⟩, _⟩ := x; exact Heap.lt_size e
theorem Paired.mapP {α β : Type} {F G : α → β → Prop} : ∀ {l₁ : List α} {l₂ : List β}, Paired F l₁ l₂ → (∀ a b, F a b → G a b) → Paired G l₁ l₂
  | _, _, .nil, _ => .nil
  | _, _, .cons r t, f => .cons (f _ _ r) (Paired.mapP t f)
theorem ObjOk.stay (x : ObjOk P w H h a o) (k : ∀ b u, (b = a ∨ H b = some (.own a)) → h.get? b = some u → h'.get? b = some u)
    (ho : ∀ b, H b = some (.own a) → H' b = some (.own a)) (ht : ∀ b xs, H b = some (.tup xs) → H' b = some (.tup xs)) : ObjOk P w H' h' a o := by
  induction o with
  | lst xs => obtain ⟨z, its, n, r, e⟩ := x; exact ⟨z, its, n, r, k _ _ (.inl rfl) e⟩
  | tup xs => obtain ⟨z, its, r, ob, e, c⟩ := x; exact ⟨z, its, r, ob, k _ _ (.inl rfl) e, c⟩
  | dK kvs => obtain ⟨z, y, vs, r, ob, es, ep, e, c⟩ := x; exact ⟨z, y, vs, r, ob, es, ep, k _ _ (.inl rfl) e, c⟩
  | dT kvs =>
    obtain ⟨z, y, xs, r, ob, es, ep, e, c⟩ := x
    exact ⟨z, y, xs, Paired.mapP r fun p q z => ⟨z.1, ht _ _ z.2.1, z.2.2⟩, ob, es, ep, k _ _ (.inl rfl) e, c⟩
  | set S n => obtain ⟨ob, es, ep, t, e, c⟩ := x; exact ⟨ob, es, ep, t, k _ _ (.inl rfl) e, c⟩
  | ins C dx fs =>
    obtain ⟨d, z, ne, e, mA, ⟨od, es, ep, e2, c⟩, r⟩ := x
    exact ⟨ho _ d, z, ne, k _ _ (.inl rfl) e, mA, ⟨od, es, ep, k _ _ (.inr d) e2, c⟩, r⟩
  | own y => obtain ⟨ob, e⟩ := x; exact ⟨ob, k _ _ (.inl rfl) e⟩
  | xd fs => obtain ⟨mA, ⟨od, es, ep, e, c⟩, r⟩ := x; exact ⟨mA, ⟨od, es, ep, k _ _ (.inl rfl) e, c⟩, r⟩
  | rng lo hi => obtain ⟨t, u, v, e⟩ := x; exact ⟨t, u, v, k _ _ (.inl rfl) e⟩
  | frz ob u ih => obtain ⟨e, q⟩ := x; exact ⟨k _ _ (.inl rfl) e, ih q⟩
  | tbl ps =>
    have e : h.get? a = some { cls := .none, data := .fields ps } := x
    show h'.get? a = some { cls := .none, data := .fields ps }
    exact k a _ (.inl rfl) e
  | met f y =>
    have e : h.get? a = some (PySem.W.methodObj (.ref f) (.ref y)) := x
    show h'.get? a = some (PySem.W.methodObj (.ref f) (.ref y))
    exact k a _ (.inl rfl) e
  | ext φ => obtain ⟨p, ⟨o, e⟩, st⟩ := x; exact ⟨st _ _ p fun o q => k _ _ (.inl rfl) q, ⟨o, k _ _ (.inl rfl) e⟩, st⟩
theorem HOk.lt (x : HOk P w H h) (e : H a = some o) : a < h.objs.size := (x a o e).lt
theorem HOk.fresh (x : HOk P w H h) (e : h.objs.size ≤ a) : H a = none := by
  cases q : H a with
  | none => rfl
  | some u => exact absurd (Nat.lt_of_lt_of_le (x.lt q) e) (Nat.lt_irrefl _)
theorem HOk.kept (x : HOk P w H h) (k : ∀ b u, h.get? b = some u → h'.get? b = some u) : HOk P w H h' := fun a o e =>
  (x a o e).stay (fun b u _ q => k b u q) (fun _ q => q) fun _ _ q => q
theorem HOk.laid (x : HOk P w H h) (k : ∀ b u, h.get? b = some u → h'.get? b = some u) (hp : h.objs.size ≤ a) (new : ObjOk P w (upd H a o) h' a o) : HOk P w (upd H a o) h' := fun b u e => by
  have hn := x.fresh hp
  by_cases hb : b = a
  · subst hb; rw [upd_same] at e; cases e; exact new
  · rw [upd_ne hb] at e
    exact (x b u e).stay (fun c v _ q => k c v q) (fun c q => by rw [upd_ne (ne_of_none q hn)]; exact q) fun c xs q => by rw [upd_ne (ne_of_none q hn)]; exact q
end

def Rd (H : Hp) (a : Addr) (u : HO) : Prop := H a = some u ∨ ∃ o, H a = some (.frz o u)
theorem Rd.ok {P : Program} {w : World} {H : Hp} {h : Heap} {a : Addr} {u : HO} (r : Rd H a u) (x : HOk P w H h) : ObjOk P w H h a u := by
  rcases r with r | ⟨o, r⟩
  · exact x a u r
  · obtain ⟨_, q⟩ := x a _ r
    exact q
def Mut : Option HO → Prop
  | some (.lst _) => True
  | some (.dK _) => True
  | some (.dT _) => True
  | some (.set _ _) => True
  | some (.ins _ _ _) => True
  | some (.ext _) => True
  | _ => False
section
variable {P : Program} {w : World} {H : Hp} {h h' : Heap} {x e : Addr} {o' : HO}
theorem HOk.write (ok : HOk P w H h) (mu : Mut (H x)) (he : e = x ∨ H e = some (.own x)) (k : ∀ b u, b ≠ e → h.get? b = some u → h'.get? b = some u) (heo : ∃ u, h'.get? e = some u)
    (new : ObjOk P w (upd H x o') h' x o') : HOk P w (upd H x o') h' := fun b u q => by
  have nown : ∀ c y, H c = some (.own y) → c ≠ x := fun c y r z => by subst z; rw [r] at mu; exact mu
  have ntup : ∀ c xs, H c = some (.tup xs) → c ≠ x := fun c xs r z => by subst z; rw [r] at mu; exact mu
  by_cases hb : b = x
  · subst hb; rw [upd_same] at q; cases q; exact new
  · rw [upd_ne hb] at q
    by_cases hbe : b = e
    · have q' : H b = some (.own x) := by
        rcases he with z | z
        · exact absurd (hbe.trans z) hb
        · rw [hbe]; exact z
      rw [q] at q'; cases q'
      obtain ⟨v, hv⟩ := heo
      exact ⟨v, by rw [hbe]; exact hv⟩
    · refine (ok b u q).stay (fun c v hc r => k c v ?_ r) (fun c r => by rw [upd_ne (nown c b r)]; exact r) fun c xs r => by rw [upd_ne (ntup c xs r)]; exact r
      rcases hc with rfl | hc
      · exact hbe
      · rintro rfl
        rcases he with z | z
        · exact nown c b hc z
        · rw [hc] at z; cases z; exact hb rfl
end

/-! ### kept unless tracked; of the frames at fs (the callers') the slots may change (an exception that passes writes there); of the records at ex (iterators) nothing is said -/
structure Un (fs ex : List Addr) (H H' : Hp) (h h' : Heap) : Prop where
  keep : ∀ b o, h.get? b = some o → H b = none → b ∉ fs → b ∉ ex → h'.get? b = some o
  slot : ∀ b o, h.get? b = some o → H b = none → b ∈ fs → b ∉ ex → ∃ sl, h'.get? b = some { o with slots := sl }
  free : ∀ b o, h.get? b = some o → H b = none → b ∉ ex → H' b = none
  there : ∀ b o, h.get? b = some o → b ∉ ex → ∃ o', h'.get? b = some o'
  tups : ∀ b xs, H b = some (.tup xs) → H' b = some (.tup xs)
  frzs : ∀ b o u, H b = some (.frz o u) → H' b = some (.frz o u)
  tbls : ∀ b ps, H b = some (.tbl ps) → ∃ more, H' b = some (.tbl (ps ++ more))
section
variable {fs fs' ex ex' : List Addr} {H H1 H2 : Hp} {h h1 h2 h' : Heap} {a x e : Addr} {o : HO}
theorem Un.any (u : Un fs ex H H1 h h1) {b : Addr} {ob : Obj} (q : h.get? b = some ob) (n : H b = none) (hx : b ∉ ex) : ∃ sl, h1.get? b = some { ob with slots := sl } := by
  by_cases hb : b ∈ fs
  · exact u.slot b ob q n hb hx
  · exact ⟨ob.slots, u.keep b ob q n hb hx⟩
theorem Un.kept (k : ∀ b u, h.get? b = some u → h'.get? b = some u) : Un fs ex H H h h' :=
  ⟨fun b ob q _ _ _ => k b ob q, fun b ob q _ _ _ => ⟨ob.slots, k b ob q⟩, fun _ _ _ n _ => n, fun b ob q _ => ⟨ob, k b ob q⟩, fun _ _ q => q, fun _ _ _ q => q, fun _ ps q => ⟨#[], by rw [q]; simp⟩⟩
theorem Un.refl : Un fs ex H H h h := Un.kept fun _ _ q => q
theorem Un.laid (k : ∀ b u, h.get? b = some u → h'.get? b = some u) (hp : h.objs.size ≤ a) (hn : H a = none) : Un fs ex H (upd H a o) h h' where
  keep := fun b u q _ _ _ => k b u q
  slot := fun b u q _ _ _ => ⟨u.slots, k b u q⟩
  free := fun b u q n _ => by rw [upd_ne (Nat.ne_of_lt (Nat.lt_of_lt_of_le (Heap.lt_size q) hp))]; exact n
  there := fun b u q _ => ⟨u, k b u q⟩
  tups := fun b xs q => by rw [upd_ne (ne_of_none q hn)]; exact q
  frzs := fun b u xs q => by rw [upd_ne (ne_of_none q hn)]; exact q
  tbls := fun b ps q => ⟨#[], by rw [upd_ne (ne_of_none q hn), q]; simp⟩
theorem Un.write (mu : Mut (H x)) (he : e = x ∨ H e = some (.own x)) (k : ∀ b u, b ≠ e → h.get? b = some u → h'.get? b = some u) (heo : ∃ u, h'.get? e = some u) : Un fs ex H (upd H x o) h h' := by
  have hx : ∀ b, H b = none → b ≠ x := fun b n z => by subst z; rw [n] at mu; exact mu
  have hb : ∀ b, H b = none → b ≠ e := fun b n z => by
    subst z
    rcases he with r | r
    · exact hx b n r
    · rw [n] at r; cases r
  have hm : ∀ b u, H b = some u → ¬ Mut (some u) → b ≠ x := fun b u q nm z => by subst z; rw [q] at mu; exact nm mu
  refine ⟨fun b u q n _ _ => k b u (hb b n) q, fun b u q n _ _ => ⟨u.slots, k b u (hb b n) q⟩, fun b u q n _ => by rw [upd_ne (hx b n)]; exact n, fun b u q _ => ?_,
    fun b xs q => by rw [upd_ne (hm b _ q fun z => z)]; exact q, fun b u xs q => by rw [upd_ne (hm b _ q fun z => z)]; exact q, fun b ps q => ⟨#[], by rw [upd_ne (hm b _ q fun z => z), q]; simp⟩⟩
  by_cases hbe : b = e
  · subst hbe; exact heo
  · exact ⟨u, k b u hbe q⟩
end

/-! ### the heap without what is tracked -/
def trk (h : Heap) (H : Hp) : List Addr := (List.range h.objs.size).filter fun a => (H a).isSome
def hidT (h : Heap) (H : Hp) : Heap := PySem.W.hideAll h (trk h H)
theorem hidT_size (h : Heap) (H : Hp) : (hidT h H).objs.size = h.objs.size := PySem.W.hideAll_size _ _
theorem hidT_get {h : Heap} {H : Hp} {b : Addr} {o : Obj} (e : h.get? b = some o) (n : H b = none) : (hidT h H).get? b = some o :=
  PySem.W.hideAll_get _ e fun hm => by
    have q : (H b).isSome = true := (List.mem_filter.mp hm).2
    rw [n] at q; simp at q
theorem of_hidT {h : Heap} {H : Hp} {b : Addr} {o : Obj} (e : (hidT h H).get? b = some o) : h.get? b = some o ∧ H b = none := by
  have e' : h.get? b = some o := PySem.W.of_hideAll (trk h H) e
  refine ⟨e', ?_⟩
  cases q : H b with
  | none => rfl
  | some x =>
    have hm : b ∈ trk h H := List.mem_filter.mpr ⟨List.mem_range.mpr (Heap.lt_size e'), by simp [q]⟩
    have z : (hidT h H).get? b = none := PySem.W.hideAll_none (trk h H) hm
    rw [z] at e; cases e

/-! ### OpenK's ledger, filled with every new object but one -/
end L2

namespace L2
open PySem PySem.Spec PyProof.Rows

structure Mod (K : PySem.W.Frag) (mg : Str → Option Value) (base : Heap) : Prop where
  kin : K.In base
  glob : base.Ns mainGlobals mg
  blt : ∃ mb, base.Ns builtinsNs mb ∧ ∀ x : Str, x ≠ "__name__" → mb x = bootBuiltins x
  nolimit : base.NoLimit

structure Cx where
  prog : Program
  w : World
  K : PySem.W.Frag
  mg : Str → Option Value
  base : Heap
  A : Around
  N : List Str
  s₀ : Shared
  H₀ : Hp
  env : Env
  outer : List Env
  stack : List Env
  ex : List Addr
  fn : Str → Bool
  calm : Bool
  pn : List (Addr × Obj)
  xe : Value → Shared → Prop
def frs (l : List Env) : List Addr := l.filterMap (·.frame)
abbrev Cx.fs (X : Cx) : List Addr := frs X.outer

def Vis (sc : Scope) (x : Str) : Prop := sc.names.lookup x = some .local ∨ sc.names.lookup x = some .cell ∨ sc.names.lookup x = some .free
def Loc (sc : Scope) (x : Str) : Prop := sc.names.lookup x = some .local ∨ sc.names.lookup x = some .cell
def Look (env : Env) (h : Heap) (m : Str → Option Value) (x : Str) (u : Value) : Prop :=
  (env.kindOf x = some .local ∧ m x = some u) ∨ ((env.kindOf x = some .cell ∨ env.kindOf x = some .free) ∧ ∃ c, env.cells.lookup x = some c ∧ h.IsCell c (some u))

structure Cx.Ok (X : Cx) : Prop where
  mod : Mod X.K X.mg X.base
  kind : X.env.scope.kind = .function
  glob : X.env.globals = mainGlobals
  blt : X.env.builtins = builtinsNs
  above : X.s₀.heap.objs.size ≤ X.env.locals
  inj : ∀ x y c, X.env.cells.lookup x = some c → X.env.cells.lookup y = some c → x = y
  has : ∀ x, (X.env.kindOf x = some .cell ∨ X.env.kindOf x = some .free) → ∃ c, X.env.cells.lookup x = some c
  cab : ∀ x c, X.fn x = true → X.env.cells.lookup x = some c → X.s₀.heap.objs.size ≤ c
  hd : X.calm = true → X.A.handled = none
  frames : X.A.frames = some X.stack
  stk : X.stack = X.outer ∨ (X.stack = X.env :: X.outer ∧ X.env.frame = some X.env.locals)
  exf : ∀ b ∈ X.ex, b ≠ X.env.locals ∧ ∀ x c, X.env.cells.lookup x = some c → c ≠ b
  bs : ∀ b o, X.base.get? b = some o → X.s₀.heap.get? b = some o ∧ X.H₀ b = none
  bsz : X.base.objs.size ≤ X.s₀.heap.objs.size
  noex : ∀ b o, X.base.get? b = some o → b ∉ X.ex
  exfs : ∀ b ∈ X.ex, b ∉ X.fs
  funs : X.s₀.heap.FunFrames X.base X.outer
  frf : ∀ b ∈ X.fs, X.H₀ b = none

structure Inv (X : Cx) (pins : List (Addr × Obj)) (σ : List (Option V)) (H : Hp) (s : Shared) : Prop where
  ok : X.Ok
  os : s.os = X.s₀.os
  bare : AllBare s.gens
  base : Un X.fs X.ex X.H₀ H X.s₀.heap s.heap
  loc : ∃ m, s.heap.Ns X.env.locals m ∧ ∀ (i : Nat) (x : Str) (v : V), X.N[i]? = some x → σ[i]? = some (some v) → Vis X.env.scope x → ∃ u, RelV v u ∧ Look X.env s.heap m x u
  cell : ∀ x c, X.env.cells.lookup x = some c → ∃ v, s.heap.IsCell c v
  free : H X.env.locals = none
  freeC : ∀ x c, X.env.cells.lookup x = some c → H c = none
  pin : ∀ p ∈ X.pn ++ pins, s.heap.get? p.1 = some p.2 ∧ H p.1 = none ∧ p.1 ≠ X.env.locals ∧ p.1 ∉ X.fs ∧ ∀ v, p.2.data ≠ .cell v
  hok : HOk X.prog X.w H s.heap
  len : σ.length = X.N.length

section
variable {X : Cx} {pins : List (Addr × Obj)} {σ : List (Option V)} {H H' : Hp} {s : Shared} {h' : Heap}

theorem Cx.Ok.nofr (ok : X.Ok) {b : Addr} {o : Obj} (e : X.base.get? b = some o) : b ∉ X.fs := fun hb => by
  have := (ok.funs.mem hb).1
  rw [e] at this; cases this
theorem Inv.bs (I : Inv X pins σ H s) : ∀ b o, X.base.get? b = some o → s.heap.get? b = some o ∧ H b = none := fun b o e =>
  ⟨I.base.keep b o (I.ok.bs b o e).1 (I.ok.bs b o e).2 (I.ok.nofr e) (I.ok.noex b o e), I.base.free b o (I.ok.bs b o e).1 (I.ok.bs b o e).2 (I.ok.noex b o e)⟩
theorem Inv.bk (I : Inv X pins σ H s) : ∀ b o, X.base.get? b = some o → s.heap.get? b = some o := fun b o e => (I.bs b o e).1
theorem Inv.mod (I : Inv X pins σ H s) : Mod X.K X.mg X.base := I.ok.mod
theorem Inv.kIn (I : Inv X pins σ H s) : X.K.In s.heap := I.ok.mod.kin.keeps I.bk
theorem Inv.lt (I : Inv X pins σ H s) : X.env.locals < s.heap.objs.size := let ⟨_, hn, _⟩ := I.loc; hn.lt
theorem Inv.sz (I : Inv X pins σ H s) : X.s₀.heap.objs.size ≤ s.heap.objs.size := Nat.le_trans I.ok.above (Nat.le_of_lt I.lt)
theorem Inv.nofs (I : Inv X pins σ H s) {a : Addr} (h : s.heap.objs.size ≤ a) : a ∉ X.fs := fun hb => by
  obtain ⟨_, o, ho, _⟩ := I.ok.funs.mem hb
  exact absurd (Nat.lt_of_lt_of_le (Heap.lt_size ho) (Nat.le_trans I.sz h)) (Nat.lt_irrefl _)
theorem Inv.cne (I : Inv X pins σ H s) : ∀ x c, X.env.cells.lookup x = some c → c ≠ X.env.locals := fun x c e z => by
  obtain ⟨v, o, ho, hd⟩ := I.cell x c e
  obtain ⟨m, ⟨o', es, ep, ho', hd', _⟩, _⟩ := I.loc
  rw [z, ho'] at ho; cases ho; rw [hd'] at hd; cases hd
theorem Inv.funs (I : Inv X pins σ H s) : s.heap.FunFrames X.base X.outer := by
  have all : ∀ (l : List Env), (∀ b ∈ frs l, b ∈ X.fs) → X.s₀.heap.FunFrames X.base l → s.heap.FunFrames X.base l := by
    intro l
    induction l with
    | nil => intro _ _; trivial
    | cons env r ih =>
      intro hs hl
      obtain ⟨hk, ⟨L, o, hf, hn, ho, hd⟩, hr⟩ := hl
      have hL : L ∈ X.fs := hs L (by unfold frs; rw [List.filterMap_cons, hf]; exact List.mem_cons_self)
      obtain ⟨sl, e⟩ := I.base.slot L o ho (I.ok.frf L hL) hL fun z => I.ok.exfs L z hL
      exact ⟨hk, ⟨L, _, hf, hn, e, hd⟩, ih (fun b hb => hs b (by unfold frs; rw [List.filterMap_cons, hf]; exact List.mem_cons_of_mem _ hb)) hr⟩
  exact all X.outer (fun _ hb => hb) I.ok.funs

theorem Inv.stack (I : Inv X pins σ H s) : s.heap.FunFrames X.base X.stack := by
  rcases I.ok.stk with e | ⟨e, hf⟩
  · rw [e]; exact I.funs
  · rw [e]
    obtain ⟨m, hn, _⟩ := I.loc
    refine .cons (by rw [I.ok.kind]; decide) hf hn ?_ I.funs
    exact Heap.get?_none_of_le (Nat.le_trans I.ok.bsz I.ok.above)
theorem Inv.stkSub (I : Inv X pins σ H s) : ∀ b ∈ frs X.stack, b ∈ X.env.locals :: X.fs := fun b hb => by
  rcases I.ok.stk with e | ⟨e, hf⟩
  · rw [e] at hb; exact List.mem_cons_of_mem _ hb
  · rw [e] at hb
    unfold frs at hb
    rw [List.filterMap_cons, hf] at hb
    exact hb
theorem Inv.stkFree (I : Inv X pins σ H s) : ∀ b ∈ frs X.stack, H b = none := fun b hb => by
  rcases List.mem_cons.mp (I.stkSub b hb) with e | hb
  · rw [e]; exact I.free
  · obtain ⟨_, o, ho, _⟩ := I.ok.funs.mem hb
    exact I.base.free b o ho (I.ok.frf b hb) fun z => I.ok.exfs b z hb

theorem Inv.step {g' : Array GenState} {t' : Nat} {d' : Drawn} {ch : List Addr} (I : Inv X pins σ H s)
    (hch : ∀ b ∈ ch, (b ∈ X.ex ∨ X.s₀.heap.objs.size ≤ b) ∧ b ≠ X.env.locals ∧ (∀ x c, X.env.cells.lookup x = some c → c ≠ b) ∧ ∀ p ∈ X.pn ++ pins, p.1 ≠ b)
    (keep : ∀ b o, b ≠ X.env.locals → b ∉ X.fs → b ∉ ch → s.heap.get? b = some o → H b = none → h'.get? b = some o)
    (slot : ∀ b o, b ≠ X.env.locals → b ∈ X.fs → b ∉ ch → s.heap.get? b = some o → H b = none → ∃ sl, h'.get? b = some { o with slots := sl }) (free : ∀ b o, b ∉ ch → s.heap.get? b = some o → H b = none → H' b = none)
    (there : ∀ b o, b ∉ ch → s.heap.get? b = some o → ∃ o', h'.get? b = some o')
    (tups : ∀ b xs, H b = some (.tup xs) → H' b = some (.tup xs)) (frzs : ∀ b o u, H b = some (.frz o u) → H' b = some (.frz o u)) (tbls : ∀ b ps, H b = some (.tbl ps) → ∃ more, H' b = some (.tbl (ps ++ more)))
    (ns : ∀ m, s.heap.Ns X.env.locals m → h'.Ns X.env.locals m) (hok : HOk X.prog X.w H' h') (hg : AllBare g') :
    Inv X pins σ H' { s with heap := h', gens := g', drawn := d', toks := t' } := by
  have neL : ∀ b o, X.s₀.heap.get? b = some o → b ≠ X.env.locals := fun b o e => Nat.ne_of_lt (Nat.lt_of_lt_of_le (Heap.lt_size e) I.ok.above)
  have neC : ∀ b o, X.s₀.heap.get? b = some o → b ∉ X.ex → b ∉ ch := fun b o e hx hb => by
    rcases (hch b hb).1 with z | z
    · exact hx z
    · exact absurd (Nat.lt_of_lt_of_le (Heap.lt_size e) z) (Nat.lt_irrefl _)
  have cellK : ∀ x c, X.env.cells.lookup x = some c → ∀ v, s.heap.IsCell c v → h'.IsCell c v := fun x c e v ⟨o, ho, hd⟩ => by
    have nch : c ∉ ch := fun z => (hch c z).2.2.1 x c e rfl
    by_cases hc : c ∈ X.fs
    · obtain ⟨sl, q⟩ := slot c o (I.cne x c e) hc nch ho (I.freeC x c e)
      exact ⟨_, q, hd⟩
    · exact ⟨o, keep c o (I.cne x c e) hc nch ho (I.freeC x c e), hd⟩
  refine ⟨I.ok, I.os, hg, ⟨fun b o e n hb hx => ?_, fun b o e n hb hx => ?_, fun b o e n hx => ?_, fun b o e hx => ?_, fun b xs e => tups b xs (I.base.tups b xs e), fun b o xs e => frzs b o xs (I.base.frzs b o xs e), fun b ps e => ?_⟩, ?_, fun x c e => ?_, ?_, fun x c e => ?_, fun p hp => ?_, hok, I.len⟩
  · exact keep b o (neL b o e) hb (neC b o e hx) (I.base.keep b o e n hb hx) (I.base.free b o e n hx)
  · obtain ⟨sl, e1⟩ := I.base.slot b o e n hb hx
    obtain ⟨sl', e2⟩ := slot b _ (neL b o e) hb (neC b o e hx) e1 (I.base.free b o e n hx)
    exact ⟨sl', e2⟩
  · obtain ⟨o', e1⟩ := I.base.there b o e hx
    exact free b o' (neC b o e hx) e1 (I.base.free b o e n hx)
  · obtain ⟨o', e1⟩ := I.base.there b o e hx
    exact there b o' (neC b o e hx) e1
  · obtain ⟨m1, e1⟩ := I.base.tbls b ps e
    obtain ⟨m2, e2⟩ := tbls b _ e1
    exact ⟨m1 ++ m2, by rw [e2, Array.append_assoc]⟩
  · obtain ⟨m, hn, hl⟩ := I.loc
    refine ⟨m, ns m hn, fun i x v e1 e2 e3 => ?_⟩
    obtain ⟨u, r, l⟩ := hl i x v e1 e2 e3
    refine ⟨u, r, ?_⟩
    rcases l with l | ⟨k, c, e, z⟩
    · exact .inl l
    · exact .inr ⟨k, c, e, cellK x c e _ z⟩
  · obtain ⟨v, z⟩ := I.cell x c e
    exact ⟨v, cellK x c e v z⟩
  · obtain ⟨m, ⟨o, _, _, ho, _⟩, _⟩ := I.loc
    exact free _ o (fun z => (hch _ z).2.1 rfl) ho I.free
  · obtain ⟨v, o, ho, hd⟩ := I.cell x c e
    exact free c o (fun z => (hch c z).2.2.1 x c e rfl) ho (I.freeC x c e)
  · obtain ⟨e, n, ne, nf, d⟩ := I.pin p hp
    have nch : p.1 ∉ ch := fun z => (hch p.1 z).2.2.2 p hp rfl
    exact ⟨keep p.1 p.2 ne nf nch e n, free p.1 p.2 nch e n, ne, nf, d⟩
theorem Inv.un {t' : Nat} (I : Inv X pins σ H s) (u : Un X.fs [] H H' s.heap h') (hok : HOk X.prog X.w H' h') : Inv X pins σ H' { s with heap := h', toks := t' } := by
  obtain ⟨m, ⟨o, es, ep, ho, r⟩, _⟩ := id I.loc
  obtain ⟨sl, hL⟩ := u.any ho I.free (by simp)
  exact I.step (g' := s.gens) (d' := s.drawn) (ch := []) (fun _ z => nomatch z) (fun b o _ hb _ e n => u.keep b o e n hb (by simp)) (fun b o _ hb _ e n => u.slot b o e n hb (by simp)) (fun b o _ e n => u.free b o e n (by simp)) (fun b o _ e => u.there b o e (by simp)) u.tups u.frzs u.tbls (fun m' hm => by
    obtain ⟨o', es', ep', ho', r'⟩ := hm
    rw [ho] at ho'; cases ho'
    exact ⟨_, es', ep', hL, r'⟩) hok I.bare
theorem Inv.call {g' : Array GenState} {t' : Nat} {d' : Drawn} {ch : List Addr} (I : Inv X pins σ H s) (u : Un (frs X.stack) ch H H' s.heap h') (hok : HOk X.prog X.w H' h') (hg : AllBare g')
    (hch : ∀ b ∈ ch, (b ∈ X.ex ∨ X.s₀.heap.objs.size ≤ b) ∧ b ≠ X.env.locals ∧ (∀ x c, X.env.cells.lookup x = some c → c ≠ b) ∧ ∀ p ∈ X.pn ++ pins, p.1 ≠ b) :
    Inv X pins σ H' { s with heap := h', gens := g', drawn := d', toks := t' } := by
  obtain ⟨m, ⟨o, es, ep, ho, r⟩, _⟩ := id I.loc
  obtain ⟨sl, hL⟩ := u.any ho I.free fun z => (hch _ z).2.1 rfl
  exact I.step (ch := ch) hch (fun b o hL hb hc e n => u.keep b o e n (fun z => (List.mem_cons.mp (I.stkSub b z)).elim hL hb) hc) (fun b o _ _ hc e n => u.any e n hc) (fun b o hc e n => u.free b o e n hc) (fun b o hc e => u.there b o e hc) u.tups u.frzs u.tbls (fun m' hm => by
    obtain ⟨o', es', ep', ho', r'⟩ := hm
    rw [ho] at ho'; cases ho'
    exact ⟨_, es', ep', hL, r'⟩) hok hg
theorem Inv.turned {t' : Nat} {it : Addr} (I : Inv X pins σ H s) (k : ∀ b o, b ≠ it → s.heap.get? b = some o → h'.get? b = some o) (hn : H it = none) (hL : it ≠ X.env.locals)
    (h1 : it ∈ X.ex ∨ X.s₀.heap.objs.size ≤ it) (h2 : ∀ x c, X.env.cells.lookup x = some c → c ≠ it) (h3 : ∀ p ∈ X.pn ++ pins, p.1 ≠ it) : Inv X pins σ H { s with heap := h', toks := t' } := by
  have nit : ∀ b u, H b = some u → b ≠ it := fun b u e z => by rw [z, hn] at e; cases e
  refine I.step (g' := s.gens) (d' := s.drawn) (ch := [it]) (fun b hb => ?_) (fun b o _ _ hc e _ => k b o (fun z => hc (by simp [z])) e) (fun b o _ _ hc e _ => ⟨o.slots, k b o (fun z => hc (by simp [z])) e⟩) (fun _ _ _ _ n => n)
    (fun b o hc e => ⟨o, k b o (fun z => hc (by simp [z])) e⟩) (fun _ _ e => e) (fun _ _ _ e => e) (fun b ps e => ⟨#[], by rw [e]; simp⟩) (fun m hm => ?_) (fun b u e => ?_) I.bare
  · have e : b = it := by simpa using hb
    subst e
    exact ⟨h1, hL, h2, h3⟩
  · obtain ⟨o, es, ep, ho, r⟩ := hm
    exact ⟨o, es, ep, k _ o (Ne.symm hL) ho, r⟩
  · refine (I.hok b u e).stay (fun c v hc q => k c v ?_ q) (fun _ q => q) fun _ _ q => q
    rcases hc with z | z
    · rw [z]; exact nit b u e
    · exact nit c _ z
theorem Inv.tok (I : Inv X pins σ H s) (t : Nat) : Inv X pins σ H { s with toks := t } := I.un (h' := s.heap) (t' := t) Un.refl I.hok
theorem Inv.kept {t' : Nat} (I : Inv X pins σ H s) (k : ∀ b u, s.heap.get? b = some u → h'.get? b = some u) : Inv X pins σ H { s with heap := h', toks := t' } := I.un (Un.kept k) (I.hok.kept k)
theorem Inv.laid {a : Addr} {o : HO} {t' : Nat} (I : Inv X pins σ H s) (k : ∀ b u, s.heap.get? b = some u → h'.get? b = some u) (hp : s.heap.objs.size ≤ a) (new : ObjOk X.prog X.w (upd H a o) h' a o) :
    Inv X pins σ (upd H a o) { s with heap := h', toks := t' } := I.un (Un.laid k hp (I.hok.fresh hp)) (I.hok.laid k hp new)
theorem Inv.write {x e : Addr} {o : HO} {t' : Nat} (I : Inv X pins σ H s) (mu : Mut (H x)) (he : e = x ∨ H e = some (.own x)) (k : ∀ b u, b ≠ e → s.heap.get? b = some u → h'.get? b = some u) (heo : ∃ u, h'.get? e = some u)
    (new : ObjOk X.prog X.w (upd H x o) h' x o) : Inv X pins σ (upd H x o) { s with heap := h', toks := t' } := I.un (Un.write mu he k heo) (I.hok.write mu he k heo new)
theorem Inv.pins_of {pins' : List (Addr × Obj)} (I : Inv X pins σ H s) (h : ∀ p ∈ pins', s.heap.get? p.1 = some p.2 ∧ H p.1 = none ∧ p.1 ≠ X.env.locals ∧ p.1 ∉ X.fs ∧ ∀ v, p.2.data ≠ .cell v) : Inv X pins' σ H s :=
  ⟨I.ok, I.os, I.bare, I.base, I.loc, I.cell, I.free, I.freeC, fun p hp => (List.mem_append.mp hp).elim (fun z => I.pin p (List.mem_append_left _ z)) (h p), I.hok, I.len⟩

theorem nodup_ix {N : List Str} (hN : N.Nodup) {i j : Nat} {x : Str} (a : N[i]? = some x) (b : N[j]? = some x) : i = j := by
  obtain ⟨h1, e1⟩ := List.getElem?_eq_some_iff.mp a
  obtain ⟨h2, e2⟩ := List.getElem?_eq_some_iff.mp b
  exact (List.getElem_inj hN).mp (e1.trans e2.symm)

theorem store_ok2 {M : Model} {A : Around} {E : Value → Shared → Prop} {i : Nat} {x : Str} {v : V} {u : Value} {Q : Unit → Shared → Prop} (I : Inv X pins σ H s) (hN : X.N.Nodup) (hi : X.N[i]? = some x) (hx : Loc X.env.scope x) (r : RelV v u)
    (h : ∀ s', Inv X pins (σ.set i (some v)) H s' → (∃ a, Heap.SameBut a s.heap s'.heap ∧ (a = X.env.locals ∨ X.env.cells.lookup x = some a)) → Q () s') (hf : X.fn x = true ∨ X.env.scope.names.lookup x = some .local := by first | exact .inl rfl | exact .inr rfl | assumption) : wpAny M A (storeName X.env x u) Q E s := by
  obtain ⟨m, hn, hl⟩ := id I.loc
  have hcls : (X.env.scope.kind == .class || (X.env.scope.kind == .module && X.env.locals != X.env.globals)) = false := by rw [I.ok.kind]; rfl
  have hiσ : i < σ.length := by rw [I.len]; exact (List.getElem?_eq_some_iff.mp hi).1
  have cne := I.cne
  have tracked : ∀ {a : Addr} {h' : Heap}, (∃ o, s.heap.get? a = some o ∧ H a = none) → Heap.SameBut a s.heap h' → HOk X.prog X.w H h' := fun {a h'} ha hs b ob e => by
    obtain ⟨_, _, hfree⟩ := ha
    refine (I.hok b ob e).stay (fun c w' hc q => (hs.2 c ?_).trans q) (fun _ q => q) fun _ _ q => q
    rintro rfl
    rcases hc with rfl | hc
    · rw [hfree] at e; cases e
    · rw [hfree] at hc; cases hc
  rcases hx with hk | hk
  · refine wpAny_storeName_local hk hn (fun h' hn' hs => ?_) hcls
    obtain ⟨oL, _, _, hoL, _⟩ := id hn
    refine h _ ⟨I.ok, I.os, I.bare, ⟨fun b o e n hb hx => ?_, fun b o e n hb hx => ?_, I.base.free, fun b o e hx => ?_, I.base.tups, I.base.frzs, I.base.tbls⟩, ⟨_, hn', fun j y v' e1 e2 e3 => ?_⟩, fun y c e => ?_, I.free, I.freeC, fun p hp => ?_, tracked ⟨oL, hoL, I.free⟩ hs, by simpa using I.len⟩ ⟨_, hs, .inl rfl⟩
    · exact (hs.2 b (Nat.ne_of_lt (Nat.lt_of_lt_of_le (Heap.lt_size e) I.ok.above))).trans (I.base.keep b o e n hb hx)
    · obtain ⟨sl, e1⟩ := I.base.slot b o e n hb hx
      exact ⟨sl, (hs.2 b (Nat.ne_of_lt (Nat.lt_of_lt_of_le (Heap.lt_size e) I.ok.above))).trans e1⟩
    · obtain ⟨o', e1⟩ := I.base.there b o e hx
      exact ⟨o', (hs.2 b (Nat.ne_of_lt (Nat.lt_of_lt_of_le (Heap.lt_size e) I.ok.above))).trans e1⟩
    · by_cases hj : j = i
      · subst hj
        rw [hi] at e1; cases e1
        rw [List.getElem?_set_self hiσ] at e2
        cases e2
        exact ⟨u, r, .inl ⟨hk, by simp⟩⟩
      · rw [List.getElem?_set_ne (Ne.symm hj)] at e2
        obtain ⟨u', r', q⟩ := hl j y v' e1 e2 e3
        refine ⟨u', r', ?_⟩
        rcases q with ⟨k, e⟩ | ⟨k, c, e, z⟩
        · refine .inl ⟨k, ?_⟩
          have : y ≠ x := fun e => hj (nodup_ix hN e1 (e ▸ hi))
          simp [this, e]
        · exact .inr ⟨k, c, e, z.sameBut hs (cne y c e)⟩
    · obtain ⟨w', z⟩ := I.cell y c e
      exact ⟨w', z.sameBut hs (cne y c e)⟩
    · obtain ⟨e, n, ne, nf, d⟩ := I.pin p hp
      exact ⟨(hs.2 p.1 ne).trans e, n, ne, nf, d⟩
  · have hfn : X.fn x = true := by
      rcases hf with z | z
      · exact z
      · rw [z] at hk; cases hk
    obtain ⟨c, hc⟩ := I.ok.has x (.inl hk)
    obtain ⟨w', z⟩ := I.cell x c hc
    refine wpAny_storeName_cell I.ok.kind hk hc z (fun h' hc' hs => ?_)
    obtain ⟨oc, hoc, hocd⟩ := id z
    refine h { s with heap := h' } ⟨I.ok, I.os, I.bare, ⟨fun b o e n hb hx => ?_, fun b o e n hb hx => ?_, I.base.free, fun b o e hx => ?_, I.base.tups, I.base.frzs, I.base.tbls⟩, ⟨m, hn.sameBut hs (Ne.symm (cne x c hc)), fun j y v' e1 e2 e3 => ?_⟩, fun y c' e => ?_, I.free, I.freeC, fun p hp => ?_, tracked ⟨oc, hoc, I.freeC x c hc⟩ hs, by simpa using I.len⟩ ⟨c, hs, .inr hc⟩
    · exact (hs.2 b (Nat.ne_of_lt (Nat.lt_of_lt_of_le (Heap.lt_size e) (I.ok.cab x c hfn hc)))).trans (I.base.keep b o e n hb hx)
    · obtain ⟨sl, e1⟩ := I.base.slot b o e n hb hx
      exact ⟨sl, (hs.2 b (Nat.ne_of_lt (Nat.lt_of_lt_of_le (Heap.lt_size e) (I.ok.cab x c hfn hc)))).trans e1⟩
    · obtain ⟨o', e1⟩ := I.base.there b o e hx
      exact ⟨o', (hs.2 b (Nat.ne_of_lt (Nat.lt_of_lt_of_le (Heap.lt_size e) (I.ok.cab x c hfn hc)))).trans e1⟩
    · by_cases hj : j = i
      · subst hj
        rw [hi] at e1; cases e1
        rw [List.getElem?_set_self hiσ] at e2
        cases e2
        exact ⟨u, r, .inr ⟨.inl hk, c, hc, hc'⟩⟩
      · rw [List.getElem?_set_ne (Ne.symm hj)] at e2
        obtain ⟨u', r', q⟩ := hl j y v' e1 e2 e3
        refine ⟨u', r', ?_⟩
        rcases q with q | ⟨k, c', e, z'⟩
        · exact .inl q
        · refine .inr ⟨k, c', e, z'.sameBut hs ?_⟩
          rintro rfl
          exact hj (nodup_ix hN e1 (I.ok.inj _ _ _ e hc ▸ hi))
    · by_cases hcc : c' = c
      · subst hcc; exact ⟨_, hc'⟩
      · obtain ⟨w2, z2⟩ := I.cell y c' e
        exact ⟨w2, z2.sameBut hs hcc⟩
    · obtain ⟨e, n, ne, nf, d⟩ := I.pin p hp
      refine ⟨(hs.2 p.1 ?_).trans e, n, ne, nf, d⟩
      intro q
      rw [q, hoc] at e
      have q' : oc = p.2 := Option.some.inj e
      exact d w' (by rw [← q']; exact hocd)
theorem store_ok {M : Model} {A : Around} {E : Value → Shared → Prop} {i : Nat} {x : Str} {v : V} {u : Value} {Q : Unit → Shared → Prop} (I : Inv X pins σ H s) (hN : X.N.Nodup) (hi : X.N[i]? = some x) (hx : Loc X.env.scope x) (r : RelV v u)
    (h : ∀ s', Inv X pins (σ.set i (some v)) H s' → Q () s') (hf : X.fn x = true ∨ X.env.scope.names.lookup x = some .local := by first | exact .inl rfl | exact .inr rfl | assumption) : wpAny M A (storeName X.env x u) Q E s :=
  store_ok2 I hN hi hx r (fun s' I' _ => h s' I') hf
end

/-! ### the judgements -/
abbrev XK := Value → Option Addr → Hp → Prop
abbrev St := List (Option V)
abbrev VK := V → Hp → Prop
abbrev TE := St → Hp → VK → Prop
abbrev TT := St → Hp → (Bool → Hp → Prop) → Prop
abbrev TA := St → Hp → (List V → Hp → Prop) → Prop
structure Ends where
  nx : St → Hp → Prop
  rt : VK
  bk : St → Hp → Prop := fun _ _ => False
  ct : St → Hp → Prop := fun _ _ => False
abbrev TS := Ends → St → Hp → Prop

def EP (X : Cx) (pins : List (Addr × Obj)) (σ : St) (Q : VK) (u : Value) (s' : Shared) : Prop := ∃ v H', Inv X pins σ H' s' ∧ RelV v u ∧ Q v H'
def TP (X : Cx) (pins : List (Addr × Obj)) (σ : St) (Q : Bool → Hp → Prop) (b : Bool) (s' : Shared) : Prop := ∃ H', Inv X pins σ H' s' ∧ Q b H'
def AP (X : Cx) (pins : List (Addr × Obj)) (σ : St) (Q : List V → Hp → Prop) (us : List Value) (s' : Shared) : Prop := ∃ vs H', Inv X pins σ H' s' ∧ Vals vs us ∧ Q vs H'
def SP (X : Cx) (pins : List (Addr × Obj)) (D : Ends) (f : Flow) (s' : Shared) : Prop :=
  match f with
  | .next => ∃ σ' H', Inv X pins σ' H' s' ∧ D.nx σ' H'
  | .brk => ∃ σ' H', Inv X pins σ' H' s' ∧ D.bk σ' H'
  | .cont => ∃ σ' H', Inv X pins σ' H' s' ∧ D.ct σ' H'
  | .ret u => ∃ v σ' H', Inv X pins σ' H' s' ∧ RelV v u ∧ D.rt v H'

def PE (X : Cx) (e : Expr) (t : TE) : Prop :=
  ∀ (pins : List (Addr × Obj)) (s : Shared) (σ : St) (H : Hp) (Q : VK), Inv X pins σ H s → t σ H Q → wpAny (model X.prog X.w) X.A (eval e X.env) (EP X pins σ Q) X.xe s
def PT (X : Cx) (e : Expr) (t : TT) : Prop :=
  ∀ (pins : List (Addr × Obj)) (s : Shared) (σ : St) (H : Hp) (Q : Bool → Hp → Prop), Inv X pins σ H s → t σ H Q → wpAny (model X.prog X.w) X.A (isTrue e X.env (eval e X.env)) (TP X pins σ Q) X.xe s
def PW (X : Cx) (e : Expr) (t : TT) : Prop :=
  ∀ (whole : Sem Value) (pins : List (Addr × Obj)) (s : Shared) (σ : St) (H : Hp) (Q : Bool → Hp → Prop), Inv X pins σ H s → t σ H Q → wpAny (model X.prog X.w) X.A (isTrue e X.env whole) (TP X pins σ Q) X.xe s
theorem PW.pt {X : Cx} {e : Expr} {t : TT} (h : PW X e t) : PT X e t := h _
def PA (X : Cx) (es : List Expr) (t : TA) : Prop :=
  ∀ (pos : Pos) (pins : List (Addr × Obj)) (s : Shared) (σ : St) (H : Hp) (Q : List V → Hp → Prop), Inv X pins σ H s → t σ H Q → wpAny (model X.prog X.w) X.A (spliced (backTo pos (starEach es X.env))) (AP X pins σ Q) X.xe s
def PS (X : Cx) (st : Stmt) (t : TS) : Prop :=
  ∀ (pins : List (Addr × Obj)) (s : Shared) (σ : St) (H : Hp) (D : Ends), Inv X pins σ H s → t D σ H → wpAny (model X.prog X.w) X.A (exec st X.env) (SP X pins D) X.xe s
def PSs (X : Cx) (st : List Stmt) (t : TS) : Prop :=
  ∀ (pins : List (Addr × Obj)) (s : Shared) (σ : St) (H : Hp) (D : Ends), Inv X pins σ H s → t D σ H → wpAny (model X.prog X.w) X.A (execs st X.env) (SP X pins D) X.xe s
theorem thn {α : Type} {t : Sem α} {Q Q' : α → Shared → Prop} {M : Model} {A : Around} {E : Value → Shared → Prop} {s : Shared} (h : wpAny M A t Q E s) (hQ : ∀ a s, Q a s → Q' a s) : wpAny M A t Q' E s := wpAny_mono h hQ fun _ _ x => x
end L2

namespace L2
open PySem PySem.Spec PyProof.Rows
section
variable {X : Cx}

/-! ### names and constants -/
def tVar (i : Nat) : TE := fun σ H Q => ∃ v, σ[i]? = some (some v) ∧ Q v H
def tC (v : V) : TE := fun _ H Q => Q v H
theorem pe_var {i : Nat} {x : Str} {pos : Pos} (hN : X.N[i]? = some x) (hv : Vis X.env.scope x) (hd : (x == ("__debug__" : Str)) = false := by decide) (hcd : (x == ("__classdict__" : Str)) = false := by decide) : PE X (.Name x pos) (tVar i) := by
  intro pins s σ H Q I h
  obtain ⟨v, e, h⟩ := h
  obtain ⟨m, hn, hl⟩ := I.loc
  obtain ⟨u, r, l⟩ := hl i x v hN e hv
  have fin : EP X pins σ Q u s := ⟨v, H, I, r, h⟩
  rcases l with ⟨hk, hm⟩ | ⟨hk, c, hc, hcell⟩
  · exact wpAny_Name (wpAny_loadName_local I.ok.kind hk hn hm fin) hd
  · rcases hk with hk | hk
    · exact wpAny_Name (wpAny_loadName_cell I.ok.kind hk hc hcell fin) hd
    · exact wpAny_Name (wpAny_loadName_free I.ok.kind hk hc hcell fin hcd) hd
theorem pe_int {i j pos} : PE X (.Constant (.int i) j pos) (tC (.int i)) := fun _ _ _ H _ I h => wpAny_Constant_int ⟨.int i, H, I.tok _, ⟨_, rfl⟩, h⟩
theorem pe_bl {b j pos} : PE X (.Constant (.bool b) j pos) (tC (.bl b)) := fun _ _ _ H _ I h => Constant_bool ⟨.bl b, H, I, rfl, h⟩
theorem pe_non {j pos} : PE X (.Constant .none j pos) (tC .non) := fun _ _ _ H _ I h => Constant_none ⟨.non, H, I, rfl, h⟩
theorem pe_str {x j pos} : PE X (.Constant (.str x) j pos) (tC (.str x)) := fun _ _ _ H _ I h => Calls.Constant_str ⟨.str x, H, I.tok _, ⟨_, rfl⟩, h⟩

def Gl (X : Cx) (x : Str) : Prop := X.env.kindOf x = some .globalImplicit
theorem ld_glob {E : Value → Shared → Prop} {pins : List (Addr × Obj)} {s : Shared} {σ : St} {H : Hp} {x : Str} {u : Value} {pos : Pos} {Q : Value → Shared → Prop} (I : Inv X pins σ H s) (hg : Gl X x) (hm : X.mg x = some u) (h : Q u s)
    (hd : (x == ("__debug__" : Str)) = false := by decide) : wpAny (model X.prog X.w) X.A (eval (.Name x pos) X.env) Q E s :=
  Calls.Name_function_global I.ok.kind hg (Calls.loadGlobal_global (by rw [I.ok.glob]; exact I.mod.glob.keeps I.bk) hm h) hd
theorem ld_blt {E : Value → Shared → Prop} {pins : List (Addr × Obj)} {s : Shared} {σ : St} {H : Hp} {x : Str} {u : Value} {pos : Pos} {Q : Value → Shared → Prop} (I : Inv X pins σ H s) (hg : Gl X x) (hm : X.mg x = none) (hv : bootBuiltins x = some u) (h : Q u s)
    (hn : x ≠ "__name__" := by decide) (hd : (x == ("__debug__" : Str)) = false := by decide) : wpAny (model X.prog X.w) X.A (eval (.Name x pos) X.env) Q E s := by
  obtain ⟨mb, h1, h2⟩ := I.mod.blt
  exact Calls.Name_function_global I.ok.kind hg (Calls.loadGlobal_builtin (by rw [I.ok.glob]; exact I.mod.glob.keeps I.bk) hm (by rw [I.ok.blt]; exact h1.keeps I.bk) ((h2 x hn).trans hv) h) hd
theorem pe_glob {x : Str} {v : V} {u : Value} {pos : Pos} (hg : Gl X x) (hm : X.mg x = some u) (r : RelV v u) (hd : (x == ("__debug__" : Str)) = false := by decide) : PE X (.Name x pos) (tC v) :=
  fun _ _ _ H _ I h => ld_glob I hg hm ⟨v, H, I, r, h⟩ hd
theorem pe_bltn {x : Str} {v : V} {u : Value} {pos : Pos} (hg : Gl X x) (hm : X.mg x = none) (hv : bootBuiltins x = some u) (r : RelV v u) (hn : x ≠ "__name__" := by decide) (hd : (x == ("__debug__" : Str)) = false := by decide) : PE X (.Name x pos) (tC v) :=
  fun _ _ _ H _ I h => ld_blt I hg hm hv ⟨v, H, I, r, h⟩ hn hd

/-! ### arithmetic -/
variable {a b : Expr} {ta tb : TE} {pos : Pos}
/-! ### comparisons -/
def tB (t : TE) : TT := fun σ H Q => t σ H fun x H1 => ∃ c, x = .bl c ∧ Q c H1
theorem pt_val {e : Expr} {t : TE} (h : PE X e t) (he : ∀ whole, isTrue e X.env whole = (do let v ← whole; standAt e.pos; holding [v] (truthy v)) := by intro _; rfl) : PT X e (tB t) := by
  intro pins s σ H Q I hw
  refine isTrue_plain (thn (h pins s σ H _ I hw) fun v s1 ⟨x, H1, I1, r1, q1⟩ => ?_) (he _)
  obtain ⟨d, rfl, q⟩ := q1
  cases r1
  exact wpAny_truthy_bool ⟨H1, I1, q⟩

/-! ### and, or, not -/
variable {tA tB' : TT} {rest : List Expr}
def tAnd (t u : TT) : TT := fun σ H Q => t σ H fun c H1 => if c = true then u σ H1 Q else Q false H1
def tOr (t u : TT) : TT := fun σ H Q => t σ H fun c H1 => if c = true then Q true H1 else u σ H1 Q
def tNot (t : TT) : TT := fun σ H Q => t σ H fun c H1 => Q (!c) H1
theorem pw_and1 (ha : PT X a tA) : PW X (.BoolOp .And [a] pos) tA := by
  intro wh pins s σ H Q I h
  refine isTrue_and (thn (ha pins s σ H Q I h) fun c s1 e => ?_)
  cases c with
  | true => exact isTrue_and_nil e
  | false => exact e
theorem pw_or1 (ha : PT X a tA) : PW X (.BoolOp .Or [a] pos) tA := by
  intro wh pins s σ H Q I h
  refine isTrue_or (thn (ha pins s σ H Q I h) fun c s1 e => ?_)
  cases c with
  | false => exact isTrue_or_nil e
  | true => exact e
theorem pw_and (ha : PT X a tA) (hb : PW X (.BoolOp .And (b :: rest) pos) tB') : PW X (.BoolOp .And (a :: b :: rest) pos) (tAnd tA tB') := by
  intro wh pins s σ H Q I h
  refine isTrue_and (thn (ha pins s σ H _ I h) fun c s1 ⟨H1, I1, q1⟩ => ?_)
  cases c with
  | true => exact hb wh pins s1 σ H1 Q I1 q1
  | false => exact ⟨H1, I1, q1⟩
theorem pw_or (ha : PT X a tA) (hb : PW X (.BoolOp .Or (b :: rest) pos) tB') : PW X (.BoolOp .Or (a :: b :: rest) pos) (tOr tA tB') := by
  intro wh pins s σ H Q I h
  refine isTrue_or (thn (ha pins s σ H _ I h) fun c s1 ⟨H1, I1, q1⟩ => ?_)
  cases c with
  | true => exact ⟨H1, I1, q1⟩
  | false => exact hb wh pins s1 σ H1 Q I1 q1
theorem pt_not (ha : PT X a tA) : PT X (.UnaryOp .Not a pos) (tNot tA) := by
  intro pins s σ H Q I h
  exact isTrue_not (ha pins s σ H (fun c H1 => Q (!c) H1) I h)
def tAndV (ta tb : TE) : TE := fun σ H Q => ta σ H fun x H1 => ∃ c, x = .bl c ∧ if c = true then tb σ H1 Q else Q (.bl false) H1
def tOrV (ta tb : TE) : TE := fun σ H Q => ta σ H fun x H1 => ∃ c, x = .bl c ∧ if c = true then Q (.bl true) H1 else tb σ H1 Q
def tNotV (ta : TE) : TE := fun σ H Q => ta σ H fun x H1 => ∃ c, x = .bl c ∧ Q (.bl (!c)) H1
theorem pe_one {op} {t : TE} (h : PE X a t) : PE X (.BoolOp op [a] pos) t := fun pins s σ H Q I hw => BoolOp_one (h pins s σ H Q I hw)
theorem pe_and (ha : PE X a ta) (hb : PE X (.BoolOp .And (b :: rest) pos) tb) : PE X (.BoolOp .And (a :: b :: rest) pos) (tAndV ta tb) := by
  intro pins s σ H Q I h
  refine BoolOp_and (thn (ha pins s σ H _ I h) fun v s1 ⟨x, H1, I1, r1, q1⟩ => ?_)
  obtain ⟨c, rfl, q1⟩ := q1
  cases r1
  refine wpAny_truthy_bool ?_
  cases c with
  | true => exact hb pins s1 σ H1 Q I1 q1
  | false => exact ⟨.bl false, H1, I1, rfl, q1⟩
theorem pe_or (ha : PE X a ta) (hb : PE X (.BoolOp .Or (b :: rest) pos) tb) : PE X (.BoolOp .Or (a :: b :: rest) pos) (tOrV ta tb) := by
  intro pins s σ H Q I h
  refine BoolOp_or (thn (ha pins s σ H _ I h) fun v s1 ⟨x, H1, I1, r1, q1⟩ => ?_)
  obtain ⟨c, rfl, q1⟩ := q1
  cases r1
  refine wpAny_truthy_bool ?_
  cases c with
  | false => exact hb pins s1 σ H1 Q I1 q1
  | true => exact ⟨.bl true, H1, I1, rfl, q1⟩
theorem pe_not (ha : PE X a ta) : PE X (.UnaryOp .Not a pos) (tNotV ta) := by
  intro pins s σ H Q I h
  refine UnaryOp_ (thn (ha pins s σ H _ I h) fun v s1 ⟨x, H1, I1, r1, q1⟩ => ?_)
  obtain ⟨c, rfl, q1⟩ := q1
  cases r1
  exact not_of (wpAny_truthy_bool ⟨.bl (!c), H1, I1, rfl, q1⟩)
end
end L2

namespace L2
open PySem PySem.Spec PyProof.Rows

/-! ### a list, a tuple that is read: tracked, frozen, or an object of the module -/
def SqL (K : PySem.W.Frag) (H : Hp) (a : Addr) (xs : List V) : Prop :=
  Rd H a (.lst xs) ∨
    ∃ (o : Obj) (its : Array Value) (n : Nat), K.lookup a = some o ∧ o.cls = .type "list" ∧ o.dict = none ∧ o.data = .seq its n ∧ its.size ≤ sizeLine ∧ Vals xs its.toList
def SqT (K : PySem.W.Frag) (H : Hp) (a : Addr) (xs : List V) : Prop :=
  Rd H a (.tup xs) ∨
    ∃ (o : Obj) (its : Array Value) (n : Nat), K.lookup a = some o ∧ o.cls = .type "tuple" ∧ o.data = .seq its n ∧ its.size ≤ sizeLine ∧ Vals xs its.toList
def absV : Value → Option V
  | .none => some .non
  | .bool b => some (.bl b)
  | .int i _ => some (.int i)
  | .str x _ => some (.str x)
  | .bytes b _ => some (.byt b)
  | .float b _ => some (.flt b)
  | .ref a => some (.ref a)
  | .type n => some (.ty n)
  | _ => none
theorem RelV.abs {x : V} {u : Value} (r : RelV x u) : absV u = some x := by
  cases x with
  | non => cases r; rfl
  | bl _ => cases r; rfl
  | int _ => obtain ⟨t, rfl⟩ := r; rfl
  | str _ => obtain ⟨t, rfl⟩ := r; rfl
  | byt _ => obtain ⟨t, rfl⟩ := r; rfl
  | flt _ => obtain ⟨t, rfl⟩ := r; rfl
  | ref _ => cases r; rfl
  | ty _ => cases r; rfl
theorem RelV.inj {x y : V} {u : Value} (r : RelV x u) (q : RelV y u) : x = y := Option.some.inj (r.abs.symm.trans q.abs)
theorem Vals.inj : ∀ {xs ys : List V} {us : List Value}, Vals xs us → Vals ys us → xs = ys
  | _, _, _, .nil, .nil => rfl
  | _, _, _, .cons r t, .cons r' t' => by rw [r.inj r', Vals.inj t t']
section
variable {X : Cx} {pins : List (Addr × Obj)} {σ : St} {H : Hp} {s : Shared} {a : Addr} {xs ys : List V}
theorem SqL.of {K : PySem.W.Frag} (h : H a = some (.lst xs)) : SqL K H a xs := .inl (.inl h)
theorem SqT.of {K : PySem.W.Frag} (h : H a = some (.tup xs)) : SqT K H a xs := .inl (.inl h)
theorem Inv.list (I : Inv X pins σ H s) (h : SqL X.K H a xs) : ∃ its : List Value, Vals xs its ∧ PlainL s.heap a its.toArray ∧ xs.length ≤ sizeLine := by
  rcases h with h | ⟨o, its, n, hk, hc, hd, hs, hz, r⟩
  · obtain ⟨z, its, n, r, e⟩ := h.ok I.hok
    exact ⟨its, r, ⟨_, n, e, rfl, rfl, rfl⟩, z⟩
  · refine ⟨its.toList, r, ⟨o, n, I.kIn a o hk, hc, hd, by simpa using hs⟩, ?_⟩
    have e := r.length
    simp only [Array.length_toList] at e
    omega
theorem Inv.tuple (I : Inv X pins σ H s) (h : SqT X.K H a xs) : ∃ its : List Value, Vals xs its ∧ IsTup s.heap a its.toArray ∧ xs.length ≤ sizeLine := by
  rcases h with h | ⟨o, its, n, hk, hc, hs, hz, r⟩
  · obtain ⟨z, its, r, p⟩ := h.ok I.hok
    exact ⟨its, r, p, z⟩
  · refine ⟨its.toList, r, ⟨o, I.kIn a o hk, hc, n, by simpa using hs⟩, ?_⟩
    have e := r.length
    simp only [Array.length_toList] at e
    omega
theorem Inv.list_inj (I : Inv X pins σ H s) (h : SqL X.K H a xs) (h' : SqL X.K H a ys) : xs = ys := by
  obtain ⟨its, r, ⟨o, n, e, _, _, d⟩, _⟩ := I.list h
  obtain ⟨its', r', ⟨o', n', e', _, _, d'⟩, _⟩ := I.list h'
  rw [e] at e'; cases e'
  rw [d] at d'
  injection d' with d1 _
  have : its = its' := by simpa using congrArg Array.toList d1
  subst this
  exact r.inj r'
end

/-! ### another wish about exceptions -/
abbrev Cx.wish (X : Cx) (E : Value → Shared → Prop) : Cx := { X with xe := E }
abbrev Cx.nox (X : Cx) : Cx := X.wish fun _ _ => False
theorem Cx.Ok.wish {X : Cx} (ok : X.Ok) (E : Value → Shared → Prop) : (X.wish E).Ok :=
  ⟨ok.mod, ok.kind, ok.glob, ok.blt, ok.above, ok.inj, ok.has, ok.cab, ok.hd, ok.frames, ok.stk, ok.exf, ok.bs, ok.bsz, ok.noex, ok.exfs, ok.funs, ok.frf⟩
theorem Cx.Ok.unwish {X : Cx} {E : Value → Shared → Prop} (ok : (X.wish E).Ok) : X.Ok :=
  ⟨ok.mod, ok.kind, ok.glob, ok.blt, ok.above, ok.inj, ok.has, ok.cab, ok.hd, ok.frames, ok.stk, ok.exf, ok.bs, ok.bsz, ok.noex, ok.exfs, ok.funs, ok.frf⟩
section
variable {X : Cx} {pins : List (Addr × Obj)} {σ : St} {H : Hp} {s : Shared} {E : Value → Shared → Prop}
theorem Inv.wish (I : Inv X pins σ H s) (E : Value → Shared → Prop) : Inv (X.wish E) pins σ H s := ⟨I.ok.wish E, I.os, I.bare, I.base, I.loc, I.cell, I.free, I.freeC, I.pin, I.hok, I.len⟩
theorem Inv.unwish (I : Inv (X.wish E) pins σ H s) : Inv X pins σ H s := ⟨I.ok.unwish, I.os, I.bare, I.base, I.loc, I.cell, I.free, I.freeC, I.pin, I.hok, I.len⟩
theorem SP.unwish {D : Ends} {f : Flow} {s' : Shared} (h : SP (X.wish E) pins D f s') : SP X pins D f s' := by
  cases f with
  | next => obtain ⟨σ', H', I, q⟩ := h; exact ⟨σ', H', I.unwish, q⟩
  | brk => obtain ⟨σ', H', I, q⟩ := h; exact ⟨σ', H', I.unwish, q⟩
  | cont => obtain ⟨σ', H', I, q⟩ := h; exact ⟨σ', H', I.unwish, q⟩
  | ret u => obtain ⟨v, σ', H', I, r, q⟩ := h; exact ⟨v, σ', H', I.unwish, r, q⟩
theorem PSs.nox {st : List Stmt} {t : TS} (h : PSs X.nox st t) : PSs X st t := fun pins s σ H D I hw =>
  wpAny_mono (h pins s σ H D (I.wish _) hw) (fun _ _ q => q.unwish) fun _ _ z => False.elim z
end

/-! ### blocks and small statements -/
section
variable {X : Cx} {st : Stmt} {rest : List Stmt} {t u : TS} {e : Expr} {te : TE} {pos : Pos}
def tNext : TS := fun D σ H => D.nx σ H
def tSeq (t u : TS) : TS := fun D σ H => t { D with nx := u D } σ H
theorem pss_nil : PSs X [] tNext := fun _ _ σ H _ I h => wpAny_execs_nil ⟨σ, H, I, h⟩
theorem pss_cons (h1 : PS X st t) (h2 : PSs X rest u) : PSs X (st :: rest) (tSeq t u) := by
  intro pins s σ H D I h
  refine wpAny_execs_cons (thn (h1 pins s σ H { D with nx := u D } I h) fun f s1 q => ?_)
  cases f with
  | next =>
    obtain ⟨σ', H', I', q⟩ := q
    exact h2 pins s1 σ' H' D I' q
  | ret v => exact q
  | brk => exact q
  | cont => exact q
theorem pss_one (h1 : PS X st t) : PSs X [st] t := by
  intro pins s σ H D I h
  refine wpAny_execs_cons (thn (h1 pins s σ H D I h) fun f s1 q => ?_)
  cases f with
  | next => exact wpAny_execs_nil q
  | ret v => exact q
  | brk => exact q
  | cont => exact q
def tBreak : TS := fun D σ H => D.bk σ H
theorem ps_break : PS X (.Break pos) tBreak := fun _ _ σ H _ I h => wpAny_Break ⟨σ, H, I, h⟩
theorem Inv.quiet {pins : List (Addr × Obj)} {σ : St} {H : Hp} {s : Shared} (I : Inv X pins σ H s) : interactive X.env = false := by simp [interactive, I.ok.kind]
def tDrop (te : TE) : TS := fun D σ H => te σ H fun _ H1 => D.nx σ H1
theorem ps_expr (he : PE X e te) (hs : swapsWith e none pos.line X.env = pure false := by rfl) : PS X (.Expr e pos) (tDrop te) := by
  intro pins s σ H D I h
  exact wpAny_Expr_any (thn (he pins s σ H _ I h) fun v s1 ⟨x, H1, I1, r1, q1⟩ => ⟨σ, H1, I1, q1⟩) I.quiet hs
def tRet (te : TE) : TS := fun D σ H => te σ H D.rt
theorem ps_ret (he : PE X e te) : PS X (.Return (some e) pos) (tRet te) := by
  intro pins s σ H D I h
  exact wpAny_Return_some (thn (he pins s σ H _ I h) fun v s1 ⟨x, H1, I1, r1, q1⟩ => ⟨x, σ, H1, I1, r1, q1⟩)
def tIfS (c : TT) (t u : TS) : TS := fun D σ H => c σ H fun b H1 => if b = true then t D σ H1 else u D σ H1
theorem ps_if {c : Expr} {a b : List Stmt} {tc : TT} (hc : PT X c tc) (ha : PSs X a t) (hb : PSs X b u) : PS X (.If c a b pos) (tIfS tc t u) := by
  intro pins s σ H D I h
  refine wpAny_If (thn (hc pins s σ H _ I h) fun d s1 ⟨H1, I1, q1⟩ => ?_)
  cases d with
  | true => exact ha pins s1 σ H1 D I1 q1
  | false => exact hb pins s1 σ H1 D I1 q1
end

/-! ### targets -/
abbrev TG := V → St → Hp → (St → Hp → Prop) → Prop
def PG (X : Cx) (target : Expr) (t : TG) : Prop :=
  ∀ (pins : List (Addr × Obj)) (s : Shared) (σ : St) (H : Hp) (v : V) (u : Value) (Q : St → Hp → Prop), Inv X pins σ H s → RelV v u → t v σ H Q →
    wpAny (model X.prog X.w) X.A (assign target X.env u) (fun _ s' => ∃ σ' H', Inv X pins σ' H' s' ∧ Q σ' H') X.xe s
section
variable {X : Cx} {pos : Pos}
def gName (i : Nat) : TG := fun v σ H Q => Q (σ.set i (some v)) H
theorem pg_name {i : Nat} {x : Str} (hN : X.N.Nodup) (hi : X.N[i]? = some x) (hx : Loc X.env.scope x) (hf : X.fn x = true ∨ X.env.scope.names.lookup x = some .local := by first | exact .inl rfl | exact .inr rfl | assumption) : PG X (.Name x pos) (gName i) := by
  intro pins s σ H v u Q I r h
  exact wpAny_assign_Name (store_ok I hN hi hx r (fun s' I' => ⟨_, H, I', h⟩) hf)
def tAsg (te : TE) (g : TG) : TS := fun D σ H => te σ H fun x H1 => g x σ H1 D.nx
theorem ps_set {i : Nat} {x : Str} {e : Expr} {te : TE} {pos' : Pos} (hN : X.N.Nodup) (hi : X.N[i]? = some x) (hx : Loc X.env.scope x) (he : PE X e te) (hs : swapsWith e (some (.Name x pos')) pos.line X.env = pure false := by rfl) (hf : X.fn x = true ∨ X.env.scope.names.lookup x = some .local := by first | exact .inl rfl | exact .inr rfl | assumption) :
    PS X (.Assign [.Name x pos'] e pos) (tAsg te (gName i)) := by
  intro pins s σ H D I h
  refine wpAny_Assign_Name (thn (he pins s σ H _ I h) fun v s1 ⟨y, H1, I1, r1, q1⟩ => ?_) hs
  exact store_ok I1 hN hi hx r1 (fun s2 I2 => ⟨_, H1, I2, q1⟩) hf
end

/-! ### while -/
section
variable {X : Cx} {pos : Pos}
def tWhile (c : TT) (tb : TS) : TS := fun D σ H => ∃ W : Nat → St → Hp → Prop, (∃ m, W m σ H) ∧ ∀ m σ H, W m σ H →
  c σ H fun b H1 => if b = true then ∃ N : St → Hp → Prop, (∀ σ' H', N σ' H' → ∃ m', m' < m ∧ W m' σ' H') ∧ tb { D with nx := N, ct := N, bk := D.nx } σ H1 else D.nx σ H1
theorem ps_while {c : Expr} {body : List Stmt} {tc : TT} {tb : TS} (hp : PassesOwn (model X.prog X.w) X.A X.env X.xe) (hc : PT X c tc) (hb : PSs X body tb) : PS X (.While c body [] pos) (tWhile tc tb) := by
  intro pins s σ H D I h
  obtain ⟨W, ⟨m0, w0⟩, turn⟩ := h
  refine wpAny_While (codeAny_whileLoop (fun n s' => ∃ σ' H', Inv X pins σ' H' s' ∧ W n σ' H') ?_ m0 ⟨σ, H, I, w0⟩)
  rintro n s1 ⟨σ1, H1, I1, w1⟩
  refine wpAny_passesOwn hp (thn (hc pins s1 σ1 H1 _ I1 (turn n σ1 H1 w1)) fun b s2 ⟨H2, I2, q2⟩ => ?_)
  cases b with
  | true =>
    obtain ⟨N, hN, q2⟩ := q2
    rw [if_pos rfl]
    refine wpAny_passesOwn hp (thn (hb pins s2 σ1 H2 _ I2 q2) fun f s3 q3 => ?_)
    cases f with
    | next =>
      obtain ⟨σ3, H3, I3, n3⟩ := q3
      obtain ⟨m', hm, w3⟩ := hN σ3 H3 n3
      exact ⟨m', hm, σ3, H3, I3, w3⟩
    | cont =>
      obtain ⟨σ3, H3, I3, n3⟩ := q3
      obtain ⟨m', hm, w3⟩ := hN σ3 H3 n3
      exact ⟨m', hm, σ3, H3, I3, w3⟩
    | brk => exact q3
    | ret v => exact q3
  | false =>
    rw [if_neg Bool.false_ne_true]
    exact wpAny_execs_nil ⟨σ1, H2, I2, q2⟩
end

/-! ### what a loop or a comprehension walks -/
structure It where
  go : Nat → Hp → Prop
  yld : Nat → Hp → V → Hp → Prop
  stop : Nat → Hp → Prop
def FpOk (X : Cx) (pins : List (Addr × Obj)) (H : Hp) (b : Addr) : Prop :=
  H b = none ∧ b ≠ X.env.locals ∧ b ∉ X.fs ∧ (b ∈ X.ex ∨ X.s₀.heap.objs.size ≤ b) ∧ (∀ x c, X.env.cells.lookup x = some c → c ≠ b) ∧ ∀ p ∈ X.pn ++ pins, p.1 ≠ b
theorem Inv.fpOk {X : Cx} {pins : List (Addr × Obj)} {σ : St} {H H' : Hp} {s : Shared} {b : Addr} (I : Inv X pins σ H s) (hb : s.heap.objs.size ≤ b) (hn : H' b = none) : FpOk X pins H' b := by
  refine ⟨hn, Nat.ne_of_gt (Nat.lt_of_lt_of_le I.lt hb), I.nofs hb, .inr (Nat.le_trans I.sz hb), fun x c e z => ?_, fun p hp z => ?_⟩
  · obtain ⟨v, q⟩ := I.cell x c e
    exact absurd (Nat.lt_of_lt_of_le q.lt (by rw [z]; exact hb)) (Nat.lt_irrefl _)
  · exact absurd (Nat.lt_of_lt_of_le (Heap.lt_size (I.pin p hp).1) (by rw [z]; exact hb)) (Nat.lt_irrefl _)
structure Turn (P : Program) (w : World) (K : PySem.W.Frag) (tg : Expr) (J : It) (fp : List Addr) (it : Addr) (tn : Nat → Heap → Prop) : Prop where
  mem : it ∈ fp
  obj : ∀ i h, tn i h → ∀ b ∈ fp, ∃ o, h.get? b = some o ∧ ∀ v, o.data ≠ .cell v
  keep : ∀ i h h', tn i h → (∀ b ∈ fp, ∀ o, h.get? b = some o → h'.get? b = some o) → tn i h'
  item : ∀ (X : Cx), X.prog = P → X.w = w → X.K = K → X.calm = true → ∀ (i : Nat) (pins : List (Addr × Obj)) (s : Shared) (σ : St) (H : Hp) (E : Value → Shared → Prop), Inv X pins σ H s → (∀ b ∈ fp, FpOk X pins H b) → tn i s.heap → J.go i H →
    wpAny (model P w) X.A (pyNext (.ref it)) (fun r s1 => ∃ u, r = some u ∧
      wpAny (model P w) X.A (letOwnedTupleGo tg (.ref it) u) (fun _ s2 => ∃ x H', Inv X pins σ H' s2 ∧ RelV x u ∧ J.yld i H x H' ∧ tn (i + 1) s2.heap ∧ ∀ b ∈ fp, H' b = none) E s1) E s
  done : ∀ (X : Cx), X.prog = P → X.w = w → X.K = K → X.calm = true → ∀ (i : Nat) (pins : List (Addr × Obj)) (s : Shared) (σ : St) (H : Hp) (E : Value → Shared → Prop), Inv X pins σ H s → (∀ b ∈ fp, FpOk X pins H b) → tn i s.heap → J.stop i H →
    wpAny (model P w) X.A (pyNext (.ref it)) (fun r s1 => r = none ∧ Inv X pins σ H s1) E s
  self : ∀ (A : Around) (i : Nat) (s : Shared) (Q : Value → Shared → Prop) (E : Value → Shared → Prop), tn i s.heap → Q (.ref it) s → wpAny (model P w) A (pyIter (.ref it)) Q E s
abbrev TI := St → Hp → (It → Hp → Prop) → Prop
def PIE (X : Cx) (pins : List (Addr × Obj)) (σ : St) (tg : Expr) (R : It → Hp → Prop) (itv : Value) (s2 : Shared) : Prop :=
  ∃ (it : Addr) (fp : List Addr) (tn : Nat → Heap → Prop) (J : It) (H' : Hp), itv = .ref it ∧ Inv X pins σ H' s2 ∧ Turn X.prog X.w X.K tg J fp it tn ∧ tn 0 s2.heap ∧ (∀ b ∈ fp, FpOk X pins H' b) ∧ R J H'
def PI (X : Cx) (tg iter : Expr) (wi : TI) : Prop :=
  ∀ (pins : List (Addr × Obj)) (s : Shared) (σ : St) (H : Hp) (R : It → Hp → Prop), Inv X pins σ H s → wi σ H R →
    wpAny (model X.prog X.w) X.A (eval iter X.env) (fun v s1 => wpAny (model X.prog X.w) X.A (pyIter v) (PIE X pins σ tg R) X.xe s1) X.xe s

theorem go_of {M : Model} {A : Around} {E : Value → Shared → Prop} {s : Shared} {tg : Expr} {it : Addr} {u : Value} {o : Obj} {n : String} {vs : Array Value} {Q : Unit → Shared → Prop} (ho : s.heap.get? it = some o) (hc : o.cls = .type n) (hd : o.data = .fields vs)
    (hn : ["enumerate", "zip", "dict_itemiterator", "dict_reverseitemiterator", "odict_iterator", "itertools.zip_longest", "itertools.pairwise"].contains n = false) (hQ : Q () s) : wpAny M A (letOwnedTupleGo tg (.ref it) u) Q E s := by
  unfold letOwnedTupleGo
  cases tg <;> first
    | exact wpAny_pure hQ
    | (cases u <;> first
        | exact wpAny_pure hQ
        | (refine wpAny_bind (wpAny_load ho ?_)
           rw [hc, hd]
           show wpAny M A (if (["enumerate", "zip", "dict_itemiterator", "dict_reverseitemiterator", "odict_iterator", "itertools.zip_longest", "itertools.pairwise"].contains n && vs[0]? == some (rawInt _)) = true then _ else _) Q E s
           rw [if_neg (by intro h; rw [hn, Bool.false_and] at h; cases h)]
           exact wpAny_pure hQ))

def Itl (K : PySem.W.Frag) (a : Addr) : It :=
  ⟨fun i H => ∃ xs x, SqL K H a xs ∧ xs[i]? = some x, fun i H x H' => H' = H ∧ ∀ xs, SqL K H a xs → xs[i]? = some x, fun i H => ∃ xs, SqL K H a xs ∧ xs.length ≤ i⟩
def Itr (lo : Int) (n : Nat) : It := ⟨fun i _ => i < n, fun i H x H' => H' = H ∧ x = .int (lo + i), fun i _ => n ≤ i⟩
theorem turn_list {P : Program} {w : World} {K : PySem.W.Frag} {tg : Expr} (a it : Addr) : Turn P w K tg (Itl K a) [it] it (fun i h => h.IsListIter it a i) where
  mem := by simp
  obj := fun i h st b hb => by
    have e : b = it := by simpa using hb
    subst e
    obtain ⟨o, e, c, d⟩ := st
    exact ⟨o, e, fun v z => by rw [d] at z; cases z⟩
  keep := fun i h h' st k => st.at fun o e => k it (by simp) o e
  item := by
    intro X hP hw hK hc i pins s σ H E I hf st hg
    subst hP hw hK
    obtain ⟨xs, x, hq, hx⟩ := hg
    obtain ⟨its, rv, p, hz⟩ := I.list hq
    obtain ⟨u, hu, ru⟩ := rv.get hx
    obtain ⟨f0, f1, f2, f3, f4, f5⟩ := hf it (by simp)
    refine wpAny_pyNext_list_item st p.isList (x := u) (by simpa using hu) fun h' st' sb => ?_
    have I1 : Inv X pins σ H { s with heap := h' } := I.turned (t' := s.toks) (fun b o hb e => (sb.2 b hb).trans e) f0 f1 f3 f4 f5
    obtain ⟨o, e, c, d⟩ := id st'
    exact ⟨u, rfl, go_of (s := { s with heap := h' }) e c d (by decide) ⟨x, H, I1, ru, ⟨rfl, fun ys hy => by rw [I.list_inj hy hq]; exact hx⟩, st', fun b hb => (hf b hb).1⟩⟩
  done := by
    intro X hP hw hK hc i pins s σ H E I hf st hg
    subst hP hw hK
    obtain ⟨xs, hq, hx⟩ := hg
    obtain ⟨its, rv, p, hz⟩ := I.list hq
    obtain ⟨f0, f1, f2, f3, f4, f5⟩ := hf it (by simp)
    have hl := rv.length
    exact wpAny_pyNext_list_end (I.ok.hd hc) st p.isList (by simp; omega) fun h' eb => ⟨rfl, I.turned (t' := s.toks) (fun b o hb e => eb b o hb e) f0 f1 f3 f4 f5⟩
  self := fun _ _ _ _ _ st h => wpAny_pyIter_listiter st h
theorem turn_range {P : Program} {w : World} {K : PySem.W.Frag} {tg : Expr} (it : Addr) (lo : Int) (n : Nat) : Turn P w K tg (Itr lo n) [it] it (fun i h => IsRangeIter h it (lo + (i : Nat) * 1) ((n : Int) - (i : Nat)) 1) where
  mem := by simp
  obj := fun i h st b hb => by
    have e : b = it := by simpa using hb
    subst e
    exact ⟨_, st, fun v z => by
      have z' : Data.fields _ = Data.cell v := z
      cases z'⟩
  keep := fun i h h' st k => k it (by simp) _ st
  item := by
    intro X hP hw hK hc i pins s σ H E I hf st hg
    subst hP hw hK
    obtain ⟨f0, f1, f2, f3, f4, f5⟩ := hf it (by simp)
    have W := Walks.range (prog := X.prog) (w := X.w) (I.ok.hd hc) it lo 1 n
    refine W.item i s _ _ hg st fun v h' tk hv st' kk => ?_
    obtain ⟨t, rfl⟩ := hv
    have I1 : Inv X pins σ H { s with heap := h', toks := tk } := I.turned (fun b o hb e => kk b o (by simpa using hb) e) f0 f1 f3 f4 f5
    refine ⟨_, rfl, go_of (s := { s with heap := h', toks := tk }) (n := "range_iterator") st' rfl rfl (by decide) ⟨.int (lo + i), H, I1, ⟨t, ?_⟩, ⟨rfl, rfl⟩, st', fun b hb => (hf b hb).1⟩⟩
    rw [Int.mul_one]
  done := by
    intro X hP hw hK hc i pins s σ H E I hf st hg
    subst hP hw hK
    obtain ⟨f0, f1, f2, f3, f4, f5⟩ := hf it (by simp)
    exact wpAny_pyNext_range_end (I.ok.hd hc) st (by have : n ≤ i := hg; omega) fun h' eb => ⟨rfl, I.turned (t' := s.toks) (fun b o hb e => eb b o hb e) f0 f1 f3 f4 f5⟩
  self := fun _ _ _ _ _ st h => wpAny_pyIter_rangeiter st h
end L2

namespace L2
open PySem PySem.Spec PyProof.Rows
section
variable {X : Cx} {tg : Expr}
def iList (K : PySem.W.Frag) (tl : TE) : TI := fun σ H R => tl σ H fun x H1 => ∃ a, x = .ref a ∧ (∃ xs, SqL K H1 a xs) ∧ R (Itl K a) H1
theorem pi_list {l : Expr} {tl : TE} (hl : PE X l tl) : PI X tg l (iList X.K tl) := by
  intro pins s σ H R I h
  refine thn (hl pins s σ H _ I h) fun v s1 ⟨x, H1, I1, r1, q1⟩ => ?_
  obtain ⟨a, e, ⟨xs, hq⟩, q⟩ := q1
  subst e
  cases r1
  obtain ⟨its, rv, p, hz⟩ := I1.list hq
  refine wpAny_pyIter_list p.isList ?_
  refine ⟨s1.heap.objs.size, [s1.heap.objs.size], _, _, H1, rfl, I1.kept (t' := s1.toks) fun b o e => Heap.get?_push_of_some _ e, turn_list a _, ⟨_, Heap.get?_push_size _ rfl, rfl, rfl⟩, fun b hb => ?_, q⟩
  have e : b = s1.heap.objs.size := by simpa using hb
  subst e
  exact I1.fpOk (Nat.le_refl _) (I1.hok.fresh (Nat.le_refl _))
theorem range_it {pins : List (Addr × Obj)} {σ : St} {H : Hp} {s : Shared} {R : It → Hp → Prop} {E : Value → Shared → Prop} {lo hi : Int} {t u v : Tok} {tk : Nat} (I : Inv X pins σ H s) (h1 : -(2 ^ 62) ≤ lo) (h2 : lo < 2 ^ 62) (h3 : -(2 ^ 62) ≤ hi) (h4 : hi < 2 ^ 62)
    (q : R (Itr lo (hi - lo).toNat) H) : wpAny (model X.prog X.w) X.A (pyIter (.ref s.heap.objs.size)) (PIE X pins σ tg R) E { s with heap := s.heap.push { cls := .type "range", data := .fields #[.int lo t, .int hi u, .int 1 v] }, toks := tk } := by
  refine wpAny_pyIter_range (IsRange.new ..) (small_one h1 h2 h3 h4) ?_
  have I1 : Inv X pins σ H { s with heap := s.heap.push { cls := .type "range", data := .fields #[.int lo t, .int hi u, .int 1 v] }, toks := tk } := I.kept fun b o e => Heap.get?_push_of_some _ e
  refine ⟨(s.heap.push { cls := .type "range", data := .fields #[.int lo t, .int hi u, .int 1 v] }).objs.size, [(s.heap.push { cls := .type "range", data := .fields #[.int lo t, .int hi u, .int 1 v] }).objs.size], _, _, H, rfl,
    I1.kept (t' := tk) fun b o e => Heap.get?_push_of_some _ e, turn_range _ lo (hi - lo).toNat, ?_, fun b hb => ?_, q⟩
  · have e1 : lo + ((0 : Nat) : Int) * 1 = lo := by simp
    have e2 : (((hi - lo).toNat : Nat) : Int) - ((0 : Nat) : Int) = Builtin.Range.rangeSize lo hi 1 := by rw [rangeSize_one]; split <;> omega
    show IsRangeIter _ _ (lo + ((0 : Nat) : Int) * 1) ((((hi - lo).toNat : Nat) : Int) - ((0 : Nat) : Int)) 1
    rw [e1, e2]
    exact Heap.get?_push_size _ rfl
  · have e : b = (s.heap.push { cls := .type "range", data := .fields #[.int lo t, .int hi u, .int 1 v] }).objs.size := by simpa using hb
    subst e
    exact I1.fpOk (Nat.le_refl _) (I1.hok.fresh (Nat.le_refl _))
def iRng1 (ta : TA) : TI := fun σ H R => ta σ H fun vs H1 => ∃ j : Int, vs = [.int j] ∧ -(2 ^ 62) ≤ j ∧ j < 2 ^ 62 ∧ R (Itr 0 j.toNat) H1
theorem pi_range1 {a : Expr} {ta : TA} {p pos : Pos} (hg : Gl X "range") (hm : X.mg "range" = none) (ha : PA X [a] ta) (hs : starEach [a] X.env = [(false, eval a X.env)] := by rfl) : PI X tg (.Call (.Name "range" p) [a] [] pos) (iRng1 ta) := by
  intro pins s σ H R I h
  refine Call_ (ld_blt I hg hm boot_range (PyProof.Rows.callWith_type1 (thn (ha pos pins s σ H _ I h) fun us s1 ⟨vs, H1, I1, r1, q1⟩ => ?_) hs rfl))
  obtain ⟨j, e, q1, q2, q⟩ := q1
  subst e
  cases r1 with
  | cons r rr =>
    cases rr
    obtain ⟨t, rfl⟩ := r
    exact call_range_1 (range_it I1 (by omega) (by omega) q1 q2 (by simpa using q))
/-! ### for -/
def tFor (wi : TI) (g : TG) (tb : TS) : TS := fun D σ H => wi σ H fun J H1 => ∃ W : Nat → Nat → St → Hp → Prop, (∃ m, W 0 m σ H1) ∧ ∀ i m σ H, W i m σ H →
  (J.stop i H ∧ D.nx σ H) ∨ (J.go i H ∧ ∃ N : St → Hp → Prop, (∀ σ' H', N σ' H' → ∃ m', m' < m ∧ W (i + 1) m' σ' H') ∧ ∀ x H', J.yld i H x H' → g x σ H' fun σ2 H2 => tb { D with nx := N, ct := N, bk := D.nx } σ2 H2)
def pinsAt (fp : List Addr) (h : Heap) : List (Addr × Obj) := fp.filterMap fun b => (h.get? b).map fun o => (b, o)
theorem mem_pinsAt {fp : List Addr} {h : Heap} {b : Addr} {o : Obj} (hb : b ∈ fp) (e : h.get? b = some o) : (b, o) ∈ pinsAt fp h := List.mem_filterMap.mpr ⟨b, hb, by rw [e]; rfl⟩
theorem of_pinsAt {fp : List Addr} {h : Heap} {p : Addr × Obj} (hp : p ∈ pinsAt fp h) : p.1 ∈ fp ∧ h.get? p.1 = some p.2 := by
  obtain ⟨b, hb, e⟩ := List.mem_filterMap.mp hp
  cases q : h.get? b with
  | none => rw [q] at e; cases e
  | some o =>
    rw [q] at e
    have e' : (b, o) = p := Option.some.inj e
    subst e'
    exact ⟨hb, q⟩
theorem Inv.pinned {pins : List (Addr × Obj)} {σ : St} {H : Hp} {s : Shared} {fp : List Addr} (I : Inv X pins σ H s) (hf : ∀ b ∈ fp, FpOk X pins H b) (ho : ∀ b ∈ fp, ∃ o, s.heap.get? b = some o ∧ ∀ v, o.data ≠ .cell v) : Inv X (pins ++ pinsAt fp s.heap) σ H s :=
  I.pins_of fun p hp => (List.mem_append.mp hp).elim (fun z => I.pin p (List.mem_append_right _ z)) fun z => by
    obtain ⟨hb, e⟩ := of_pinsAt z
    obtain ⟨f0, f1, f2, _⟩ := hf p.1 hb
    obtain ⟨o, e', d⟩ := ho p.1 hb
    rw [e] at e'; cases e'
    exact ⟨e, f0, f1, f2, d⟩
theorem Inv.unpinned {pins pl : List (Addr × Obj)} {σ : St} {H : Hp} {s : Shared} (I : Inv X (pins ++ pl) σ H s) : Inv X pins σ H s := I.pins_of fun p hp => I.pin p (List.mem_append_right _ (List.mem_append_left _ hp))
theorem ps_for {iter : Expr} {body : List Stmt} {wi : TI} {g : TG} {tb : TS} {pos : Pos} (hp : PassesOwn (model X.prog X.w) X.A X.env X.xe) (hc : X.calm = true) (hi : PI X tg iter wi) (hg : PG X tg g) (hb : PSs X body tb)
    (hs : ∀ x, foldedSetIterable iter X.env x = pure x := by intro _; rfl) : PS X (.For tg iter body [] pos) (tFor wi g tb) := by
  intro pins s σ H D I h
  refine wpAny_For (thn (hi pins s σ H _ I h) fun v s1 h1 => thn h1 fun itv s2 h2 => ?_) hs
  obtain ⟨it, fp, tn, J, H2, e, I2, T, st2, f2, W, ⟨m0, w0⟩, turn⟩ := h2
  subst e
  -- what stays true of the iterator's objects through the loop
  have stat : ∀ {H' : Hp}, (∀ b ∈ fp, H' b = none) → ∀ b ∈ fp, FpOk X pins H' b := fun hn b hb => ⟨hn b hb, (f2 b hb).2⟩
  refine codeAny_forLoop_any (fun n s' => ∃ i σ' H', Inv X pins σ' H' s' ∧ tn i s'.heap ∧ (∀ b ∈ fp, H' b = none) ∧ W i n σ' H') ?_ m0 ⟨0, σ, H2, I2, st2, fun b hb => (f2 b hb).1, w0⟩
  rintro n s3 ⟨i, σ3, H3, I3, st3, fr3, w3⟩
  rcases turn i n σ3 H3 w3 with ⟨stop, qn⟩ | ⟨go, N, hN, step⟩
  · refine wpAny_passesOwn hp (thn (T.done X rfl rfl rfl hc i pins s3 σ3 H3 X.xe I3 (stat fr3) st3 stop) fun r s4 ⟨hr, I4⟩ => ?_)
    subst hr
    exact wpAny_execs_nil ⟨σ3, H3, I4, qn⟩
  · refine wpAny_passesOwn hp (thn (T.item X rfl rfl rfl hc i pins s3 σ3 H3 X.xe I3 (stat fr3) st3 go) fun r s4 ⟨u, hr, h4⟩ => ?_)
    subst hr
    refine wpAny_passesOwn hp (thn h4 fun _ s5 ⟨x, H5, I5, r5, y5, st5, fr5⟩ => ?_)
    have I5' := I5.pinned (stat fr5) (T.obj _ _ st5)
    refine wpAny_passesOwn hp (thn (hg _ s5 σ3 H5 x u _ I5' r5 (step x H5 y5)) fun _ s6 ⟨σ6, H6, I6, q6⟩ => ?_)
    refine wpAny_passesOwn hp (thn (hb _ s6 σ6 H6 _ I6 q6) fun f s7 q7 => ?_)
    have again : ∀ {σ7 : St} {H7 : Hp}, Inv X (pins ++ pinsAt fp s5.heap) σ7 H7 s7 → N σ7 H7 → ∃ m, m < n ∧ ∃ i σ' H', Inv X pins σ' H' s7 ∧ tn i s7.heap ∧ (∀ b ∈ fp, H' b = none) ∧ W i m σ' H' := fun {σ7 H7} I7 n7 => by
      obtain ⟨m', hm, w7⟩ := hN σ7 H7 n7
      refine ⟨m', hm, i + 1, σ7, H7, I7.unpinned, T.keep _ _ _ st5 fun b hb o e => (I7.pin (b, o) (List.mem_append_right _ (List.mem_append_right _ (mem_pinsAt hb e)))).1, fun b hb => ?_, w7⟩
      obtain ⟨o, e, d⟩ := T.obj _ _ st5 b hb
      exact (I7.pin (b, o) (List.mem_append_right _ (List.mem_append_right _ (mem_pinsAt hb e)))).2.1
    cases f with
    | next => obtain ⟨σ7, H7, I7, n7⟩ := q7; exact again I7 n7
    | cont => obtain ⟨σ7, H7, I7, n7⟩ := q7; exact again I7 n7
    | brk => obtain ⟨σ7, H7, I7, q7⟩ := q7; exact ⟨σ7, H7, I7.unpinned, q7⟩
    | ret v => obtain ⟨x7, σ7, H7, I7, r7, q7⟩ := q7; exact ⟨x7, σ7, H7, I7.unpinned, r7, q7⟩
end

/-! ### the forms one uses -/
theorem for_list {K : PySem.W.Frag} {a : Addr} {xs : List V} {g : TG} {tb : TS} {D : Ends} {σ : St} {H : Hp} (Pv : Nat → St → Hp → Prop) (h0 : Pv 0 σ H) (hl : ∀ i σ H, i ≤ xs.length → Pv i σ H → SqL K H a xs)
    (hs : ∀ i x σ H, xs[i]? = some x → Pv i σ H → g x σ H fun σ2 H2 => tb { D with nx := Pv (i + 1), ct := Pv (i + 1), bk := D.nx } σ2 H2) (hd : ∀ σ H, Pv xs.length σ H → D.nx σ H) :
    ∃ W : Nat → Nat → St → Hp → Prop, (∃ m, W 0 m σ H) ∧ ∀ i m σ H, W i m σ H →
      ((Itl K a).stop i H ∧ D.nx σ H) ∨ ((Itl K a).go i H ∧ ∃ N : St → Hp → Prop, (∀ σ' H', N σ' H' → ∃ m', m' < m ∧ W (i + 1) m' σ' H') ∧ ∀ x H', (Itl K a).yld i H x H' → g x σ H' fun σ2 H2 => tb { D with nx := N, ct := N, bk := D.nx } σ2 H2) := by
  refine ⟨fun i m σ H => m = xs.length - i ∧ i ≤ xs.length ∧ Pv i σ H, ⟨xs.length, by simp, Nat.zero_le _, h0⟩, ?_⟩
  rintro i m σ H ⟨rfl, hi, p⟩
  have q := hl i σ H hi p
  by_cases hlt : i < xs.length
  · refine .inr ⟨⟨xs, xs[i], q, by simp [hlt]⟩, Pv (i + 1), fun σ' H' p' => ⟨xs.length - (i + 1), by omega, rfl, hlt, p'⟩, fun x H' y => ?_⟩
    obtain ⟨e, y⟩ := y
    subst e
    exact hs i x σ _ (y xs q) p
  · have e : i = xs.length := by omega
    subst e
    exact .inl ⟨⟨xs, q, Nat.le_refl _⟩, hd σ H p⟩
theorem for_range {lo : Int} {n : Nat} {g : TG} {tb : TS} {D : Ends} {σ : St} {H : Hp} (Pv : Nat → St → Hp → Prop) (h0 : Pv 0 σ H)
    (hs : ∀ i σ H, i < n → Pv i σ H → g (.int (lo + i)) σ H fun σ2 H2 => tb { D with nx := Pv (i + 1), ct := Pv (i + 1), bk := D.nx } σ2 H2) (hd : ∀ σ H, Pv n σ H → D.nx σ H) :
    ∃ W : Nat → Nat → St → Hp → Prop, (∃ m, W 0 m σ H) ∧ ∀ i m σ H, W i m σ H →
      ((Itr lo n).stop i H ∧ D.nx σ H) ∨ ((Itr lo n).go i H ∧ ∃ N : St → Hp → Prop, (∀ σ' H', N σ' H' → ∃ m', m' < m ∧ W (i + 1) m' σ' H') ∧ ∀ x H', (Itr lo n).yld i H x H' → g x σ H' fun σ2 H2 => tb { D with nx := N, ct := N, bk := D.nx } σ2 H2) := by
  refine ⟨fun i m σ H => m = n - i ∧ i ≤ n ∧ Pv i σ H, ⟨n, by simp, Nat.zero_le _, h0⟩, ?_⟩
  rintro i m σ H ⟨rfl, hi, p⟩
  by_cases hlt : i < n
  · refine .inr ⟨hlt, Pv (i + 1), fun σ' H' p' => ⟨n - (i + 1), by omega, rfl, hlt, p'⟩, fun x H' y => ?_⟩
    obtain ⟨e, y⟩ := y
    subst e y
    exact hs i σ _ hlt p
  · have e : i = n := by omega
    subst e
    exact .inl ⟨Nat.le_refl _, hd σ H p⟩
end L2

namespace L2
open PySem PySem.Spec PyProof.Rows

abbrev R2 := V → V → Hp → VK → Prop
def OpR (X : Cx) (f : Value → Value → Sem Value) (r : R2) : Prop :=
  ∀ (pins : List (Addr × Obj)) (s : Shared) (σ : St) (H : Hp) (x y : V) (v u : Value) (Q : VK), Inv X pins σ H s → RelV x v → RelV y u → r x y H Q →
    wpAny (model X.prog X.w) X.A (f v u) (EP X pins σ Q) X.xe s
def UnR (X : Cx) (f : Value → Sem Value) (r : V → Hp → VK → Prop) : Prop :=
  ∀ (pins : List (Addr × Obj)) (s : Shared) (σ : St) (H : Hp) (x : V) (v : Value) (Q : VK), Inv X pins σ H s → RelV x v → r x H Q →
    wpAny (model X.prog X.w) X.A (f v) (EP X pins σ Q) X.xe s
def CallR (X : Cx) (f : Value) (r : List V → Hp → VK → Prop) : Prop :=
  ∀ (pins : List (Addr × Obj)) (s : Shared) (σ : St) (H : Hp) (xs : List V) (us : List Value) (Q : VK), Inv X pins σ H s → Vals xs us → r xs H Q →
    wpAny (model X.prog X.w) X.A (call f us) (EP X pins σ Q) X.xe s
def tOp (r : R2) (ta tb : TE) : TE := fun σ H Q => ta σ H fun x H1 => tb σ H1 fun y H2 => r x y H2 Q
def tUn (r : V → Hp → VK → Prop) (ta : TE) : TE := fun σ H Q => ta σ H fun x H1 => r x H1 Q
def rI (C : Int → Int → Prop) (g : Int → Int → V) : R2 := fun x y H Q => ∃ i j, x = .int i ∧ y = .int j ∧ C i j ∧ Q (g i j) H
def rI0 (g : Int → Int → V) : R2 := fun x y H Q => ∃ i j, x = .int i ∧ y = .int j ∧ Q (g i j) H
def rU (g : Int → V) : V → Hp → VK → Prop := fun x H Q => ∃ i, x = .int i ∧ Q (g i) H

section
variable {X : Cx} {a b c : Expr} {ta tb tc : TE} {pos : Pos}

theorem binT (ha : PE X a ta) (hb : PE X b tb) {pins : List (Addr × Obj)} {s : Shared} {σ : St} {H : Hp} {R : V → V → Hp → Prop} (I : Inv X pins σ H s)
    (h : ta σ H fun x H1 => tb σ H1 fun y H2 => R x y H2) {Q : Value → Shared → Prop} {f : Value → Value → Sem Value}
    (hf : ∀ v u s2 x y H2, Inv X pins σ H2 s2 → RelV x v → RelV y u → R x y H2 → wpAny (model X.prog X.w) X.A (f v u) Q X.xe s2) :
    wpAny (model X.prog X.w) X.A (eval a X.env) (fun v s₁ => wpAny (model X.prog X.w) X.A (eval b X.env) (fun u s₂ => wpAny (model X.prog X.w) X.A (f v u) Q X.xe s₂) X.xe s₁) X.xe s := by
  refine thn (ha pins s σ H _ I h) fun v s1 ⟨x, H1, I1, r1, q1⟩ => ?_
  refine thn (hb pins s1 σ H1 _ I1 q1) fun u s2 ⟨y, H2, I2, r2, q2⟩ => ?_
  exact hf v u s2 x y H2 I2 r1 r2 q2

theorem pe_op {op : Operator} {r : R2} (ho : OpR X (binaryOp op) r) (ha : PE X a ta) (hb : PE X b tb) : PE X (.BinOp a op b pos) (tOp r ta tb) := by
  intro pins s σ H Q I h
  exact wpAny_BinOp (binT ha hb I h fun v u s2 x y H2 I2 rx ry q => ho pins s2 σ H2 x y v u Q I2 rx ry q)
theorem pe_un {op : UnaryOp} {r : V → Hp → VK → Prop} (ho : UnR X (unaryOp op) r) (ha : PE X a ta) : PE X (.UnaryOp op a pos) (tUn r ta) := by
  intro pins s σ H Q I h
  exact UnaryOp_ (thn (ha pins s σ H _ I h) fun v s1 ⟨x, H1, I1, r1, q1⟩ => ho pins s1 σ H1 x v Q I1 r1 q1)
/-! ### ints -/
theorem opI {f : Value → Value → Sem Value} {C : Int → Int → Prop} {g : Int → Int → Int}
    (rule : ∀ (i j : Int) (t u : Tok) (s : Shared) (Q : Value → Shared → Prop) (E : Value → Shared → Prop), C i j → Q (.int (g i j) s.toks) { s with toks := s.toks + 1 } → wpAny (model X.prog X.w) X.A (f (.int i t) (.int j u)) Q E s) :
    OpR X f (rI C fun i j => .int (g i j)) := by
  intro pins s σ H x y v u Q I rx ry h
  obtain ⟨i, j, rfl, rfl, hc, q⟩ := h
  obtain ⟨t, rfl⟩ := rx
  obtain ⟨t', rfl⟩ := ry
  exact rule i j t t' s _ _ hc ⟨.int (g i j), H, I.tok _, ⟨_, rfl⟩, q⟩
theorem opI0 {f : Value → Value → Sem Value} {g : Int → Int → Int}
    (rule : ∀ (i j : Int) (t u : Tok) (s : Shared) (Q : Value → Shared → Prop) (E : Value → Shared → Prop), Q (.int (g i j) s.toks) { s with toks := s.toks + 1 } → wpAny (model X.prog X.w) X.A (f (.int i t) (.int j u)) Q E s) :
    OpR X f (rI0 fun i j => .int (g i j)) := by
  intro pins s σ H x y v u Q I rx ry h
  obtain ⟨i, j, rfl, rfl, q⟩ := h
  obtain ⟨t, rfl⟩ := rx
  obtain ⟨t', rfl⟩ := ry
  exact rule i j t t' s _ _ ⟨.int (g i j), H, I.tok _, ⟨_, rfl⟩, q⟩
theorem opB0 {f : Value → Value → Sem Value} {g : Int → Int → Bool}
    (rule : ∀ (i j : Int) (t u : Tok) (s : Shared) (Q : Value → Shared → Prop) (E : Value → Shared → Prop), Q (.bool (g i j)) s → wpAny (model X.prog X.w) X.A (f (.int i t) (.int j u)) Q E s) :
    OpR X f (rI0 fun i j => .bl (g i j)) := by
  intro pins s σ H x y v u Q I rx ry h
  obtain ⟨i, j, rfl, rfl, q⟩ := h
  obtain ⟨t, rfl⟩ := rx
  obtain ⟨t', rfl⟩ := ry
  exact rule i j t t' s _ _ ⟨.bl (g i j), H, I, rfl, q⟩

def CDiv (i j : Int) : Prop := 0 < j ∧ j < 1073741824
def CMul (i j : Int) : Prop := (-(2 ^ 64) < i ∧ i < 2 ^ 64) ∨ (-(2 ^ 64) < j ∧ j < 2 ^ 64)
theorem CMul.ok {i j : Int} (h : CMul i j) : IntMulOk i j := by
  rcases h with ⟨h1, h2⟩ | ⟨h1, h2⟩
  · exact .of_left (intBits_le_64 h1 h2)
  · exact .of_right (intBits_le_64 h1 h2)
theorem op_add : OpR X (binaryOp .Add) (rI0 fun i j => .int (i + j)) := opI0 fun _ _ _ _ _ _ _ q => add_int q
theorem op_sub : OpR X (binaryOp .Sub) (rI0 fun i j => .int (i - j)) := opI0 fun _ _ _ _ _ _ _ q => sub_int q
theorem op_mul : OpR X (binaryOp .Mult) (rI CMul fun i j => .int (i * j)) := opI fun _ _ _ _ _ _ _ hc q => mul_int q hc.ok
theorem op_fdiv : OpR X (binaryOp .FloorDiv) (rI CDiv fun i j => .int (i / j)) := opI fun i j _ _ _ _ _ hc q => by
  have h1 : (0 : Int) < j := hc.1
  have h2 : j < 1073741824 := hc.2
  exact floordiv_int (by omega) (by rw [Int.fdiv_eq_ediv_of_nonneg i (by omega)]; exact q) (.inl (PyProof.noPylong_small (by omega)))
theorem op_mod : OpR X (binaryOp .Mod) (rI (fun _ j => 0 < j) fun i j => .int (i % j)) := opI fun i j _ _ _ _ _ hc q => by
  have h1 : (0 : Int) < j := hc
  exact mod_int' (by omega) (by rw [Int.fmod_eq_emod_of_nonneg i (by omega)]; exact q)
theorem unI {f : Value → Sem Value} {g : Int → Int}
    (rule : ∀ (i : Int) (t : Tok) (s : Shared) (Q : Value → Shared → Prop) (E : Value → Shared → Prop), Q (.int (g i) s.toks) { s with toks := s.toks + 1 } → wpAny (model X.prog X.w) X.A (f (.int i t)) Q E s) :
    UnR X f (rU fun i => .int (g i)) := by
  intro pins s σ H x v Q I rx h
  obtain ⟨i, rfl, q⟩ := h
  obtain ⟨t, rfl⟩ := rx
  exact rule i t s _ _ ⟨.int (g i), H, I.tok _, ⟨_, rfl⟩, q⟩
theorem un_neg : UnR X (unaryOp .USub) (rU fun i => .int (-i)) := unI fun _ _ _ _ _ q => neg_int q
/-! ### bools among ints: n += (a < b) -/
end

/-! ### comparisons -/
def scal : V → V → Bool
  | .non, .non => true | .non, .int _ => true | .int _, .non => true | .non, .bl _ => true | .bl _, .non => true | .non, .str _ => true | .str _, .non => true
  | .int _, .int _ => true | .bl _, .bl _ => true | .str _, .str _ => true | .byt _, .byt _ => true
  | .int _, .str _ => true | .str _, .int _ => true | .bl _, .str _ => true | .str _, .bl _ => true
  | _, _ => false
def rEq : R2 := fun x y H Q => scal x y = true ∧ Q (.bl (decide (x = y))) H
def rNe : R2 := fun x y H Q => scal x y = true ∧ Q (.bl (!decide (x = y))) H

theorem dec_int {i j : Int} : decide (V.int i = V.int j) = (i == j) := by
  rw [Bool.eq_iff_iff]
  simp
theorem dec_bl {i j : Bool} : decide (V.bl i = V.bl j) = (i == j) := by
  rw [Bool.eq_iff_iff]
  simp
theorem dec_str {i j : Str} : decide (V.str i = V.str j) = (i == j) := by
  rw [Bool.eq_iff_iff]
  simp
theorem dec_byt {i j : Array UInt8} : decide (V.byt i = V.byt j) = (i.toList == j.toList) := by
  rw [Bool.eq_iff_iff]
  cases i
  cases j
  simp

section
variable {X : Cx} {a b c : Expr} {ta tb tc : TE} {pos : Pos}
theorem fin_bl {pins : List (Addr × Obj)} {σ : St} {H : Hp} {s : Shared} {Q : VK} {k k' : Bool} (I : Inv X pins σ H s) (q : Q (.bl k) H) (e : k = k') : EP X pins σ Q (.bool k') s := by
  subst e
  exact ⟨.bl k, H, I, rfl, q⟩
theorem op_eq : OpR X (compareOp .Eq) rEq := by
  intro pins s σ H x y v u Q I rx ry h
  obtain ⟨hs, q⟩ := h
  cases x with
  | non =>
    cases rx
    cases y with
    | non => cases ry; exact PySem.EqNone.eq_none_none (fin_bl I q (by simp))
    | bl j => cases ry; exact PySem.EqNone.eq_none_bool (fin_bl I q (by simp))
    | int j => obtain ⟨t', rfl⟩ := ry; exact PySem.EqNone.eq_none_int (fin_bl I q (by simp))
    | str j => obtain ⟨t', rfl⟩ := ry; exact PySem.EqNone.eq_none_str (fin_bl I q (by simp))
    | _ => exact absurd (show false = true from hs) Bool.false_ne_true
  | bl i =>
    cases rx
    cases y with
    | non => cases ry; exact PySem.EqNone.eq_bool_none (fin_bl I q (by simp))
    | bl j => cases ry; exact eq_bool (fin_bl I q dec_bl)
    | str j => obtain ⟨t', rfl⟩ := ry; exact PySem.EqMixed.eq_bool_str (fin_bl I q (by simp))
    | _ => exact absurd (show false = true from hs) Bool.false_ne_true
  | int i =>
    obtain ⟨t, rfl⟩ := rx
    cases y with
    | non => cases ry; exact PySem.EqNone.eq_int_none (fin_bl I q (by simp))
    | int j => obtain ⟨t', rfl⟩ := ry; exact eq_int (fin_bl I q dec_int)
    | str j => obtain ⟨t', rfl⟩ := ry; exact PySem.EqMixed.eq_int_str (fin_bl I q (by simp))
    | _ => exact absurd (show false = true from hs) Bool.false_ne_true
  | str i =>
    obtain ⟨t, rfl⟩ := rx
    cases y with
    | non => cases ry; exact PySem.EqNone.eq_str_none (fin_bl I q (by simp))
    | bl j => cases ry; exact PySem.EqMixed.eq_str_bool (fin_bl I q (by simp))
    | int j => obtain ⟨t', rfl⟩ := ry; exact PySem.EqMixed.eq_str_int (fin_bl I q (by simp))
    | str j => obtain ⟨t', rfl⟩ := ry; exact eq_str (fin_bl I q dec_str)
    | _ => exact absurd (show false = true from hs) Bool.false_ne_true
  | byt i =>
    obtain ⟨t, rfl⟩ := rx
    cases y with
    | byt j => obtain ⟨t', rfl⟩ := ry; exact PySem.W.eq_bytes (fin_bl I q dec_byt)
    | _ => exact absurd (show false = true from hs) Bool.false_ne_true
  | _ => cases y <;> exact absurd (show false = true from hs) Bool.false_ne_true
theorem op_ne : OpR X (compareOp .NotEq) rNe := by
  intro pins s σ H x y v u Q I rx ry h
  obtain ⟨hs, q⟩ := h
  cases x with
  | non =>
    cases rx
    cases y with
    | non => cases ry; exact PySem.EqNone.ne_none_none (fin_bl I q (by simp))
    | bl j => cases ry; exact PySem.EqNone.ne_none_bool (fin_bl I q (by simp))
    | int j => obtain ⟨t', rfl⟩ := ry; exact PySem.EqNone.ne_none_int (fin_bl I q (by simp))
    | str j => obtain ⟨t', rfl⟩ := ry; exact PySem.EqNone.ne_none_str (fin_bl I q (by simp))
    | _ => exact absurd (show false = true from hs) Bool.false_ne_true
  | bl i =>
    cases rx
    cases y with
    | non => cases ry; exact PySem.EqNone.ne_bool_none (fin_bl I q (by simp))
    | bl j => cases ry; exact ne_bool (fin_bl I q (congrArg not dec_bl))
    | str j => obtain ⟨t', rfl⟩ := ry; exact PySem.EqMixed.ne_bool_str (fin_bl I q (by simp))
    | _ => exact absurd (show false = true from hs) Bool.false_ne_true
  | int i =>
    obtain ⟨t, rfl⟩ := rx
    cases y with
    | non => cases ry; exact PySem.EqNone.ne_int_none (fin_bl I q (by simp))
    | int j => obtain ⟨t', rfl⟩ := ry; exact ne_int (fin_bl I q (congrArg not dec_int))
    | str j => obtain ⟨t', rfl⟩ := ry; exact PySem.EqMixed.ne_int_str (fin_bl I q (by simp))
    | _ => exact absurd (show false = true from hs) Bool.false_ne_true
  | str i =>
    obtain ⟨t, rfl⟩ := rx
    cases y with
    | non => cases ry; exact PySem.EqNone.ne_str_none (fin_bl I q (by simp))
    | bl j => cases ry; exact PySem.EqMixed.ne_str_bool (fin_bl I q (by simp))
    | int j => obtain ⟨t', rfl⟩ := ry; exact PySem.EqMixed.ne_str_int (fin_bl I q (by simp))
    | str j => obtain ⟨t', rfl⟩ := ry; exact ne_str (fin_bl I q (congrArg not dec_str))
    | _ => exact absurd (show false = true from hs) Bool.false_ne_true
  | byt i =>
    obtain ⟨t, rfl⟩ := rx
    cases y with
    | byt j => obtain ⟨t', rfl⟩ := ry; exact PySem.W.ne_bytes (fin_bl I q (congrArg not dec_byt))
    | _ => exact absurd (show false = true from hs) Bool.false_ne_true
  | _ => cases y <;> exact absurd (show false = true from hs) Bool.false_ne_true

theorem op_lt : OpR X (compareOp .Lt) (rI0 fun i j => .bl (decide (i < j))) := opB0 fun _ _ _ _ _ _ _ q => lt_int q
theorem op_gt : OpR X (compareOp .Gt) (rI0 fun i j => .bl (decide (j < i))) := opB0 fun _ _ _ _ _ _ _ q => gt_int q
theorem op_in_str : OpR X (compareOp .In) (fun x y H Q => ∃ i j, x = .str i ∧ y = .str j ∧ Q (.bl (!(Builtin.Str.occurrences j i 0 j.length 1).isEmpty)) H) := by
  intro pins s σ H x y v u Q I rx ry h
  obtain ⟨i, j, rfl, rfl, q⟩ := h
  obtain ⟨t, rfl⟩ := rx
  obtain ⟨t', rfl⟩ := ry
  exact in_str (fin_bl I q rfl)

theorem op_notN : OpR X (compareOp .IsNot) (fun x y H Q => y = .non ∧ Q (.bl (!decide (x = .non))) H) := by
  intro pins s σ H x y v u Q I rx ry h
  obtain ⟨rfl, q⟩ := h
  cases ry
  refine isnot_none_gen (fin_bl I q ?_)
  cases x <;> first
    | (cases rx; rfl)
    | (obtain ⟨t, rfl⟩ := rx; rfl)

theorem nomark (b : Expr) {op : CmpOp} (h : op ≠ .In := by decide) (h2 : op ≠ .NotIn := by decide) : behindInMarks op b = false := by
  have e1 : (op == CmpOp.In) = false := by cases op <;> first | rfl | exact absurd rfl h
  have e2 : (op == CmpOp.NotIn) = false := by cases op <;> first | rfl | exact absurd rfl h2
  cases b <;> simp [behindInMarks, e1, e2]
theorem pe_cmpR {op : CmpOp} {r : R2} (ho : OpR X (compareOp op) r) (ha : PE X a ta) (hb : PE X b tb) (hm : behindInMarks op b = false) : PE X (.Compare a [op] [b] pos) (tOp r ta tb) := by
  intro pins s σ H Q I h
  exact wpAny_Compare1 (binT ha hb I h fun v u s2 x y H2 I2 rx ry q => ho pins s2 σ H2 x y v u Q I2 rx ry q) hm
def tTest (t : TE) : TT := fun σ H Q => t σ H fun x H' => ∃ k, x = .bl k ∧ Q k H'
theorem pt_cmpR {op : CmpOp} {r : R2} (ho : OpR X (compareOp op) r) (ha : PE X a ta) (hb : PE X b tb) (hm : behindInMarks op b = false) : PT X (.Compare a [op] [b] pos) (tTest (tOp r ta tb)) := by
  intro pins s σ H Q I h
  refine wpAny_isTrue_Compare1 (thn (ha pins s σ H _ I h) fun v s1 ⟨x, H1, I1, r1, q1⟩ => thn (hb pins s1 σ H1 _ I1 q1) fun u s2 ⟨y, H2, I2, r2, q2⟩ =>
    thn (ho pins s2 σ H2 x y v u _ I2 r1 r2 q2) fun c s3 ⟨z, H3, I3, r3, k, e, q3⟩ => ?_) hm
  subst e
  cases r3
  exact wpAny_truthy_bool ⟨H3, I3, q3⟩
/-! ### truth -/
theorem line63 : (sizeLine : Nat) < 2 ^ 63 := by rw [sizeLine_eq]; decide
/-! ### strs and bytes -/
theorem op_add_str : OpR X (binaryOp .Add) (fun x y H Q => ∃ i j, x = .str i ∧ y = .str j ∧ i.length + j.length ≤ sizeLine ∧ Q (.str (i ++ j)) H) := by
  intro pins s σ H x y v u Q I rx ry h
  obtain ⟨i, j, rfl, rfl, hz, q⟩ := h
  obtain ⟨t, rfl⟩ := rx
  obtain ⟨t', rfl⟩ := ry
  exact add_str (fun t' tk => ⟨.str (i ++ j), H, I.tok _, ⟨_, rfl⟩, q⟩) hz
/-! ### scalar builtins, by CallR -/
theorem vals1 {x : V} {us : List Value} (r : Vals [x] us) : ∃ u, us = [u] ∧ RelV x u := by
  cases r with
  | cons r1 r2 => cases r2; exact ⟨_, rfl, r1⟩
theorem vals2 {x y : V} {us : List Value} (r : Vals [x, y] us) : ∃ u w', us = [u, w'] ∧ RelV x u ∧ RelV y w' := by
  cases r with
  | cons r1 r2 =>
    cases r2 with
    | cons r3 r4 => cases r4; exact ⟨_, _, rfl, r1, r3⟩
theorem call_min2 (hc : X.calm = true) : CallR X (.builtin "min") (fun xs H Q => ∃ i j, xs = [.int i, .int j] ∧ Q (.int (if j < i then j else i)) H) := by
  intro pins s σ H xs us Q I r h
  obtain ⟨i, j, rfl, q⟩ := h
  obtain ⟨u, w', rfl, ⟨t, rfl⟩, ⟨t', rfl⟩⟩ := vals2 r
  refine min_two_ints (I.ok.hd hc) fun h' tk k => ⟨_, H, I.kept k, ?_, q⟩
  by_cases hj : j < i
  · rw [if_pos hj, if_pos hj]; exact ⟨_, rfl⟩
  · rw [if_neg hj, if_neg hj]; exact ⟨_, rfl⟩
theorem call_str_int : CallR X (.type "str") (fun xs H Q => ∃ i, xs = [.int i] ∧ i.natAbs.log2 < 1920 ∧ Q (.str (toString i)) H) := by
  intro pins s σ H xs us Q I r h
  obtain ⟨i, rfl, hz, q⟩ := h
  obtain ⟨u, rfl, t, rfl⟩ := vals1 r
  exact PySem.P.str_of_int hz ⟨.str _, H, I.tok _, ⟨_, rfl⟩, q⟩
end
end L2

namespace L2
open PySem PySem.Spec PyProof.Rows

/-! ### an instance, its attributes a map -/
structure ObjM (h : Heap) (x dx C : Addr) (mA : Str → Option Value) : Prop where
  obj : h.get? x = some (PySem.W.instObj C dx)
  ns : h.Ns1 dx mA
  ne : dx ≠ x

theorem lookIn_ns {h : Heap} {dx : Addr} {mA : Str → Option Value} (n : h.Ns1 dx mA) : ∃ od, h.get? dx = some od ∧ ∀ name, PySem.W.lookIn name od = some (mA name) := by
  obtain ⟨o, es, ep, ho, hd, hk, _, hm⟩ := n
  refine ⟨o, ho, fun name => ?_⟩
  have e := hm name
  unfold nsFind findBy at e
  rw [← Array.find?_toList] at e
  unfold PySem.W.lookIn
  rw [hd]
  dsimp only
  split
  · rename_i y q
    rw [q] at e
    exact congrArg some e
  · rename_i q
    rw [q] at e
    have a : es.toList.any (·.refKey) = false := by
      rw [List.any_eq_false]
      intro y hy
      obtain ⟨z, t, hkey⟩ := hk y (Array.mem_toList_iff.mp hy)
      simp [DictEntry.refKey, hkey]
    have a' : ¬ es.toList.any (·.refKey) = true := by rw [a]; exact Bool.false_ne_true
    rw [if_neg a']
    exact congrArg some e

theorem ObjM.look {h : Heap} {x dx C : Addr} {mA : Str → Option Value} (I : ObjM h x dx C mA) : ∃ od, PySem.W.InstAt h x (PySem.W.instObj C dx) C (some od) ∧ ∀ name, PySem.W.lookIn name od = some (mA name) :=
  let ⟨od, ho, hl⟩ := lookIn_ns I.ns
  ⟨od, ⟨I.obj, rfl, rfl, ho⟩, hl⟩

section
variable {prog : Program} {w : World} {A : Around} {E : Value → Shared → Prop} {s : Shared} {K : PySem.W.Frag} {x dx C f : Addr} {mA : Str → Option Value} {name : Str} {v : Value}

theorem get_map {expr : Bool} {Q : Value → Shared → Prop} (X : K.In s.heap) (I : ObjM s.heap x dx C mA) (hg : PySem.W.plainGet K C name = true) (hh : PySem.W.hasDictIn K C = true)
    (ha : PySem.W.findIn K (.ref C) name = some none) (hv : mA name = some v) (hv' : PySem.W.handedIn v = true) (h : Q v { s with toks := s.toks + 1 }) :
    wpAny (model prog w) A (getAttr (.ref x) name expr) Q E s := by
  obtain ⟨od, J, hl⟩ := I.look
  exact PySem.W.get_value X J (PySem.W.plainGet_of hg).1 (PySem.W.findObj_own hh ha rfl (by rw [hl, hv])) hv' h

theorem get_meth {pl : Sem Bool} {Q : Value × List Value → Shared → Prop} (X : K.In s.heap) (I : ObjM s.heap x dx C mA) (hg : PySem.W.plainGet K C name = true)
    (hf : PySem.W.findIn K (.ref C) name = some (some (.ref f))) (ht : PySem.W.isFn K (.ref f) = true) (hv : mA name = none) (h : Q (.ref f, [.ref x]) s) :
    wpAny (model prog w) A (getMethod (.ref x) name pl) Q E s := by
  obtain ⟨od, J, hl⟩ := I.look
  exact PySem.W.method_fn X J (PySem.W.plainGet_of hg).1 (PySem.W.plainGet_of hg).2 hf (beq_iff_eq.mp ht) (by show (PySem.W.lookIn name od).map (·.isSome) = some false; rw [hl, hv]; rfl) h

theorem set_map {ns : List Str} {Q : Unit → Shared → Prop} (X : K.In s.heap) (I : ObjM s.heap x dx C mA)
    (hs : PySem.W.findIn K (.ref C) "__setattr__" = some (some (.builtin "object.__setattr__"))) (hp : PySem.W.plainOver K C = true) (ht : PySem.W.takerIn K C name = some none) (hh : PySem.W.hasDictIn K C = true)
    (hw : PySem.Within mA ns) (hsz : ns.length ≤ sizeLine)
    (h : ∀ h', ObjM h' x dx C (fun y => if y = name then some v else mA y) → Heap.SameBut dx s.heap h' → Q () { s with heap := h', toks := s.toks + 2 }) :
    wpAny (model prog w) A (setAttr (.ref x) name v) Q E s := by
  obtain ⟨od, J, hl⟩ := I.look
  refine PySem.W.set_plain X J hs (PySem.W.osa_open (s := { s with toks := s.toks + 1 }) (r := none) X J hp ht fun b => ?_)
  obtain ⟨cd, hc, hd'⟩ := PySem.W.any_some hh
  have hx : s.heap.get? x = some ⟨.ref C, some dx, .plain, #[]⟩ := I.obj
  refine wpAny_bind (wpAny_pure (wpAny_bind (wpAny_bind (wpAny_loadPart hx (wpAny_bind (PySem.W.Looks.here (s := { s with toks := s.toks + 1 }) (PySem.W.looks_clsIn X hc) ?_))))))
  rw [hd']
  refine wpAny_pure (a := some dx) (wpAny_bind (wpAny_pure (wpAny_bind ?_)))
  refine wpAny_nsSet1 (s := { s with toks := s.toks + 1 }) I.ns fun h' hn2 hs2 => ?_
  obtain ⟨oD, esD, epD, hoD, hdD, hcD⟩ := hn2.count (PySem.Within.cons name v hw)
  refine wpAny_bind (wpAny_lookBehind hoD (by rw [hdD]; exact pastItsLine_dict (Nat.le_trans hcD (by rw [List.length_cons]; omega))) ?_)
  exact wpAny_pure (h _ ⟨(hs2.2 _ (Ne.symm I.ne)).trans I.obj, hn2, I.ne⟩ hs2)

theorem make_map {R : Result → Shared → Prop} {vs : List Value} {kw : List (Str × Value)} (X : K.In s.heap) (hm : PySem.W.makesIn K C = true)
    (hi : PySem.W.findIn K (.ref C) "__init__" = some (some (.ref f))) (hf : PySem.W.typeIn K (.ref f) = some (.type "function"))
    (h : codeAny (model prog w) (A.under (.builtin "type.__call__" ⟨.ref C :: vs, kw⟩)) (.call (.ref f) ⟨.ref (s.heap.objs.size + 1) :: vs, kw⟩) (PySem.W.InitBack (s.heap.objs.size + 1) R)
      { s with heap := (s.heap.push PySem.W.emptyDict).push (PySem.W.instObj C s.heap.objs.size) }) :
    codeAny (model prog w) A (.call (.ref C) ⟨vs, kw⟩) R s := by
  obtain ⟨hh, g, d, t, os⟩ := s
  exact PySem.W.make_core (PySem.W.makes_of X hm) (PySem.W.looks_findIn X hi) (fun self => PySem.W.bind_fn X self hf) (.inl rfl) h
end

/-! ### the attributes as a list of pairs -/
def putF (f : Str) (v : V) : List (Str × V) → List (Str × V)
  | [] => [(f, v)]
  | (g, x) :: r => if g = f then (g, v) :: r else (g, x) :: putF f v r
theorem lookup_putF (f g : Str) (v : V) : ∀ fs : List (Str × V), (putF f v fs).lookup g = if g = f then some v else fs.lookup g
  | [] => by
    show List.lookup g [(f, v)] = _
    by_cases h : g = f
    · have hb : (g == f) = true := beq_iff_eq.mpr h
      simp only [List.lookup, hb, if_pos h]
    · have hb : (g == f) = false := beq_eq_false_iff_ne.mpr h
      simp only [List.lookup, hb, if_neg h]
  | (k, x) :: r => by
    have ih := lookup_putF f g v r
    rw [show putF f v ((k, x) :: r) = (if k = f then (k, v) :: r else (k, x) :: putF f v r) from rfl]
    by_cases hk : k = f
    · rw [if_pos hk]
      by_cases h : g = k
      · have hb : (g == k) = true := beq_iff_eq.mpr h
        simp only [List.lookup, hb, if_pos (h.trans hk)]
      · have hb : (g == k) = false := beq_eq_false_iff_ne.mpr h
        simp only [List.lookup, hb, if_neg (fun e : g = f => h (e.trans hk.symm))]
    · rw [if_neg hk]
      by_cases h : g = k
      · have hb : (g == k) = true := beq_iff_eq.mpr h
        simp only [List.lookup, hb, if_neg (fun e : g = f => hk (h.symm.trans e))]
      · have hb : (g == k) = false := beq_eq_false_iff_ne.mpr h
        simp only [List.lookup, hb]
        exact ih
theorem keys_putF (f : Str) (v : V) : ∀ fs : List (Str × V), f ∈ (putF f v fs).map (·.1) ∧ ∀ g, g ∈ fs.map (·.1) → g ∈ (putF f v fs).map (·.1)
  | [] => ⟨by simp [putF], fun g h => by simp at h⟩
  | (k, x) :: r => by
    obtain ⟨i1, i2⟩ := keys_putF f v r
    rw [show putF f v ((k, x) :: r) = (if k = f then (k, v) :: r else (k, x) :: putF f v r) from rfl]
    by_cases hk : k = f
    · rw [if_pos hk]
      subst hk
      exact ⟨by simp, fun g h => by simpa using h⟩
    · rw [if_neg hk]
      refine ⟨?_, fun g h => ?_⟩
      · rw [List.map_cons]
        exact List.mem_cons_of_mem _ i1
      · rw [List.map_cons] at h ⊢
        rcases List.mem_cons.mp h with e | e
        · exact List.mem_cons.mpr (.inl e)
        · exact List.mem_cons_of_mem _ (i2 g e)
theorem length_putF (f : Str) (v : V) : ∀ fs : List (Str × V), (putF f v fs).length ≤ fs.length + 1
  | [] => by simp [putF]
  | (k, x) :: r => by
    have ih := length_putF f v r
    rw [show putF f v ((k, x) :: r) = (if k = f then (k, v) :: r else (k, x) :: putF f v r) from rfl]
    by_cases hk : k = f
    · rw [if_pos hk, List.length_cons, List.length_cons]; omega
    · rw [if_neg hk, List.length_cons, List.length_cons]; omega

theorem RelO.some_of {v : V} {o : Option Value} (r : RelO (some v) o) : ∃ u, o = some u ∧ RelV v u := by
  cases o with
  | none => exact (show False from r).elim
  | some u => exact ⟨u, rfl, r⟩
theorem RelO.none_of {o : Option Value} (r : RelO none o) : o = none := by
  cases o with
  | none => rfl
  | some u => exact (show False from r).elim
theorem handed_of {v : V} {u : Value} (r : RelV v u) : PySem.W.handedIn u = true := by
  cases v with
  | non => cases (show u = Value.none from r); rfl
  | bl b => cases (show u = Value.bool b from r); rfl
  | int i => obtain ⟨t, e⟩ := (show ∃ t, u = Value.int i t from r); cases e; rfl
  | str x => obtain ⟨t, e⟩ := (show ∃ t, u = Value.str x t from r); cases e; rfl
  | byt b => obtain ⟨t, e⟩ := (show ∃ t, u = Value.bytes b t from r); cases e; rfl
  | flt b => obtain ⟨t, e⟩ := (show ∃ t, u = Value.float b t from r); cases e; rfl
  | ref a => cases (show u = Value.ref a from r); rfl
  | ty n => cases (show u = Value.type n from r); rfl

section
variable {P : Program} {w : World} {H H' : Hp} {h h' : Heap} {a C dx : Addr} {fs fs' : List (Str × V)}
theorem ins_get (hok : HOk P w H h) (e : H a = some (.ins C dx fs)) : ∃ mA, ObjM h a dx C mA ∧ (∀ f, RelO (fs.lookup f) (mA f)) ∧ PySem.Within mA (fs.map (·.1)) ∧ fs.length ≤ 1000 ∧ H dx = some (.own a) := by
  obtain ⟨d, z, ne, ob, mA, n, r, q⟩ := (show ObjOk P w H h a (.ins C dx fs) from hok a _ e)
  exact ⟨mA, ⟨ob, n, ne⟩, r, q, z, d⟩
end

/-! ### what of the text a class must have -/
structure Cls (K : PySem.W.Frag) (C : Addr) : Prop where
  pg : PySem.W.plainGet K C Str.empty = true
  hd : PySem.W.hasDictIn K C = true
  po : PySem.W.plainOver K C = true
  sa : PySem.W.findIn K (.ref C) "__setattr__" = some (some (.builtin "object.__setattr__"))
theorem Cls.get {K : PySem.W.Frag} {C : Addr} (c : Cls K C) (f : Str) : PySem.W.plainGet K C f = true := c.pg
def NoAttr (K : PySem.W.Frag) (C : Addr) (f : Str) : Prop := PySem.W.findIn K (.ref C) f = some none
theorem NoAttr.taker {K : PySem.W.Frag} {C : Addr} {f : Str} (n : NoAttr K C f) : PySem.W.takerIn K C f = some none := by
  unfold PySem.W.takerIn
  rw [show PySem.W.findIn K (.ref C) f = some none from n]
  rfl
structure Meth (K : PySem.W.Frag) (C : Addr) (m : Str) (f : Addr) : Prop where
  at_ : PySem.W.findIn K (.ref C) m = some (some (.ref f))
  fn : PySem.W.isFn K (.ref f) = true
  kp : PySem.W.keepIn K (.ref f) = true

section
variable {X : Cx} {pins : List (Addr × Obj)} {σ : St} {H : Hp} {s : Shared} {a C dx : Addr} {fs : List (Str × V)} {f : Str} {v : V} {A : Around} {E : Value → Shared → Prop}

theorem getattr_ok {b : Bool} {Q : Value → Shared → Prop} (I : Inv X pins σ H s) (e : H a = some (.ins C dx fs)) (c : Cls X.K C) (n : NoAttr X.K C f) (l : fs.lookup f = some v)
    (h : ∀ u s', Inv X pins σ H s' → RelV v u → Q u s') : wpAny (model X.prog X.w) A (getAttr (.ref a) f b) Q E s := by
  obtain ⟨mA, O, r, _, _, _⟩ := ins_get I.hok e
  obtain ⟨u, hu, ru⟩ := RelO.some_of (v := v) (o := mA f) (by rw [← l]; exact r f)
  exact get_map I.kIn O (c.get f) c.hd n hu (handed_of ru) (h u _ (I.tok _) ru)

theorem getmeth_ok {m : Str} {g : Addr} {pl : Sem Bool} {Q : Value × List Value → Shared → Prop} (I : Inv X pins σ H s) (e : H a = some (.ins C dx fs)) (c : Cls X.K C) (k : Meth X.K C m g) (l : fs.lookup m = none)
    (h : Q (.ref g, [.ref a]) s) : wpAny (model X.prog X.w) A (getMethod (.ref a) m pl) Q E s := by
  obtain ⟨mA, O, r, _, _, _⟩ := ins_get I.hok e
  have hn : mA m = none := RelO.none_of (by rw [← l]; exact r m)
  exact get_meth I.kIn O (c.get m) k.at_ k.fn hn h

theorem setattr_ok {y : V} {u : Value} {Q : Unit → Shared → Prop} (I : Inv X pins σ H s) (e : H a = some (.ins C dx fs)) (c : Cls X.K C) (n : NoAttr X.K C f) (hl : fs.length < 1000) (ry : RelV y u)
    (h : ∀ s', Inv X pins σ (upd H a (.ins C dx (putF f y fs))) s' → Q () s') : wpAny (model X.prog X.w) A (setAttr (.ref a) f u) Q E s := by
  obtain ⟨mA, O, r, wi, _, ho⟩ := ins_get I.hok e
  have hz : (fs.map (·.1)).length ≤ sizeLine := by rw [List.length_map, sizeLine_eq]; omega
  refine set_map I.kIn O c.sa c.po n.taker c.hd wi hz fun h' O' sb => h _ ?_
  have hd : ∃ o, h'.get? dx = some o := let ⟨o, _, _, e', _⟩ := O'.ns; ⟨o, e'⟩
  refine I.write (x := a) (e := dx) (by rw [e]; exact True.intro) (.inr ho) (fun b q hb z => (sb.2 b hb).trans z) hd ?_
  refine ⟨by rw [upd_ne O.ne]; exact ho, ?_, O.ne, O'.obj, _, O'.ns, fun g => ?_, fun g hg => ?_⟩
  · have := length_putF f y fs; omega
  · show RelO ((putF f y fs).lookup g) (if g = f then some u else mA g)
    rw [lookup_putF]
    by_cases q : g = f
    · rw [if_pos q, if_pos q]; exact ry
    · rw [if_neg q, if_neg q]; exact r g
  · by_cases q : g = f
    · rw [q]; exact (keys_putF f y fs).1
    · refine (keys_putF f y fs).2 g (wi g fun z => hg ?_)
      show (if g = f then some u else mA g) = none
      rw [if_neg q]; exact z

theorem Inv.made (I : Inv X pins σ H s) : Inv X pins σ (upd (upd H s.heap.objs.size (.own (s.heap.objs.size + 1))) (s.heap.objs.size + 1) (.ins C s.heap.objs.size []))
    { s with heap := (s.heap.push PySem.W.emptyDict).push (PySem.W.instObj C s.heap.objs.size) } := by
  have e1 : (s.heap.push PySem.W.emptyDict).get? s.heap.objs.size = some PySem.W.emptyDict := Heap.get?_push_size s.heap rfl
  have e2 : ((s.heap.push PySem.W.emptyDict).push (PySem.W.instObj C s.heap.objs.size)).get? (s.heap.objs.size + 1) = some (PySem.W.instObj C s.heap.objs.size) := by
    have := Heap.get?_push_size (s.heap.push PySem.W.emptyDict) (o := PySem.W.instObj C s.heap.objs.size) rfl
    rwa [Heap.size_push] at this
  have e3 : (s.heap.push PySem.W.emptyDict).Ns s.heap.objs.size (fun _ => none) := ⟨PySem.W.emptyDict, #[], _, e1, rfl, (fun e he => absurd he (by simp)), fun _ => rfl⟩
  have I1 := I.laid (a := s.heap.objs.size) (o := .own (s.heap.objs.size + 1)) (h' := s.heap.push PySem.W.emptyDict) (t' := s.toks) (fun b u q => Heap.get?_push_of_some _ q) (Nat.le_refl _) ⟨_, e1⟩
  refine I1.laid (a := s.heap.objs.size + 1) (o := .ins C s.heap.objs.size []) (t' := s.toks) (fun b u q => Heap.get?_push_of_some _ q) (Nat.le_of_eq (Heap.size_push _ _)) ?_
  have ne : s.heap.objs.size ≠ s.heap.objs.size + 1 := Nat.ne_of_lt (Nat.lt_succ_self _)
  refine ⟨by rw [upd_ne ne, upd_same], Nat.zero_le _, ne, e2, fun _ => none, (Heap.Ns1.of_empty e3).at fun o q => Heap.get?_push_of_some _ q, fun _ => True.intro, fun y hy => absurd rfl hy⟩

theorem attr_of {prog : Program} {w : World} {env : Env} {e : Expr} {f : Str} {pos : Pos} {s : Shared} {Q : Value → Shared → Prop} (hb : attributeBase e f env (eval e env) = eval e env)
    (h : wpAny (model prog w) A (eval e env) (fun o s₁ => wpAny (model prog w) A (getAttr o f true) Q E s₁) E s) : wpAny (model prog w) A (eval (.Attribute e f pos) env) Q E s :=
  Attribute_any_ h (by rw [arm_eval_Attribute, hb])
end

/-! ### readings and rules -/
def tFld (K : PySem.W.Frag) (ta : TE) (f : Str) : TE := fun σ H Q => ta σ H fun x H1 => ∃ a C dx fs v, x = .ref a ∧ H1 a = some (.ins C dx fs) ∧ Cls K C ∧ NoAttr K C f ∧ fs.lookup f = some v ∧ Q v H1
def sFld (K : PySem.W.Frag) (ta tv : TE) (f : Str) : TS := fun D σ H => tv σ H fun y H1 => ta σ H1 fun x H2 => ∃ a C dx fs, x = .ref a ∧ H2 a = some (.ins C dx fs) ∧ Cls K C ∧ NoAttr K C f ∧ fs.length < 1000 ∧
  D.nx σ (upd H2 a (.ins C dx (putF f y fs)))
section
variable {X : Cx} {o e value : Expr} {f : Str} {pos pos' tpos : Pos} {ta tv : TE}
theorem pe_fld (he : PE X e ta) (hb : attributeBase e f X.env (eval e X.env) = eval e X.env) : PE X (.Attribute e f pos) (tFld X.K ta f) := by
  intro pins s σ H Q I h
  refine attr_of hb (thn (he pins s σ H _ I h) fun u s1 ⟨x, H1, I1, rx, a, C, dx, fs, v, ex, ea, c, n, l, q⟩ => ?_)
  subst ex
  obtain rfl : u = Value.ref a := rx
  exact getattr_ok I1 ea c n l fun u' s2 I2 ru => ⟨v, H1, I2, ru, q⟩
theorem ps_fld (ha : PE X o ta) (hv : PE X value tv) (hs : swapsWith value (some (.Attribute o f pos')) pos.line X.env = pure false) : PS X (.Assign [.Attribute o f pos'] value pos) (sFld X.K ta tv f) := by
  intro pins s σ H D I h
  refine plainObj_wpAny_Assign_Attribute (thn (hv pins s σ H _ I h) fun u s1 ⟨y, H1, I1, ry, q⟩ => thn (ha pins s1 σ H1 _ I1 q) fun ov s2 ⟨x, H2, I2, rx, a, C, dx, fs, ex, ea, c, n, l, q2⟩ => ?_) hs
  subst ex
  obtain rfl : ov = Value.ref a := rx
  exact setattr_ok I2 ea c n l ry fun s3 I3 => ⟨σ, _, I3, q2⟩
end

/-! ### isinstance -/
section
variable {X : Cx} {pins : List (Addr × Obj)} {σ : St} {H : Hp} {s : Shared} {A : Around} {E : Value → Shared → Prop} {Q : Value → Shared → Prop} {c : Value} {b : Bool}
inductive TyOf (K : PySem.W.Frag) (H : Hp) : V → Value → Prop where
  | non : TyOf K H .non (.type "NoneType")
  | bl (x : Bool) : TyOf K H (.bl x) (.type "bool")
  | int (i : Int) : TyOf K H (.int i) (.type "int")
  | str (x : Str) : TyOf K H (.str x) (.type "str")
  | flt (x : UInt64) : TyOf K H (.flt x) (.type "float")
  | lst {a : Addr} {xs : List V} (e : H a = some (.lst xs)) : TyOf K H (.ref a) (.type "list")
  | frz {a : Addr} {o : Obj} {xs : List V} (e : H a = some (.frz o (.lst xs))) : TyOf K H (.ref a) (.type "list")
  | tup {a : Addr} {xs : List V} (e : H a = some (.tup xs)) : TyOf K H (.ref a) (.type "tuple")
  | dK {a : Addr} {kvs : List (Key × V)} (e : H a = some (.dK kvs)) : TyOf K H (.ref a) (.type "dict")
  | dT {a : Addr} {kvs : List (List Key × V)} (e : H a = some (.dT kvs)) : TyOf K H (.ref a) (.type "dict")
  | ins {a C dx : Addr} {fs : List (Str × V)} (e : H a = some (.ins C dx fs)) (cl : Cls K C) (ha : PySem.W.findIn K (.ref C) "__class__" = some (some (.builtin "object.__class__")))
      (hn : PySem.W.specialIn K (.builtin "object.__class__") "__get__" = some (some (.builtin "getset_descriptor.__get__"))) (htk : PySem.W.takesIn K (.builtin "object.__class__") = some true)
      (hm : PySem.W.mroIn K C (.type "object") = some true) : TyOf K H (.ref a) (.ref C)
theorem isinst_ok {x : V} {u t : Value} (I : Inv X pins σ H s) (rx : RelV x u) (ty : TyOf X.K H x t) (e : PySem.W.kitOne X.K t c = some b) (h : ∀ tk, Q (.bool b) { s with toks := tk }) :
    wpAny (model X.prog X.w) A (call (.builtin "isinstance") [u, c]) Q E s := by
  cases ty with
  | non => cases (show u = Value.none from rx); exact PySem.W.kia_one PySem.W.kitx_none I.kIn True.intro e (fun z => nomatch z) h
  | bl y => cases (show u = Value.bool y from rx); exact PySem.W.kia_one PySem.W.kitx_bool I.kIn True.intro e (fun z => nomatch z) h
  | int i => obtain ⟨t, q⟩ := (show ∃ t, u = Value.int i t from rx); cases q; exact PySem.W.kia_one PySem.W.kitx_int I.kIn True.intro e (fun z => nomatch z) h
  | str y => obtain ⟨t, q⟩ := (show ∃ t, u = Value.str y t from rx); cases q; exact PySem.W.kia_one PySem.W.kitx_str I.kIn True.intro e (fun z => nomatch z) h
  | flt y => obtain ⟨t, q⟩ := (show ∃ t, u = Value.float y t from rx); cases q; exact PySem.W.kia_one PySem.W.kitx_float I.kIn True.intro e (fun z => nomatch z) h
  | @lst a xs ea =>
    cases (show u = Value.ref a from rx)
    obtain ⟨_, _, n, _, h1⟩ := (show ObjOk X.prog X.w H s.heap a (.lst xs) from I.hok a _ ea)
    exact PySem.W.kia_one PySem.W.kitx_list I.kIn ⟨_, h1, rfl⟩ e (fun z => nomatch z) h
  | @frz a ob xs ea =>
    cases (show u = Value.ref a from rx)
    obtain ⟨_, _, _, n, _, h1⟩ := (show ObjOk X.prog X.w H s.heap a (.frz ob (.lst xs)) from I.hok a _ ea)
    exact PySem.W.kia_one PySem.W.kitx_list I.kIn ⟨_, h1, rfl⟩ e (fun z => nomatch z) h
  | @tup a xs ea =>
    cases (show u = Value.ref a from rx)
    obtain ⟨_, _, _, p⟩ := (show ObjOk X.prog X.w H s.heap a (.tup xs) from I.hok a _ ea)
    obtain ⟨o, h1, h2, _⟩ := p
    exact PySem.W.kia_one PySem.W.kitx_tuple I.kIn ⟨o, h1, h2⟩ e (fun z => nomatch z) h
  | @dK a kvs ea =>
    cases (show u = Value.ref a from rx)
    obtain ⟨_, _, vs, _, p⟩ := (show ObjOk X.prog X.w H s.heap a (.dK kvs) from I.hok a _ ea)
    obtain ⟨o, es, ep, h1, h2, _⟩ := p
    exact PySem.W.kia_one PySem.W.kitx_dict I.kIn ⟨o, h1, h2.1⟩ e (fun z => nomatch z) h
  | @dT a kvs ea =>
    cases (show u = Value.ref a from rx)
    obtain ⟨_, _, xs, _, o, es, ep, h1, h2, _⟩ := (show ObjOk X.prog X.w H s.heap a (.dT kvs) from I.hok a _ ea)
    exact PySem.W.kia_one PySem.W.kitx_dict I.kIn ⟨o, h1, h2.1⟩ e (fun z => nomatch z) h
  | @ins a C dx fs ea cl ha hn htk hm =>
    cases (show u = Value.ref a from rx)
    obtain ⟨mA, O, _⟩ := ins_get I.hok ea
    obtain ⟨od, J, _⟩ := O.look
    exact PySem.W.kia_one (PySem.W.kitx_own (cl.get _) cl.hd ha hn htk hm) I.kIn J e (fun z => nomatch z) h
end
end L2

namespace L2
open PySem PySem.Spec PyProof.Rows

/-! ### room -/
structure Room (k : Nat) (A : Around) : Prop where
  hd : A.handled = none
  dp : A.depth + 3 * k + 5 < recursionLimit
  un : A.units + 16 * k + 200 < cLine
theorem Room.mono {j k : Nat} {A : Around} (r : Room k A) (h : j ≤ k) : Room j A := ⟨r.hd, by have := r.dp; omega, by have := r.un; omega⟩
theorem Room.deeper {k : Nat} {A : Around} (r : Room (k + 1) A) (env : Env) : Room k (A.deeper env) :=
  ⟨r.hd, by have := r.dp; show A.depth + 1 + 3 * k + 5 < _; omega, by have := r.un; show A.units + 3 + 16 * k + 200 < _; omega⟩
theorem make_depth {A : Around} {C : Addr} {us : List Value} {kw : List (Str × Value)} : (A.under (.builtin "type.__call__" ⟨.ref C :: us, kw⟩)).depth = A.depth + 1 := by
  first | rfl | simp [Around.under, Code.weight, Code.isCreation, Code.isGuard, Code.isCaller, Code.frames, Code.isFrame, guardIds]
theorem make_units {A : Around} {C : Addr} {us : List Value} {kw : List (Str × Value)} : (A.under (.builtin "type.__call__" ⟨.ref C :: us, kw⟩)).units = A.units + 1 := by
  first | rfl | simp [Around.under, Code.cUnits, Code.frames, Code.isFrame]
theorem Room.make {k : Nat} {A : Around} (r : Room (k + 1) A) (C : Addr) (us : List Value) (kw : List (Str × Value)) : Room k (A.under (.builtin "type.__call__" ⟨.ref C :: us, kw⟩)) :=
  ⟨r.hd, by have := r.dp; rw [make_depth]; omega, by have := r.un; rw [make_units]; omega⟩
theorem Room.depth {k : Nat} {A : Around} (r : Room k A) : A.depth < recursionLimit := by have := r.dp; omega
theorem Room.units {k : Nat} {A : Around} (r : Room k A) : A.units + 64 < cLine := by have := r.un; omega
/-! ### argument lists and displays -/
def tNil : TA := fun _ H Q => Q [] H
def tCons (ta : TE) (tr : TA) : TA := fun σ H Q => ta σ H fun x H1 => tr σ H1 fun xs H2 => Q (x :: xs) H2
section
variable {X : Cx} {e : Expr} {es : List Expr} {te : TE} {t : TA} {pos : Pos}
theorem pa_nil : PA X [] tNil := fun _ _ _ _ H Q I h => Calls.spliced_nil ⟨[], H, I, .nil, h⟩
theorem pa_cons (ha : PE X e te) (hr : PA X es t) (hs : starEach (e :: es) X.env = (false, eval e X.env) :: starEach es X.env := by rfl) : PA X (e :: es) (tCons te t) := by
  intro pos pins s σ H Q I h
  rw [hs]
  show wpAny _ _ (spliced ((false, eval e X.env) :: backTo pos (starEach es X.env))) _ _ s
  refine Calls.spliced_cons (thn (ha pins s σ H _ I h) fun u s1 ⟨x, H1, I1, r1, q1⟩ => ?_)
  exact thn (hr pos pins s1 σ H1 _ I1 q1) fun us s2 ⟨xs, H2, I2, r2, q2⟩ => ⟨x :: xs, H2, I2, .cons r1 r2, q2⟩

def tTup (t : TA) : TE := fun σ H Q => t σ H fun xs H1 => xs.length ≤ sizeLine ∧ ∀ p, H1 p = none → Q (.ref p) (upd H1 p (.tup xs))
def tLst (t : TA) : TE := fun σ H Q => t σ H fun xs H1 => xs.length ≤ sizeLine ∧ ∀ p, H1 p = none → Q (.ref p) (upd H1 p (.lst xs))
theorem pe_tup {x1} (h : PA X es t) : PE X (.Tuple es x1 pos) (tTup t) := by
  intro pins s σ H Q I hq
  refine wpAny_Tuple_spliced (thn (h pos pins s σ H _ I hq) fun us s1 ⟨xs, H1, I1, r, z, q⟩ => ⟨by rw [← r.length]; exact z, ?_⟩)
  have hf : H1 s1.heap.objs.size = none := I1.hok.fresh (Nat.le_refl _)
  refine ⟨.ref s1.heap.objs.size, upd H1 s1.heap.objs.size (.tup xs), I1.laid (t' := s1.toks) (fun b u e => Heap.get?_push_of_some _ e) (Nat.le_refl _) ?_, rfl, q _ hf⟩
  exact ⟨z, us, r, ⟨_, Heap.get?_push_size _ rfl, rfl, _, rfl⟩⟩
theorem pe_lst (h : PA X es t) : PE X (.List es pos) (tLst t) := by
  intro pins s σ H Q I hq
  refine wpAny_List_spliced (thn (h pos pins s σ H _ I hq) fun us s1 ⟨xs, H1, I1, r, z, q⟩ => ⟨by rw [← r.length]; exact z, ?_⟩)
  have hf : H1 s1.heap.objs.size = none := I1.hok.fresh (Nat.le_refl _)
  refine ⟨.ref s1.heap.objs.size, upd H1 s1.heap.objs.size (.lst xs), I1.laid (t' := s1.toks) (fun b u e => Heap.get?_push_of_some _ e) (Nat.le_refl _) ?_, rfl, q _ hf⟩
  exact ⟨z, us, 0, r, Heap.get?_push_size _ rfl⟩
end

/-! ### what a def promises -/
abbrev Sp := List V → Hp → VK → XK → Prop
abbrev CXT := List Env → Hp → Shared → XK → Value → Shared → Prop

structure Env0 (P : Program) (w : World) (K : PySem.W.Frag) (mg : Str → Option Value) (base : Heap) (A : Around) (outer : List Env) (s : Shared) (H : Hp) : Prop where
  frames : A.frames = some outer
  mod : Mod K mg base
  bs : ∀ b o, base.get? b = some o → s.heap.get? b = some o ∧ H b = none
  bsz : base.objs.size ≤ s.heap.objs.size
  funs : s.heap.FunFrames base outer
  frf : ∀ b ∈ frs outer, H b = none
  hok : HOk P w H s.heap
  bare : AllBare s.gens
def CE (outer : List Env) (P : Program) (w : World) (H : Hp) (s : Shared) (Q : VK) (u : Value) (s' : Shared) : Prop :=
  ∃ v H', s'.os = s.os ∧ AllBare s'.gens ∧ Un (frs outer) [] H H' s.heap s'.heap ∧ HOk P w H' s'.heap ∧ RelV v u ∧ Q v H'
def CR (CX : CXT) (outer : List Env) (P : Program) (w : World) (H : Hp) (s : Shared) (Q : VK) (E : XK) (r : Result) (s' : Shared) : Prop :=
  match r with
  | .ok (.ret u) => CE outer P w H s Q u s'
  | .ok _ => False
  | .error e => CX outer H s E e s'
structure FnOk (P : Program) (w : World) (K : PySem.W.Frag) (mg : Str → Option Value) (base : Heap) (CX : CXT) (k : Nat) (f : Addr) (fd : FuncData) (ps : List Str) (sp : Sp) : Prop where
  len : ∀ vs H Q E, sp vs H Q E → vs.length = ps.length
  run : ∀ (A : Around) (outer : List Env) (s : Shared) (H : Hp) (args : Args) (us : List Value) (vs : List V) (Q : VK) (E : XK), Room k A → Env0 P w K mg base A outer s H → BindsTo s fd args (ps.zip us) → Vals vs us → sp vs H Q E →
    codeAny (model P w) A (.call (.ref f) args) (CR CX outer P w H s Q E) s
theorem Env0.make {P : Program} {w : World} {K : PySem.W.Frag} {mg : Str → Option Value} {base : Heap} {A : Around} {outer : List Env} {s : Shared} {H : Hp} (e : Env0 P w K mg base A outer s H) (C : Addr) (us : List Value) (kw : List (Str × Value)) :
    Env0 P w K mg base (A.under (.builtin "type.__call__" ⟨.ref C :: us, kw⟩)) outer s H := ⟨by first | exact e.frames | (simpa [Around.under, Code.envs, Code.isFrame, pushEnvs] using e.frames), e.mod, e.bs, e.bsz, e.funs, e.frf, e.hok, e.bare⟩
section
variable {X : Cx} {pins : List (Addr × Obj)} {σ : St} {H : Hp} {s s' : Shared}
theorem Inv.env0 (I : Inv X pins σ H s) : Env0 X.prog X.w X.K X.mg X.base X.A X.stack s H :=
  ⟨I.ok.frames, I.ok.mod, I.bs, Nat.le_trans I.ok.bsz I.sz, I.stack, I.stkFree, I.hok, I.bare⟩
theorem Inv.after {Q : VK} {u : Value} (I : Inv X pins σ H s) (h : CE X.stack X.prog X.w H s Q u s') : EP X pins σ Q u s' := by
  obtain ⟨v, H', os, bare, un, hok, r, q⟩ := h
  obtain ⟨hh, g, d, t, os'⟩ := s'
  obtain rfl : os' = s.os := os
  exact ⟨v, H', I.call (h' := hh) (g' := g) (d' := d) (t' := t) (ch := []) un hok bare (fun b z => absurd z (by simp)), r, q⟩
end

/-! ### calls -/
def tCall (sp : Sp) (dvs : List V) (E : XK) (t : TA) : TE := fun σ H Q => t σ H fun vs H1 => sp (vs ++ dvs) H1 Q E
def tMeth (C : Addr) (m : Str) (sp : Sp) (dvs : List V) (E : XK) (ta : TE) (t : TA) : TE := fun σ H Q => ta σ H fun x H1 => ∃ a dx fs, x = .ref a ∧ H1 a = some (.ins C dx fs) ∧ fs.lookup m = none ∧
  t σ H1 fun vs H2 => sp (x :: (vs ++ dvs)) H2 Q E
def tMake (C : Addr) (sp : Sp) (dvs : List V) (E : XK) (t : TA) : TE := fun σ H Q => t σ H fun vs H1 => ∀ x dx, H1 x = none → H1 dx = none → dx ≠ x →
  sp (.ref x :: (vs ++ dvs)) (upd (upd H1 dx (.own x)) x (.ins C dx [])) (fun v H2 => v = .non ∧ Q (.ref x) H2) E

def Binds (K : PySem.W.Frag) (fd : FuncData) (ps : List Str) (ds : List Value) : Prop :=
  ∀ (s : Shared) (us : List Value), K.In s.heap → (us ++ ds).length = ps.length → BindsTo s fd ⟨us, []⟩ (ps.zip (us ++ ds))
theorem Binds.all {K : PySem.W.Frag} {fd : FuncData} {ps : List Str} (h : ∀ us : List Value, us.length = ps.length → bindArgs fd ⟨us, []⟩ = pure (ps.zip us)) : Binds K fd ps [] := fun s us _ hl => by
  rw [List.append_nil] at hl ⊢
  exact .of_eq (h us hl)

def Passes (CX : CXT) (X : Cx) (E : XK) : Prop := ∀ (pins : List (Addr × Obj)) (σ : St) (H : Hp) (s : Shared) (e : Value) (s' : Shared), Inv X pins σ H s → CX X.stack H s E e s' → X.xe e s'

section
variable {X : Cx} {CX : CXT} {k : Nat} {f C : Addr} {fd : FuncData} {ps : List Str} {sp : Sp} {dvs : List V} {ds : List Value} {E : XK} {x m : Str} {p pos apos : Pos} {e o : Expr} {es : List Expr} {ta : TE} {t : TA}

theorem run_fn {pins : List (Addr × Obj)} {σ : St} {H : Hp} {s : Shared} {Q : VK} {us : List Value} {vs : List V} (F : FnOk X.prog X.w X.K X.mg X.base CX k f fd ps sp) (hr : Room k X.A) (hb : Binds X.K fd ps ds) (hd : Vals dvs ds) (hx : Passes CX X E)
    (I : Inv X pins σ H s) (r : Vals vs us) (h : sp (vs ++ dvs) H Q E) : wpAny (model X.prog X.w) X.A (call (.ref f) us) (EP X pins σ Q) X.xe s := by
  have r2 : Vals (vs ++ dvs) (us ++ ds) := r.append hd
  have hl : (us ++ ds).length = ps.length := by rw [← r2.length]; exact F.len _ _ _ _ h
  refine wpAny_call (codeAny_mono (F.run X.A X.stack s H ⟨us, []⟩ (us ++ ds) (vs ++ dvs) Q E hr I.env0 (hb s us I.kIn hl) r2 h) fun r s' hq => ?_)
  cases r with
  | error e => exact hx pins σ H s e s' I hq
  | ok fl =>
    cases fl with
    | ret u => exact I.after hq
    | next => exact False.elim hq
    | brk => exact False.elim hq
    | cont => exact False.elim hq

theorem pe_call (F : FnOk X.prog X.w X.K X.mg X.base CX k f fd ps sp) (hr : Room k X.A) (hg : Gl X x) (hm : X.mg x = some (.ref f)) (hk : PySem.W.keepIn X.K (.ref f) = true) (hb : Binds X.K fd ps ds) (hd : Vals dvs ds) (hx : Passes CX X E)
    (ha : PA X (e :: es) t) (hdb : (x == ("__debug__" : Str)) = false := by decide) (he : starEach (e :: es) X.env = (false, eval e X.env) :: starEach es X.env := by rfl) (hpl : (backTo pos (starEach es X.env)).any (·.1) = false := by rfl) :
    PE X (.Call (.Name x p) (e :: es) [] pos) (tCall sp dvs E t) := by
  intro pins s σ H Q I h
  refine wpAny_Call_Name_kw (ld_glob I hg hm ?_ hdb)
  refine PySem.W.callWith_K (h₀ := X.base) I.ok.mod.kin hk (thn (ha pos pins s σ H _ I h) fun us s1 ⟨vs, H1, I1, r, q⟩ => ⟨I1.kIn, ?_⟩) he hpl
  exact run_fn F hr hb hd hx I1 r q
theorem pe_meth {pl : Sem Bool} (he : PE X o ta) (c : Cls X.K C) (hm : Meth X.K C m f) (F : FnOk X.prog X.w X.K X.mg X.base CX k f fd ps sp) (hr : Room k X.A) (hb : Binds X.K fd ps ds) (hd : Vals dvs ds) (hx : Passes CX X E) (ha : PA X (e :: es) t)
    (hst : starEach (e :: es) X.env = (false, eval e X.env) :: starEach es X.env := by rfl) (hpl : (backTo pos (starEach es X.env)).any (·.1) = false := by rfl)
    (ht : eval (.Call (.Attribute o m apos) (e :: es) [] pos) X.env = (do
      let ov ← eval o X.env
      standAt apos.atName
      let (f, first) ← holding [ov] (getMethod ov m pl)
      callWith pos f first (backTo pos (starEach (e :: es) X.env)) (backToKw pos (keywordEach [] X.env))) := by rfl) :
    PE X (.Call (.Attribute o m apos) (e :: es) [] pos) (tMeth C m sp dvs E ta t) := by
  intro pins s σ H Q I h
  refine PySem.W.methodCall_KW (pl := pl) (thn (he pins s σ H _ I h) fun u s1 ⟨x, H1, I1, rx, a, dx, fs, ex, ea, l, q⟩ => ?_) ht
  subst ex
  obtain rfl : u = Value.ref a := rx
  refine getmeth_ok I1 ea c hm l ?_
  refine PySem.W.callWith_K (first := [.ref a]) (h₀ := X.base) I.ok.mod.kin hm.kp (thn (ha pos pins s1 σ H1 _ I1 q) fun us s2 ⟨vs, H2, I2, r, q2⟩ => ⟨I2.kIn, ?_⟩) hst hpl
  exact run_fn (us := .ref a :: us) (vs := .ref a :: vs) F hr hb hd hx I2 (.cons rfl r) q2
structure Mk (K : PySem.W.Frag) (C f : Addr) : Prop where
  makes : PySem.W.makesIn K C = true
  init : PySem.W.findIn K (.ref C) "__init__" = some (some (.ref f))
  fn : PySem.W.isFn K (.ref f) = true
  kp : PySem.W.keepIn K (.ref C) = true

theorem run_make {pins : List (Addr × Obj)} {σ : St} {H : Hp} {s : Shared} {Q : VK} {us : List Value} {vs : List V} (M : Mk X.K C f) (F : FnOk X.prog X.w X.K X.mg X.base CX k f fd ps sp) (hr : Room (k + 1) X.A) (hb : Binds X.K fd ps ds) (hd : Vals dvs ds)
    (hx : Passes CX X E) (I : Inv X pins σ H s) (r : Vals vs us)
    (h : ∀ x dx, H x = none → H dx = none → dx ≠ x → sp (.ref x :: (vs ++ dvs)) (upd (upd H dx (.own x)) x (.ins C dx [])) (fun v H2 => v = .non ∧ Q (.ref x) H2) E) :
    wpAny (model X.prog X.w) X.A (call (.ref C) us) (EP X pins σ Q) X.xe s := by
  have hq := h (s.heap.objs.size + 1) s.heap.objs.size (I.hok.fresh (Nat.le_succ _)) (I.hok.fresh (Nat.le_refl _)) (Nat.ne_of_lt (Nat.lt_succ_self _))
  have I2 := Inv.made (C := C) I
  have r2 : Vals (V.ref (s.heap.objs.size + 1) :: (vs ++ dvs)) (Value.ref (s.heap.objs.size + 1) :: (us ++ ds)) := .cons rfl (r.append hd)
  have hl : (Value.ref (s.heap.objs.size + 1) :: us ++ ds).length = ps.length := by
    have e := r2.length
    rw [F.len _ _ _ _ hq] at e
    exact e.symm
  refine wpAny_call (make_map (f := f) I.kIn M.makes M.init (beq_iff_eq.mp M.fn) (codeAny_mono (F.run _ X.stack _ _ ⟨Value.ref (s.heap.objs.size + 1) :: us, []⟩ (Value.ref (s.heap.objs.size + 1) :: (us ++ ds)) _ _ E (hr.make C us [])
    (I2.env0.make C us []) (hb _ (Value.ref (s.heap.objs.size + 1) :: us) I2.kIn hl) r2 hq) fun r s' hq' => ?_))
  cases r with
  | error e => exact hx pins σ _ _ e s' I2 hq'
  | ok fl =>
    cases fl with
    | ret u =>
      obtain ⟨v, H', I3, rv, ev, q3⟩ := I2.after hq'
      subst ev
      exact ⟨rv, ⟨V.ref (s.heap.objs.size + 1), H', I3, rfl, q3⟩⟩
    | next => exact False.elim hq'
    | brk => exact False.elim hq'
    | cont => exact False.elim hq'
theorem pe_make (M : Mk X.K C f) (F : FnOk X.prog X.w X.K X.mg X.base CX k f fd ps sp) (hr : Room (k + 1) X.A) (hg : Gl X x) (hm : X.mg x = some (.ref C)) (hb : Binds X.K fd ps ds) (hd : Vals dvs ds) (hx : Passes CX X E)
    (ha : PA X (e :: es) t) (hdb : (x == ("__debug__" : Str)) = false := by decide) (he : starEach (e :: es) X.env = (false, eval e X.env) :: starEach es X.env := by rfl) (hpl : (backTo pos (starEach es X.env)).any (·.1) = false := by rfl) :
    PE X (.Call (.Name x p) (e :: es) [] pos) (tMake C sp dvs E t) := by
  intro pins s σ H Q I h
  refine wpAny_Call_Name_kw (ld_glob I hg hm ?_ hdb)
  refine PySem.W.callWith_K (h₀ := X.base) I.ok.mod.kin M.kp (thn (ha pos pins s σ H _ I h) fun us s1 ⟨vs, H1, I1, r, q⟩ => ⟨I1.kIn, ?_⟩) he hpl
  exact run_make M F hr hb hd hx I1 r q
end

/-! ### keywords -/
section
variable {X : Cx} {CX : CXT} {k : Nat} {f C : Addr} {fd : FuncData} {ps ks : List Str} {sp : Sp} {E : XK} {x m : Str} {p pos apos kpos : Pos} {e o : Expr} {es : List Expr} {kws : List Keyword} {te ta : TE} {t tk : TA} {nm : Option Str}
variable {g : List Value → List Value → List Value} {gV : List V → List V → List V}
end

/-! ### a def's body keeps its promise -/
structure FnScope (N P : List Str) (sc : Scope) : Prop where
  kind : sc.kind = .function
  co : sc.isCoroutine = false
  gen : sc.isGenerator = false
  nd : N.Nodup
  pre : N.take P.length = P
  par : ∀ x ∈ P, sc.names.lookup x = some .local ∨ sc.names.lookup x = some .cell
  nofree : ∀ y ∈ sc.names, y.2 ≠ .free

theorem bindL_out {kindOf : Str → Option NameKind} {x : Str} : ∀ {binds : List (Str × Value)} {m : Str → Option Value}, (∀ v, (x, v) ∉ binds) → bindL kindOf binds m x = m x
  | [], _, _ => rfl
  | (n, v) :: r, m, h => by
    unfold bindL
    rw [bindL_out fun w hw => h w (List.mem_cons_of_mem _ hw)]
    split
    · have : x ≠ n := by rintro rfl; exact h v List.mem_cons_self
      simp [this]
    · rfl
theorem bindC_out {kindOf : Str → Option NameKind} {x : Str} : ∀ {binds : List (Str × Value)} {m : Str → Option Value}, (∀ v, (x, v) ∉ binds) → bindC kindOf binds m x = m x
  | [], _, _ => rfl
  | (n, v) :: r, m, h => by
    unfold bindC
    rw [bindC_out fun w hw => h w (List.mem_cons_of_mem _ hw)]
    split
    · rfl
    · have : x ≠ n := by rintro rfl; exact h v List.mem_cons_self
      simp [this]
theorem bindL_get {kindOf : Str → Option NameKind} {x : Str} {v : Value} : ∀ {P : List Str} {vs : List Value} {i : Nat} {m : Str → Option Value}, P.Nodup → P[i]? = some x → vs[i]? = some v → kindOf x = some .local →
    bindL kindOf (P.zip vs) m x = some v
  | [], _, _, _, _, h, _, _ => by simp at h
  | _ :: _, [], _, _, _, _, h, _ => by simp at h
  | p :: P, w :: vs, 0, m, nd, h1, h2, hk => by
    simp at h1 h2; subst h1; subst h2
    show bindL kindOf ((p, w) :: P.zip vs) m p = _
    unfold bindL
    rw [bindL_out fun v hv => (List.nodup_cons.mp nd).1 (List.of_mem_zip hv).1, if_pos hk]
    simp
  | p :: P, w :: vs, i + 1, m, nd, h1, h2, hk => by
    show bindL kindOf ((p, w) :: P.zip vs) m x = _
    unfold bindL
    exact bindL_get (i := i) (List.nodup_cons.mp nd).2 (by simpa using h1) (by simpa using h2) hk
theorem bindC_get {kindOf : Str → Option NameKind} {x : Str} {v : Value} : ∀ {P : List Str} {vs : List Value} {i : Nat} {m : Str → Option Value}, P.Nodup → P[i]? = some x → vs[i]? = some v → kindOf x ≠ some .local →
    bindC kindOf (P.zip vs) m x = some v
  | [], _, _, _, _, h, _, _ => by simp at h
  | _ :: _, [], _, _, _, _, h, _ => by simp at h
  | p :: P, w :: vs, 0, m, nd, h1, h2, hk => by
    simp at h1 h2; subst h1; subst h2
    show bindC kindOf ((p, w) :: P.zip vs) m p = _
    unfold bindC
    rw [bindC_out fun v hv => (List.nodup_cons.mp nd).1 (List.of_mem_zip hv).1, if_neg hk]
    simp
  | p :: P, w :: vs, i + 1, m, nd, h1, h2, hk => by
    show bindC kindOf ((p, w) :: P.zip vs) m x = _
    unfold bindC
    exact bindC_get (i := i) (List.nodup_cons.mp nd).2 (by simpa using h1) (by simpa using h2) hk

def start (N : List Str) (vs : List V) : St := vs.map some ++ List.replicate (N.length - vs.length) none

def cxOf (CX : CXT) (P : Program) (w : World) (K : PySem.W.Frag) (mg : Str → Option Value) (base : Heap) (N : List Str) (qual : Str) (scope : Scope) (f : Addr) (cd : Value) (A : Around) (outer : List Env) (s : Shared) (H : Hp) (E : XK) : Cx where
  prog := P
  w := w
  K := K
  mg := mg
  base := base
  A := A.deeper (envOfC qual scope s.heap.objs.size f cd)
  N := N
  s₀ := s
  H₀ := H
  env := envOfC qual scope s.heap.objs.size f cd
  outer := outer
  stack := envOfC qual scope s.heap.objs.size f cd :: outer
  ex := []
  calm := true
  fn := fun _ => true
  pn := []
  xe := fun e s' => wpAny (model P w) (A.deeper (envOfC qual scope s.heap.objs.size f cd)) (leaving (envOfC qual scope s.heap.objs.size f cd) e) (fun _ s'' => CX outer H s E e s'') (fun e' s'' => CX outer H s E e' s'') s'

theorem cell_has {sc : Scope} {n : Nat} {x : Str} (h : sc.names.lookup x = some .cell) : ∃ c, (cellsFrom n sc.names []).lookup x = some c := by
  have q := PySem.W.cellsFrom_some sc.names n [] (.inl h)
  exact Option.isSome_iff_exists.mp q

theorem inv_start {CX : CXT} {P : Program} {w : World} {K : PySem.W.Frag} {mg : Str → Option Value} {base : Heap} {N ps : List Str} {qual : Str} {scope : Scope} {f : Addr} {cd : Value} {A : Around} {outer : List Env} {s s1 : Shared} {H : Hp} {E : XK} {us : List Value} {vs : List V}
    (S : FnScope N ps scope) (hd : A.handled = none) (e0 : Env0 P w K mg base A outer s H) (hl : vs.length = ps.length) (r : Vals vs us)
    (x : InCallC s s.heap.objs.size (bindL (envOfC qual scope s.heap.objs.size f cd).kindOf (ps.zip us) fun _ => none) (cellsFrom (s.heap.objs.size + 1) scope.names []) (bindC (envOfC qual scope s.heap.objs.size f cd).kindOf (ps.zip us) fun _ => none) s1) :
    Inv (cxOf CX P w K mg base N qual scope f cd A outer s H E) [] (start N vs) H s1 := by
  have hpl : ps.length ≤ N.length := by have := congrArg List.length S.pre; rw [List.length_take] at this; omega
  obtain ⟨h1, tk, rfl, hk⟩ := x.done
  have noA : ∀ b : Addr, b ∉ (cxOf CX P w K mg base N qual scope f cd A outer s H E).ex := fun b z => absurd (show b ∈ ([] : List Addr) from z) (by simp)
  refine ⟨⟨e0.mod, S.kind, rfl, rfl, Nat.le_refl _, fun y z c h1 h2 => ?_, fun y hy => ?_, fun y c _ h => ?_, fun _ => hd, Around.frames_deeper e0.frames, .inr ⟨rfl, rfl⟩, fun b z => absurd z (noA b), e0.bs, e0.bsz, fun b _ _ => noA b, fun b z => absurd z (noA b), e0.funs, e0.frf⟩,
    rfl, e0.bare, Un.kept hk, ⟨_, x.toInCall.ns, fun i y v h1 h2 h3 => ?_⟩, fun y c h => ⟨_, x.cell y c h⟩, e0.hok.fresh (Nat.le_refl _), fun y c h => ?_, fun p hp => absurd (show p ∈ ([] : List (Addr × Obj)) from hp) (by simp), e0.hok.kept hk, ?_⟩
  · exact name_of_addr x.apart (PySem.mem_of_lookup h1) (PySem.mem_of_lookup h2)
  · have hy : scope.names.lookup y = some .cell ∨ scope.names.lookup y = some .free := hy
    rcases hy with hy | hy
    · exact cell_has hy
    · exact absurd rfl (S.nofree _ (PySem.mem_of_lookup hy))
  · exact Nat.le_of_lt (x.above y c (PySem.mem_of_lookup h))
  · have hi : i < vs.length := by
      unfold start at h2
      by_cases hi : i < vs.length
      · exact hi
      · rw [List.getElem?_append_right (by simpa using hi)] at h2
        rw [List.getElem?_replicate] at h2
        split at h2 <;> cases h2
    have ha : vs[i]? = some v := by
      unfold start at h2
      rw [List.getElem?_append_left (by simpa using hi), List.getElem?_map] at h2
      cases e : vs[i]? with
      | none => rw [e] at h2; cases h2
      | some a => rw [e] at h2; cases h2; rfl
    obtain ⟨u, hu, rv⟩ := r.get ha
    have hp : ps[i]? = some y := by
      rw [← S.pre, List.getElem?_take_of_lt (by omega)]; exact h1
    have ndP : ps.Nodup := by rw [← S.pre]; exact S.nd.sublist (List.take_sublist _ _)
    refine ⟨u, rv, ?_⟩
    rcases S.par y (List.mem_of_getElem? hp) with k | k
    · exact .inl ⟨k, bindL_get ndP hp hu k⟩
    · obtain ⟨c, e⟩ := cell_has (n := s.heap.objs.size + 1) k
      refine .inr ⟨.inl k, c, e, ?_⟩
      have q := x.cell y c e
      rw [bindC_get ndP hp hu (by show scope.names.lookup y ≠ _; rw [k]; decide)] at q
      exact q
  · exact e0.hok.fresh (Nat.le_of_lt (x.above y c (PySem.mem_of_lookup h)))
  · unfold start
    show _ = N.length
    rw [List.length_append, List.length_map, List.length_replicate]
    omega

theorem fn_of {CX : CXT} {P : Program} {w : World} {K : PySem.W.Frag} {mg : Str → Option Value} {base : Heap} {k : Nat} {f : Addr} {name qual : Str} {params : Arguments} {body : List Stmt} {scope : Scope} {dV kV doc pm cdv ct oc : Value} {an od : Option Addr}
    {osl : Array (Option Value)} {N ps : List Str} {sp : Sp} (lk : K.lookup f = some ⟨oc, od, .func (PySem.W.fnOf name qual params body scope dV kV doc pm an cdv ct), osl⟩) (hcd : PySem.W.codeIn K cdv qual = true) (S : FnScope N ps scope)
    (len : ∀ vs H Q E, sp vs H Q E → vs.length = ps.length)
    (hbody : ∀ (A : Around) (outer : List Env) (s : Shared) (H : Hp) (vs : List V) (Q : VK) (E : XK), Room k (A.deeper (envOfC qual scope s.heap.objs.size f cdv)) → sp vs H Q E →
      ∃ t, PSs (cxOf CX P w K mg base N qual scope f cdv A outer s H E) body t ∧ t { nx := fun _ H' => Q .non H', rt := Q } (start N vs) H) :
    FnOk P w K mg base CX (k + 1) f (PySem.W.fnOf name qual params body scope dV kV doc pm an cdv ct) ps sp := by
  refine ⟨len, fun A outer s H args us vs Q E hr e0 hb r hsp => ?_⟩
  have hl := len _ _ _ _ hsp
  have KX : K.In s.heap := e0.mod.kin.keeps fun b o e => (e0.bs b o e).1
  have lim : s.heap.NoLimit := e0.mod.nolimit.keeps fun b o e => (e0.bs b o e).1
  have hkind : ∀ y ∈ ps.zip us, scope.names.lookup y.1 = some .local ∨ (scope.names.lookup y.1 = some .cell ∧ ((cellsFrom (s.heap.objs.size + 1) scope.names []).lookup y.1).isSome = true) := fun ⟨n, v⟩ hy => by
    rcases S.par n (List.of_mem_zip hy).1 with q | q
    · exact .inl q
    · exact .inr ⟨q, PySem.W.cellsFrom_some _ _ _ (.inl q)⟩
  refine codeAny_call_function hr.depth (KX _ _ lk) rfl S.co S.gen rfl (PySem.W.codeRec_of KX hcd) (hb _ _ _ _ ?_)
  refine wpAny_newFunctionEnv_cells S.kind hkind fun env he s1 x => ?_
  subst he
  refine ⟨lim.keeps x.toInCall.keep, codeAny_func ?_⟩
  obtain ⟨t, ht, hq⟩ := hbody A outer s H vs Q E (hr.deeper _) hsp
  have I : Inv (cxOf CX P w K mg base N qual scope f cdv A outer s H E) [] (start N vs) H s1 := inv_start S hr.hd e0 hl r x
  refine wpAny_mono (ht [] s1 (start N vs) H _ I hq) (fun fl s' hs => ?_) fun e s' hs => hs
  have fin : ∀ {σ' : St} {H' : Hp} {v : V} {u : Value}, Inv (cxOf CX P w K mg base N qual scope f cdv A outer s H E) [] σ' H' s' → RelV v u → Q v H' → CE outer P w H s Q u s' :=
    fun {σ' H' v u} J rv q => ⟨v, H', J.os, J.bare, J.base, J.hok, rv, q⟩
  cases fl with
  | ret u =>
    obtain ⟨v, σ', H', J, rv, q⟩ := hs
    exact fin J rv q
  | next =>
    obtain ⟨σ', H', J, q⟩ := hs
    exact fin (v := V.non) (u := Value.none) J rfl q
  | brk =>
    obtain ⟨_, _, _, q⟩ := hs
    exact False.elim q
  | cont =>
    obtain ⟨_, _, _, q⟩ := hs
    exact False.elim q
end L2

namespace L2
open PySem PySem.Spec PyProof.Rows
section
variable {X : Cx} {x : Str} {p pos : Pos} {e : Expr} {es : List Expr} {t : TA} {id T : String} {r : List V → Hp → VK → Prop}

def tCB (r : List V → Hp → VK → Prop) (t : TA) : TE := fun σ H Q => t σ H fun vs H1 => r vs H1 Q
theorem pe_callB (hc : CallR X (.builtin id) r) (hg : Gl X x) (hm : X.mg x = none) (hv : bootBuiltins x = some (.builtin id)) (ha : PA X (e :: es) t) (hn : x ≠ "__name__" := by decide) (hdb : (x == ("__debug__" : Str)) = false := by decide)
    (he : starEach (e :: es) X.env = (false, eval e X.env) :: starEach es X.env := by rfl) (hpl : (backTo pos (starEach es X.env)).any (·.1) = false := by rfl) : PE X (.Call (.Name x p) (e :: es) [] pos) (tCB r t) := by
  intro pins s σ H Q I h
  refine wpAny_Call_Name_kw (ld_blt I hg hm hv ?_ hn hdb)
  exact PyProof.Rows.callWith_builtin1 (thn (ha pos pins s σ H _ I h) fun us s1 ⟨vs, H1, I1, r1, q1⟩ => hc pins s1 σ H1 vs us Q I1 r1 q1) he hpl
theorem pe_callTy (hc : CallR X (.type T) r) (hg : Gl X x) (hm : X.mg x = none) (hv : bootBuiltins x = some (.type T)) (ha : PA X (e :: es) t) (hn : x ≠ "__name__" := by decide) (hdb : (x == ("__debug__" : Str)) = false := by decide)
    (he : starEach (e :: es) X.env = (false, eval e X.env) :: starEach es X.env := by rfl) (hpl : (backTo pos (starEach es X.env)).any (·.1) = false := by rfl) : PE X (.Call (.Name x p) (e :: es) [] pos) (tCB r t) := by
  intro pins s σ H Q I h
  refine wpAny_Call_Name_kw (ld_blt I hg hm hv ?_ hn hdb)
  exact PyProof.Rows.callWith_type1 (thn (ha pos pins s σ H _ I h) fun us s1 ⟨vs, H1, I1, r1, q1⟩ => hc pins s1 σ H1 vs us Q I1 r1 q1) he hpl
end
end L2

namespace HT
open PySem PyProof.Rows

section
open PySem.SeqAt
open PySem.AutoSeq1 (wpAny_loadPart')
open PySem.MeetsSeq PySem.MeetsSeq2 PySem.MeetsSeq3

end

section
variable {prog : Program} {w : World} {A : Around} {E : Value → Shared → Prop} {s : Shared}

/-! ### t[a:b], not the whole -/
def sIx (n d : Nat) : Option Int → Nat
  | none => d
  | some v => if v < 0 then (v + (n : Int)).toNat else min v.toNat n
theorem sIx_none (n d : Nat) : sIx n d none = d := rfl
theorem sIx_nat (n d k : Nat) : sIx n d (some (k : Int)) = min k n := by
  show (if (k : Int) < 0 then ((k : Int) + (n : Int)).toNat else min (k : Int).toNat n) = min k n
  rw [if_neg (by omega), Int.toNat_natCast]
theorem sIx_le (n d : Nat) (hd : d ≤ n) (o : Option Int) : sIx n d o ≤ n := by
  cases o with
  | none => exact hd
  | some v =>
    show (if v < 0 then (v + (n : Int)).toNat else min v.toNat n) ≤ n
    by_cases hv : v < 0
    · rw [if_pos hv]; omega
    · rw [if_neg hv]; exact Nat.min_le_right _ _
end
end HT

namespace L2
open PySem PySem.Spec PyProof.Rows

/-! ### the parts of a slice -/
abbrev TO := St → Hp → (Option Int → Hp → Prop) → Prop
def PO (X : Cx) (e : Option Expr) (t : TO) : Prop :=
  ∀ (pins : List (Addr × Obj)) (s : Shared) (σ : St) (H : Hp) (Q : Option Int → Hp → Prop), Inv X pins σ H s → t σ H Q →
    wpAny (model X.prog X.w) X.A (evalPart e X.env) (fun u s' => ∃ o H', Inv X pins σ H' s' ∧ IsPart u o ∧ Q o H') X.xe s
def tNoPart : TO := fun _ H Q => Q none H
def tPart (t : TE) : TO := fun σ H Q => t σ H fun x H1 => ∃ i, x = .int i ∧ Q (some i) H1

section
variable {X : Cx} {e : Expr} {te : TE} {lo hi : Option Expr} {tl th : TO} {pos p2 : Pos}

theorem po_none : PO X none tNoPart := by
  intro pins s σ H Q I h
  rw [evalPart_none]
  exact wpAny_pure ⟨none, H, I, .none, h⟩
theorem po_some (h : PE X e te) : PO X (some e) (tPart te) := by
  intro pins s σ H Q I hw
  rw [evalPart_some]
  refine thn (h pins s σ H _ I hw) fun u s1 ⟨x, H1, I1, r1, q1⟩ => ?_
  obtain ⟨i, rfl, q⟩ := q1
  obtain ⟨t, rfl⟩ := r1
  exact ⟨some i, H1, I1, .int i t, q⟩

def SlR (X : Cx) (r : V → Option Int → Option Int → Hp → VK → Prop) : Prop :=
  ∀ (pins : List (Addr × Obj)) (s : Shared) (σ : St) (H : Hp) (x : V) (v vl vu : Value) (lo hi : Option Int) (sl : Addr) (Q : VK), Inv X pins σ H s → RelV x v → s.heap.IsSliceOf sl vl vu .none → IsPart vl lo → IsPart vu hi → r x lo hi H Q →
    ∃ T id, typeLookup (.type T) "__getitem__" = pure (some (.builtin id)) ∧ s.TypeIs v T ∧ wpAny (model X.prog X.w) X.A (getItem v (.ref sl)) (EP X pins σ Q) X.xe s
def tSl (r : V → Option Int → Option Int → Hp → VK → Prop) (te : TE) (tl th : TO) : TE := fun σ H Q => te σ H fun x H1 => tl σ H1 fun l H2 => th σ H2 fun u H3 => r x l u H3 Q
theorem pe_slice {r : V → Option Int → Option Int → Hp → VK → Prop} (hr : SlR X r) (he : PE X e te) (hl : PO X lo tl) (hu : PO X hi th) : PE X (.Subscript e (.Slice lo hi none p2) pos) (tSl r te tl th) := by
  intro pins s σ H Q I h
  refine Subscript_ (thn (he pins s σ H _ I h) fun v s1 ⟨x, H1, I1, r1, q1⟩ => ?_)
  refine wpAny_Slice (thn (hl pins s1 σ H1 _ I1 q1) fun vl s2 ⟨l, H2, I2, pl, q2⟩ => thn (hu pins s2 σ H2 _ I2 q2) fun vu s3 ⟨u, H3, I3, pu, q3⟩ => ?_)
  rw [evalPart_none]
  refine wpAny_pure ?_
  have I4 : Inv X pins σ H3 { s3 with heap := s3.heap.push { cls := .type "slice", data := .fields #[vl, vu, .none] } } := I3.kept (t' := s3.toks) fun b ob q => Heap.get?_push_of_some _ q
  obtain ⟨T, id, hT, ht, hg⟩ := hr pins { s3 with heap := s3.heap.push { cls := .type "slice", data := .fields #[vl, vu, .none] } } σ H3 x v vl vu l u s3.heap.objs.size Q I4 r1 (Heap.IsSliceOf.new ..) pl pu q3
  show wpAny (model X.prog X.w) X.A (subscriptTail e (.Slice lo hi none p2) v (.ref s3.heap.objs.size)) (EP X pins σ Q) X.xe { s3 with heap := s3.heap.push { cls := .type "slice", data := .fields #[vl, vu, .none] } }
  exact tail_any (ops := [.ref s3.heap.objs.size, v]) ht hT hg (by with_unfolding_all rfl)

/-! ### t < u, t + u -/
end
end L2

namespace L2
open PySem PySem.Spec PyProof.Rows

/-! ### places -/
def ixN (n : Nat) (i : Int) : Option Nat := if 0 ≤ i then (if i < n then some i.toNat else none) else if -(n : Int) ≤ i then some (i + n).toNat else none
def atI {α : Type} (xs : List α) (i : Int) : Option α := (ixN xs.length i).bind fun j => xs[j]?
theorem ixN_seq {n : Nat} {i : Int} {j : Nat} (h : ixN n i = some j) : seqIndex? i n = some j ∧ j < n ∧ -(n : Int) ≤ i ∧ i < n := by
  unfold ixN at h
  by_cases h0 : 0 ≤ i
  · rw [if_pos h0] at h
    by_cases h1 : i < n
    · rw [if_pos h1] at h
      have e : i.toNat = j := Option.some.inj h
      exact ⟨by rw [seqIndex_of h0 h1, e], by omega, by omega, h1⟩
    · rw [if_neg h1] at h; cases h
  · rw [if_neg h0] at h
    by_cases h1 : -(n : Int) ≤ i
    · rw [if_pos h1] at h
      have e : (i + n).toNat = j := Option.some.inj h
      exact ⟨by rw [seqIndex_neg (by omega) h1, e], by omega, h1, by omega⟩
    · rw [if_neg h1] at h; cases h
theorem atI_get {α : Type} {xs : List α} {i : Int} {v : α} (h : atI xs i = some v) : ∃ j, seqIndex? i xs.length = some j ∧ xs[j]? = some v ∧ j < xs.length ∧ -(xs.length : Int) ≤ i ∧ i < xs.length := by
  unfold atI at h
  cases e : ixN xs.length i with
  | none => rw [e] at h; cases h
  | some j =>
    rw [e] at h
    obtain ⟨h1, h2, h3, h4⟩ := ixN_seq e
    exact ⟨j, h1, h, h2, h3, h4⟩
theorem atI_nat {α : Type} {xs : List α} {j : Nat} {v : α} (h : xs[j]? = some v) : atI xs (j : Int) = some v := by
  have hj : j < xs.length := (List.getElem?_eq_some_iff.mp h).1
  have e : ixN xs.length (j : Int) = some j := by
    unfold ixN
    rw [if_pos (by omega), if_pos (by omega)]; simp
  unfold atI; rw [e]; exact h
/-! ### what may be subscripted -/
def PlainIx (b : Expr) : Prop := ∀ o i, subscripted b false o i = operate [o, i] (getItem o i)
def IxR (X : Cx) (r : R2) : Prop :=
  ∀ (value slice : Expr) (pins : List (Addr × Obj)) (s : Shared) (σ : St) (H : Hp) (x y : V) (v u : Value) (Q : VK), Inv X pins σ H s → RelV x v → RelV y u → r x y H Q →
    subscripted slice false v u = operate [v, u] (getItem v u) → wpAny (model X.prog X.w) X.A (subscriptTail value slice v u) (EP X pins σ Q) X.xe s
def MtR (X : Cx) (id : String) (r : V → List V → Hp → VK → Prop) : Prop :=
  ∀ (pins : List (Addr × Obj)) (s : Shared) (σ : St) (H : Hp) (x : V) (xs : List V) (v : Value) (us : List Value) (Q : VK), Inv X pins σ H s → RelV x v → Vals xs us → r x xs H Q →
    wpAny (model X.prog X.w) X.A (call (.builtin id) (v :: us)) (EP X pins σ Q) X.xe s
section
variable {X : Cx} {a b : Expr} {ta tb : TE} {pos : Pos}
theorem pe_ix {r : R2} (hr : IxR X r) (ha : PE X a ta) (hb : PE X b tb) (hs : PlainIx b) : PE X (.Subscript a b pos) (tOp r ta tb) := by
  intro pins s σ H Q I h
  exact Subscript_ (binT ha hb I h fun v u s2 x y H2 I2 rx ry q => hr a b pins s2 σ H2 x y v u Q I2 rx ry q (hs _ _))

def rIxL (K : PySem.W.Frag) : R2 := fun x y H Q => ∃ p xs i v, x = .ref p ∧ y = .int i ∧ SqL K H p xs ∧ atI xs i = some v ∧ Q v H
def rIxT (K : PySem.W.Frag) : R2 := fun x y H Q => ∃ p xs i v, x = .ref p ∧ y = .int i ∧ SqT K H p xs ∧ atI xs i = some v ∧ Q v H
def rIxS : R2 := fun x y H Q => ∃ z i c, x = .str z ∧ y = .int i ∧ z.length ≤ sizeLine ∧ atI z.cps.toList i = some c ∧ Q (.str ⟨#[c]⟩) H
theorem ix_list : IxR X (rIxL X.K) := by
  intro value slice pins s σ H x y v u Q I rx ry h hs
  obtain ⟨p, xs, i, z, rfl, rfl, hq, he, q⟩ := h
  cases rx
  obtain ⟨t, rfl⟩ := ry
  obtain ⟨its, r, pl, hz⟩ := I.list hq
  obtain ⟨j, h1, h2, h3, h4, h5⟩ := atI_get he
  obtain ⟨w, ew, rw'⟩ := r.get h2
  have hl := r.length
  have hn := line63
  have fin : EP X pins σ Q w s := ⟨z, H, I, rw', q⟩
  by_cases h0 : 0 ≤ i
  · have hj : i.toNat = j := by
      rw [seqIndex_of h0 h5] at h1
      exact Option.some.inj h1
    exact item_listR pl.isList h0 (by omega) (by rw [hj]; simpa using ew) fin hs
  · have hj : (i + (its.toArray.size : Int)).toNat = j := by
      rw [seqIndex_neg (by omega) h4] at h1
      rw [List.size_toArray, ← hl]
      exact Option.some.inj h1
    exact subscriptTail_builtinR (x := w) pl.isList.typeIs slot_list_getitem.lookup
      (wpAny_getItem_list_neg (Q := fun r s' => r = w ∧ EP X pins σ Q r s') pl.isList (by omega) (by rw [List.size_toArray] <;> omega) (by omega) (by rw [hj]; simpa using ew) ⟨rfl, fin⟩) hs
theorem ix_tup : IxR X (rIxT X.K) := by
  intro value slice pins s σ H x y v u Q I rx ry h hs
  obtain ⟨p, xs, i, z, rfl, rfl, hq, he, q⟩ := h
  cases rx
  obtain ⟨t, rfl⟩ := ry
  obtain ⟨its, r, pl, hz⟩ := I.tuple hq
  obtain ⟨j, h1, h2, h3, h4, h5⟩ := atI_get he
  obtain ⟨w, ew, rw'⟩ := r.get h2
  have hl := r.length
  have hn := line63
  have fin : EP X pins σ Q w s := ⟨z, H, I, rw', q⟩
  exact subscriptTail_builtinR (x := w) pl.typeIs slot_tuple_getitem.lookup
    (getItem_tuple (j := j) (Q := fun r s' => r = w ∧ EP X pins σ Q r s') pl (by omega) (by omega) (by rw [List.size_toArray, ← hl]; exact h1) (by simpa using ew) ⟨rfl, fin⟩) hs
theorem ix_str : IxR X rIxS := by
  intro value slice pins s σ H x y v u Q I rx ry h hs
  obtain ⟨z, i, c, rfl, rfl, hz, he, q⟩ := h
  obtain ⟨t, rfl⟩ := rx
  obtain ⟨t', rfl⟩ := ry
  obtain ⟨j, h1, h2, h3, h4, h5⟩ := atI_get he
  have hl : z.cps.toList.length = z.length := by simp [Str.length]
  rw [hl] at h1 h4 h5
  have hn := line63
  exact tail_any (typeIs_str s z t) slot_str_getitem.lookup (getItem_str (c := c) (by
    have e1 : decide (i < -(2 ^ 63 : Int)) = false := decide_eq_false (by omega)
    have e2 : decide (i ≥ 2 ^ 63) = false := decide_eq_false (by omega)
    rw [e1, e2, Bool.or_false]) (by rw [h1]; simpa using h2) ⟨.str ⟨#[c]⟩, H, I.tok _, ⟨_, rfl⟩, q⟩) hs
/-! ### xs[i] = v, any sign -/
/-! ### slices -/
/-! ### in, not in: flat items -/
def flatV : V → Bool
  | .non => true
  | .bl _ => true
  | .int _ => true
  | .str _ => true
  | _ => false
def eqV : V → V → Bool
  | .non, .non => true
  | .bl a, .bl b => a == b
  | .bl a, .int b => (if a then 1 else 0) == b
  | .int a, .bl b => a == (if b then 1 else 0)
  | .int a, .int b => a == b
  | .str a, .str b => a == b
  | _, _ => false
theorem eqAt_V {A : Around} {s : Shared} {y x : V} {u v : Value} (ry : RelV y u) (rx : RelV x v) (fy : flatV y = true) (fx : flatV x = true) : SeqAt.EqAt A s u v (eqV y x) := by
  cases y with
  | non =>
    cases ry
    cases x with
    | non => cases rx; exact SeqAt.EqAt.same _
    | bl b => cases rx; exact SeqAt.EqAt.none_bool b
    | int b => obtain ⟨t, rfl⟩ := rx; exact SeqAt.EqAt.none_int b t
    | str b => obtain ⟨t, rfl⟩ := rx; exact SeqAt.EqAt.none_str b t
    | _ => exact absurd (show false = true from fx) Bool.false_ne_true
  | bl a =>
    cases ry
    cases x with
    | non => cases rx; exact SeqAt.EqAt.bool_none a
    | bl b => cases rx; exact SeqAt.EqAt.bool_bool a b
    | int b => obtain ⟨t, rfl⟩ := rx; exact SeqAt.EqAt.bool_int a b t
    | str b => obtain ⟨t, rfl⟩ := rx; exact SeqAt.EqAt.bool_str a b t
    | _ => exact absurd (show false = true from fx) Bool.false_ne_true
  | int a =>
    obtain ⟨t', rfl⟩ := ry
    cases x with
    | non => cases rx; exact SeqAt.EqAt.int_none a t'
    | bl b => cases rx; exact SeqAt.EqAt.int_bool a t' b
    | int b => obtain ⟨t, rfl⟩ := rx; exact SeqAt.EqAt.int_int a t' b t
    | str b => obtain ⟨t, rfl⟩ := rx; exact SeqAt.EqAt.int_str a t' b t
    | _ => exact absurd (show false = true from fx) Bool.false_ne_true
  | str a =>
    obtain ⟨t', rfl⟩ := ry
    cases x with
    | non => cases rx; exact SeqAt.EqAt.str_none a t'
    | bl b => cases rx; exact SeqAt.EqAt.str_bool a t' b
    | int b => obtain ⟨t, rfl⟩ := rx; exact SeqAt.EqAt.str_int a t' b t
    | str b => obtain ⟨t, rfl⟩ := rx; exact SeqAt.EqAt.str_str a t' b t
    | _ => exact absurd (show false = true from fx) Bool.false_ne_true
  | _ => exact absurd (show false = true from fy) Bool.false_ne_true
def eqU (x : V) (u : Value) : Bool := match u with
  | .none => eqV .non x
  | .bool b => eqV (.bl b) x
  | .int i _ => eqV (.int i) x
  | .str z _ => eqV (.str z) x
  | _ => false
theorem eqU_of {x y : V} {u : Value} (r : RelV y u) (f : flatV y = true) : eqU x u = eqV y x := by
  cases y with
  | non => cases r; rfl
  | bl b => cases r; rfl
  | int i => obtain ⟨t, rfl⟩ := r; rfl
  | str z => obtain ⟨t, rfl⟩ := r; rfl
  | _ => exact absurd (show false = true from f) Bool.false_ne_true
theorem any_eqU {x : V} : ∀ {xs : List V} {us : List Value}, Vals xs us → xs.all flatV = true → us.any (eqU x) = xs.any fun y => eqV y x
  | _, _, .nil, _ => rfl
  | y :: xs, u :: us, .cons r t, f => by
    rw [List.all_cons, Bool.and_eq_true] at f
    rw [List.any_cons, List.any_cons, eqU_of r f.1, any_eqU t f.2]
theorem mem_eqAt {A : Around} {s : Shared} {x : V} {v : Value} (rx : RelV x v) (fx : flatV x = true) : ∀ {xs : List V} {us : List Value}, Vals xs us → xs.all flatV = true → ∀ u ∈ us, SeqAt.EqAt A s u v (eqU x u)
  | _, _, .nil, _ => fun u hu => by cases hu
  | y :: xs, u :: us, .cons r t, f => fun u' hu => by
    rw [List.all_cons, Bool.and_eq_true] at f
    rcases List.mem_cons.mp hu with rfl | hu
    · rw [eqU_of r f.1]; exact eqAt_V r rx f.1 fx
    · exact mem_eqAt rx fx t f.2 u' hu
def inV (x : V) (xs : List V) : Bool := xs.any fun y => eqV y x
def rIn (K : PySem.W.Frag) (neg : Bool) : R2 := fun x y H Q => ∃ p xs, y = .ref p ∧ (SqL K H p xs ∨ SqT K H p xs) ∧ flatV x = true ∧ xs.all flatV = true ∧ Q (.bl (if neg then !inV x xs else inV x xs)) H
theorem op_in_seq : OpR X (compareOp .In) (rIn X.K false) := by
  intro pins s σ H x y v u Q I rx ry h
  obtain ⟨p, xs, rfl, hq, fx, fs, q⟩ := h
  cases ry
  rcases hq with hq | hq
  · obtain ⟨its, r, pl, hz⟩ := I.list hq
    refine SeqAt.in_listAt (eqU x) pl.isList (fun w hw => mem_eqAt rx fx r fs w (by simpa using hw)) ⟨.bl _, H, I, rfl, ?_⟩
    rw [show its.toArray.any (eqU x) = its.any (eqU x) by simp, any_eqU r fs]
    exact q
  · obtain ⟨its, r, pl, hz⟩ := I.tuple hq
    refine SeqAt.in_tupleAt (eqU x) pl (fun w hw => mem_eqAt rx fx r fs w (by simpa using hw)) ⟨.bl _, H, I, rfl, ?_⟩
    rw [show its.toArray.any (eqU x) = its.any (eqU x) by simp, any_eqU r fs]
    exact q
theorem op_notIn_seq : OpR X (compareOp .NotIn) (rIn X.K true) := by
  intro pins s σ H x y v u Q I rx ry h
  obtain ⟨p, xs, rfl, hq, fx, fs, q⟩ := h
  cases ry
  rcases hq with hq | hq
  · obtain ⟨its, r, pl, hz⟩ := I.list hq
    refine SeqAt.notIn_listAt (eqU x) pl.isList (fun w hw => mem_eqAt rx fx r fs w (by simpa using hw)) ⟨.bl _, H, I, rfl, ?_⟩
    rw [show its.toArray.any (eqU x) = its.any (eqU x) by simp, any_eqU r fs]
    exact q
  · obtain ⟨its, r, pl, hz⟩ := I.tuple hq
    refine SeqAt.notIn_tupleAt (eqU x) pl (fun w hw => mem_eqAt rx fx r fs w (by simpa using hw)) ⟨.bl _, H, I, rfl, ?_⟩
    rw [show its.toArray.any (eqU x) = its.any (eqU x) by simp, any_eqU r fs]
    exact q
/-! ### len, list(x), tuple(x) of any list or tuple that is read -/
theorem call_len_seq : CallR X (.builtin "len") (fun xs H Q => ∃ p ys, xs = [.ref p] ∧ (SqL X.K H p ys ∨ SqT X.K H p ys) ∧ Q (.int ys.length) H) := by
  intro pins s σ H xs us Q I r h
  obtain ⟨p, ys, rfl, hq, q⟩ := h
  obtain ⟨u, rfl, rx⟩ := vals1 r
  cases rx
  have hn := line63
  rcases hq with hq | hq
  · obtain ⟨its, r', pl, hz⟩ := I.list hq
    have hlen := r'.length
    exact Calls.call_len_list pl.isList (by simp only [List.size_toArray] <;> omega) ⟨.int ys.length, H, I.tok _, ⟨s.toks + 1, by rw [List.size_toArray, hlen]⟩, q⟩
  · obtain ⟨its, r', pl, hz⟩ := I.tuple hq
    have hlen := r'.length
    exact len_tuple pl (by simp only [List.size_toArray] <;> omega) ⟨.int ys.length, H, I.tok _, ⟨s.toks + 1, by rw [List.size_toArray, hlen]⟩, q⟩
theorem call_len_str : CallR X (.builtin "len") (fun xs H Q => ∃ z, xs = [.str z] ∧ z.length ≤ sizeLine ∧ Q (.int z.length) H) := by
  intro pins s σ H xs us Q I r h
  obtain ⟨z, rfl, hz, q⟩ := h
  obtain ⟨u, rfl, t, rfl⟩ := vals1 r
  have hn := line63
  exact len_str (by omega) ⟨.int z.length, H, I.tok _, ⟨_, rfl⟩, q⟩
/-! ### the call of a builtin's method: o.m(..) -/
def tyV (K : PySem.W.Frag) (T : String) (x : V) (H : Hp) : Prop := match x with
  | .str _ => T = "str"
  | .int _ => T = "int"
  | .ref p => (T = "list" ∧ ∃ xs, SqL K H p xs) ∨ (T = "tuple" ∧ ∃ o, K.lookup p = some o ∧ o.cls = .type "tuple" ∧ o.dict = none) ∨
      (T = "dict" ∧ ((∃ kvs, H p = some (.dK kvs)) ∨ ∃ kvs, H p = some (.dT kvs))) ∨ (T = "set" ∧ ∃ S n, H p = some (.set S n))
  | _ => False
theorem tyV_is {pins : List (Addr × Obj)} {σ : St} {H : Hp} {s : Shared} {T : String} {x : V} {v : Value} (I : Inv X pins σ H s) (r : RelV x v) (ty : tyV X.K T x H) :
    s.TypeIs v T ∧ ∀ a, v = .ref a → ∃ ob, s.heap.get? a = some ob ∧ ob.dict = none := by
  cases x with
  | str z =>
    obtain ⟨t, rfl⟩ := r
    cases (show T = "str" from ty)
    exact ⟨typeIs_str s z t, fun _ e => nomatch e⟩
  | int i =>
    obtain ⟨t, rfl⟩ := r
    cases (show T = "int" from ty)
    exact ⟨typeIs_int s i t, fun _ e => nomatch e⟩
  | ref p =>
    cases r
    rcases ty with ⟨rfl, xs, hq⟩ | ⟨rfl, o, hk, hc, hd⟩ | ⟨rfl, hk⟩ | ⟨rfl, S, n, hk⟩
    · obtain ⟨its, _, pl, _⟩ := I.list hq
      refine ⟨pl.isList.typeIs, fun a e => ?_⟩
      cases e
      obtain ⟨o, n, e, c, hd, _⟩ := pl
      exact ⟨o, e, hd⟩
    · refine ⟨⟨o, I.kIn p o hk, hc⟩, fun a e => ?_⟩
      cases e
      exact ⟨o, I.kIn _ o hk, hd⟩
    · have z : ∃ o, s.heap.get? p = some o ∧ o.ExactDict := by
        rcases hk with ⟨kvs, hk⟩ | ⟨kvs, hk⟩
        · obtain ⟨_, _, _, _, o, _, _, e, ex, _⟩ := I.hok p _ hk
          exact ⟨o, e, ex⟩
        · obtain ⟨_, _, _, _, o, _, _, e, ex, _⟩ := I.hok p _ hk
          exact ⟨o, e, ex⟩
      obtain ⟨o, e, ex⟩ := z
      refine ⟨⟨o, e, ex.1⟩, fun a e2 => ?_⟩
      cases e2
      exact ⟨o, e, ex.2.1⟩
    · obtain ⟨o, _, _, _, e, ex, _⟩ := I.hok p _ hk
      refine ⟨⟨o, e, ex.1⟩, fun a e2 => ?_⟩
      cases e2
      exact ⟨o, e, ex.2.1⟩
  | _ => exact False.elim ty
def tBM (K : PySem.W.Frag) (T : String) (r : V → List V → Hp → VK → Prop) (to : TE) (t : TA) : TE := fun σ H Q => to σ H fun x H1 => tyV K T x H1 ∧ t σ H1 fun xs H2 => r x xs H2 Q
variable {o e : Expr} {es : List Expr} {to : TE} {t : TA} {name : Str} {apos cpos : Pos} {T id : String} {r : V → List V → Hp → VK → Prop}
theorem pe_bm (pa : PlainAttrs T) (slot : Slot T name id) (hty : typeOf (.builtin id) = pure (.type "method_descriptor")) (hm : MtR X id r) (ho : PE X o to) (ha : PA X (e :: es) t)
    (hbase : attributeBase o name X.env (eval o X.env) = eval o X.env := by rfl)
    (hfew : ((backTo cpos (starEach (e :: es) X.env)).all (fun x => !x.1) && (backToKw cpos (keywordEach [] X.env)).all (fun x => x.1.isSome)
      && decide ((e :: es).length + ([] : List Keyword).length + (if ([] : List Keyword).isEmpty then 0 else 1) < 30)) = true := by rfl)
    (hline : (apos.endLine == cpos.line) = true := by rfl) (hs : starEach (e :: es) X.env = (false, eval e X.env) :: starEach es X.env := by rfl) (hplain : (backTo cpos (starEach es X.env)).any (·.1) = false := by rfl) :
    PE X (.Call (.Attribute o name apos) (e :: es) [] cpos) (tBM X.K T r to t) := by
  intro pins s σ H Q I h
  refine wpAny_Call_method_late hbase hfew hline rfl (thn (ho pins s σ H _ I h) fun v s1 ⟨x, H1, I1, r1, ty, q1⟩ => ?_)
  obtain ⟨h1, h2⟩ := tyV_is I1 r1 ty
  refine ⟨T, id, pa, slot, hty, h1, h2, ?_⟩
  have hA := ha cpos pins s1 σ H1 _ I1 q1
  rw [hs] at hA ⊢
  refine Calls.callWith_builtin (by show (false || (backTo cpos (starEach es X.env)).any (·.1)) = false; rw [hplain] <;> rfl) (Calls.evalArgs_plain ?_)
  exact thn hA fun us s2 ⟨vs, H2, I2, r2, q2⟩ => hm pins s2 σ H2 x vs v us Q I2 r1 r2 q2
/- xs.append(e), list.index on a module's tuple .. are MtR facts of 06m -/
end
end L2

namespace L2
open PySem PySem.Spec PyProof.Rows

def MtM (X : Cx) (id : String) (r : V → List V → Hp → VK → Prop) : Prop :=
  ∀ (pins : List (Addr × Obj)) (s : Shared) (σ : St) (H : Hp) (x : V) (xs : List V) (v : Value) (us : List Value) (Q : VK), Inv X pins σ H s → RelV x v → Vals xs us → r x xs H Q →
    wpAny (model X.prog X.w) X.A (call (.builtin id) (v :: us)) (EP X pins σ Q) X.xe s

/-! ### lists of values -/
theorem Vals.one : ∀ {x : V} {us : List Value}, Vals [x] us → ∃ u, us = [u] ∧ RelV x u
  | _, _, .cons r .nil => ⟨_, rfl, r⟩
theorem Vals.two : ∀ {x y : V} {us : List Value}, Vals [x, y] us → ∃ u v, us = [u, v] ∧ RelV x u ∧ RelV y v
  | _, _, _, .cons r (.cons q .nil) => ⟨_, _, rfl, r, q⟩
section
variable {X : Cx} {pins : List (Addr × Obj)} {σ : St} {H : Hp} {s : Shared} {l b : Addr} {xs ys zs : List V}

/-! ### the two steps: a tracked list is rewritten, a new list is laid -/
theorem Inv.lset {its its' : List Value} {n : Nat} {f : Array Value → Array Value} {t' : Nat} (I : Inv X pins σ H s) (hH : H l = some (.lst xs))
    (e : s.heap.get? l = some { cls := .type "list", data := .seq its.toArray n }) (hf : f its.toArray = its'.toArray) (hv : Vals ys its') (hz : ys.length ≤ sizeLine) :
    Inv X pins σ (upd H l (.lst ys)) { s with heap := s.heap.update l (Obj.mapSeq f), toks := t' } := by
  have q := PySem.IsL.update e f
  rw [hf] at q
  refine I.write (x := l) (e := l) (by rw [hH]; exact trivial) (.inl rfl) (fun b' u hb hu => (Heap.get?_update_other s.heap (Obj.mapSeq f) (Ne.symm hb)).trans hu) ⟨_, q⟩ ?_
  exact ⟨hz, its', _, hv, q⟩
theorem Inv.lnew {its : List Value} {t' : Nat} (I : Inv X pins σ H s) (hv : Vals ys its) (hz : ys.length ≤ sizeLine) :
    Inv X pins σ (upd H s.heap.objs.size (.lst ys)) { s with heap := s.heap.push { cls := .type "list", data := .seq its.toArray }, toks := t' } :=
  I.laid (fun _ _ q => Heap.get?_push_of_some _ q) (Nat.le_refl _) ⟨hz, its, 0, hv, Heap.get?_push_size _ rfl⟩
theorem Inv.fresh (I : Inv X pins σ H s) : H s.heap.objs.size = none := I.hok.fresh (Nat.le_refl _)
theorem Inv.lstM (I : Inv X pins σ H s) (hH : H l = some (.lst xs)) : xs.length ≤ sizeLine ∧ ∃ (its : List Value) (n : Nat), Vals xs its ∧ xs.length = its.length ∧ s.heap.get? l = some { cls := .type "list", data := .seq its.toArray n } := by
  obtain ⟨z, its, n, r, e⟩ := I.hok l _ hH
  exact ⟨z, its, n, r, r.length, e⟩

end

section
variable {X : Cx}

/-! ### methods -/
def rAppend : V → List V → Hp → VK → Prop := fun x vs H Q => ∃ l xs y, x = .ref l ∧ vs = [y] ∧ H l = some (.lst xs) ∧ xs.length < sizeLine ∧ Q .non (upd H l (.lst (xs ++ [y])))
theorem mt_append : MtM X "list.append" rAppend := by
  intro pins s σ H x vs v us Q I rx rv h
  obtain ⟨l, xs, y, rfl, rfl, hH, hz, q⟩ := h
  cases rx
  obtain ⟨u, rfl, ru⟩ := rv.one
  obtain ⟨z, its, n, r, hl, e⟩ := I.lstM hH
  refine call_meets F.slot_list_append ⟨_, e, rfl⟩ F.entry_list_append (F.args_list_append_2 _ _) (PySem.list_append l its.toArray n u (by rw [List.size_toArray]; omega)) ⟨e, ?_⟩
  refine ⟨.non, _, I.lset (its' := its ++ [u]) hH e (by simp) (r.append (.cons ru .nil)) ?_, rfl, q⟩
  rw [List.length_append, List.length_singleton]
  omega

/-! ### list + list, list += list, list * int -/
def rCat : R2 := fun x y H Q => ∃ l b xs zs, x = .ref l ∧ y = .ref b ∧ H l = some (.lst xs) ∧ H b = some (.lst zs) ∧ xs.length + zs.length ≤ sizeLine ∧ ∀ p, H p = none → Q (.ref p) (upd H p (.lst (xs ++ zs)))
theorem op_cat : OpR X (binaryOp .Add) rCat := by
  intro pins s σ H x y v u Q I rx ry h
  obtain ⟨l, b, xs, zs, rfl, rfl, hH, hB, hz, q⟩ := h
  cases rx
  cases ry
  obtain ⟨z, its, n, r, hl, e⟩ := I.lstM hH
  obtain ⟨z2, its2, n2, r2, hl2, e2⟩ := I.lstM hB
  refine PySem.P.add_list e e2 ?_ (by rw [List.size_toArray, List.size_toArray]; omega)
  have ea : its.toArray ++ its2.toArray = (its ++ its2).toArray := by simp
  rw [ea]
  exact ⟨.ref _, _, I.lnew (t' := s.toks) (r.append r2) (by rw [List.length_append]; omega), rfl, q _ I.fresh⟩
/-! ### del xs[i] -/
end

/-! ### xs[a:b] = ys -/
section
variable {prog : Program} {w : World} {A : Around} {E : Value → Shared → Prop} {s : Shared}
set_option maxRecDepth 100000 in
end

section
variable {X : Cx}
end
end L2

namespace Att
open PySem PySem.W PySem.Calls PyProof.Rows

/-! ### the script -/
theorem ints_of_wellAll {P : Params} {h : Heap} : ∀ (ns : List Int) (vs : List Value), WellAll P h vs (ns.map WData.int) → IntsAre vs ns := by
  intro ns
  induction ns with
  | nil =>
    intro vs w
    rw [List.map_nil] at w
    cases w
    exact .nil
  | cons n ns ih =>
    intro vs w
    rw [List.map_cons] at w
    cases w with
    | cons a b =>
      cases a
      exact .cons _ _ (ih _ b)

theorem script_of {l : OpenLaw} {n : Nat} (hn : l.most = some n) {P : Params} {h : Heap} {args : List WData} {vals : List Value}
    (hpre : l.row.toRowW.claim.pre args = true) (hwl : WellAll P h vals args) :
    ∃ a vs ns, vals = [Value.ref a] ∧ args = [WData.list (ns.map WData.int)] ∧ h.get? a = some { cls := .type "list", data := .seq vs.toArray } ∧ IntsAre vs ns ∧ ns.length ≤ n := by
  have hsh : WShape.hasAll [] args [.list .int] = true := (pre_splitW hpre).1
  have hc : l.pre.holds [] { args := args } = true := (pre_splitW hpre).2
  obtain ⟨d, r, rfl, h1, h2⟩ := hasAllW_cons hsh
  obtain rfl := hasAllW_nil h2
  obtain ⟨xs, rfl, h3⟩ := hasW_list h1
  obtain ⟨ns, rfl⟩ := items_int h3
  have hlen : ns.length ≤ n := by
    unfold OpenLaw.pre at hc
    have h4 : (WTm.not (.lt (.lit (.int (n : Int))) (.len (.arg 0)))).holds [] { args := [.list (ns.map .int)] } = true := by
      have h4 := (holds_andW hc).1
      rw [hn] at h4
      exact h4
    have h5 := condW_of h4 (w_not (w_lt w_lit (w_len_list (w_arg rfl))))
    rw [List.length_map] at h5
    refine Nat.le_of_not_lt fun q => ?_
    have q' : (n : Int) < ((ns.length : Nat) : Int) := by omega
    first
      | (rw [decide_eq_true q'] at h5; exact absurd h5 (by decide))
      | (simp at h5; omega)
  cases hwl with
  | cons w1 w2 =>
    cases w2
    cases w1 with
    | list ho hall => exact ⟨_, _, ns, rfl, rfl, ho, ints_of_wellAll ns _ hall, hlen⟩

theorem post_true (l : OpenLaw) (args : List WData) : l.row.toRowW.claim.post args (.bool true) args = true :=
  postW_of (r := l.row.toRowW) (X := (true == true))
    (show WShape.has [] (.bool true) .bool = true by first | rfl | decide | simp [WShape.has, WShape.arms, WShape.armsAll])
    (show (WTm.eq .res (.lit (.bool true))).value [] { args := args, res := some (.bool true), after := args } = some (.bool (true == true)) from w_eq_bool (w_res rfl) w_lit) rfl

/-! ### the attachment: holds_open's last premise (the goal 'hc' behind k_head) from a wpAny of the law's body -/
theorem attach_call {l : OpenLaw} {n : Nat} {q : Program} {loose : List Str} {XP : (Str → Option Value) → Heap → Prop} {YP : World → Heap → Prop} {d : DefRec}
    (hn : l.most = some n) (hdf : d.params.defaults = [])
    (call : ∀ (w : World) (s₀ s₁ : Shared) (mg mb : Str → Option Value) (fa : Addr) (o : Obj) (pm cd doc : Value) (a : Addr) (vs : List Value) (ns : List Int),
      Ground q loose [] XP w s₀ mg mb s₁.heap → YP w s₁.heap →
      s₁.heap.get? fa = some o → o.data = .func (docDef d.name d.params d.body d.scope pm cd doc) → s₁.heap.CodeRec cd d.name → mg d.name = some (.ref fa) →
      s₁.heap.get? a = some { cls := .type "list", data := .seq vs.toArray } → IntsAre vs ns → ns.length ≤ n → s₁.gens = #[] →
      codeAny (model l.prog w) callerA (.call (.ref fa) ⟨[.ref a], []⟩) (fun r s' => r = .ok (.ret (.bool true)) ∧ OldK s₁.heap s'.heap ∧ s'.os = s₁.os ∧ AllBare s'.gens) s₁) :
    WalkO q loose XP YP l.row.toRowW d [] (fun f vs => PySem.call f vs) := by
  intro w s₀ s₁ mg mb G Y fa o pm cd doc dV kV ho hd hcd hD hmg hg args vals as hpre hlay hrd hwl hlo
  obtain rfl : dV = .none := Dflts.none hD hdf
  obtain rfl : kV = .none := Dflts.noKw hD
  obtain ⟨a, vs, ns, rfl, rfl, hobj, hints, hlen⟩ := script_of hn hpre hwl
  refine enter_call (codeAny_mono (call w s₀ s₁ mg mb fa o pm cd doc a vs ns G Y ho (fd_plain hd) hcd hmg hobj hints hlen hg) fun r s' hq => ?_)
  obtain ⟨rfl, h2, h3, h4⟩ := hq
  exact ⟨.inl ⟨.bool true, .bool true, [], rfl, fun _ => rfl, .bool true, post_true l _, fun _ => ⟨List.Pairwise.nil, fun _ hm => (nomatch hm)⟩⟩, h2, h3, h4⟩

/-! ### rules over ANY heap (no ledger) from facts about the written part K: the library's own take a ledger (News) for what they write -/
section
variable {prog : Program} {w : World} {A : Around} {E : Value → Shared → Prop} {s : Shared} {K : Frag}

/-! the whole heap as the ledger: makes every rule that writes through a ledger a rule over any heap -/
end
end Att

namespace L2
open PySem PySem.Spec PyProof.Rows

theorem vals_ints : ∀ {vs : List Value} {ns : List Int}, IntsAre vs ns → Vals (ns.map V.int) vs
  | _, _, .nil => .nil
  | _, _, .cons n t h => .cons ⟨t, rfl⟩ (vals_ints h)

def Only (H : Hp) : Prop := ∀ b, H b = none ∨ ∃ o xs, H b = some (.frz o (.lst xs))

theorem law_call {P : Program} {w : World} {K : PySem.W.Frag} {mg mb : Str → Option Value} {CX : CXT} {k : Nat} {fa a : Addr} {fd : FuncData} {x : Str} {sp : Sp} {s₁ : Shared} {vs : List Value} {ns : List Int}
    (KX : K.In s₁.heap) (hns : s₁.heap.Ns mainGlobals mg) (hb : s₁.heap.Ns builtinsNs mb) (hbb : ∀ x : Str, x ≠ "__name__" → mb x = bootBuiltins x) (hlim : s₁.heap.NoLimit) (hg : s₁.gens = #[])
    (ha : s₁.heap.get? a = some { cls := .type "list", data := .seq vs.toArray }) (hi : IntsAre vs ns) (hl : ns.length ≤ sizeLine) (hr : Room k callerA)
    (F : ∀ base : Heap, K.In base → base.Ns mainGlobals mg → FnOk P w K mg base CX k fa fd [x] sp) (hbind : ∀ (s : Shared) (u : Value), BindsTo s fd ⟨[u], []⟩ [(x, u)])
    (hsp : ∀ H : Hp, Only H → SqL K H a (ns.map V.int) → sp [.ref a] H (fun v _ => v = .bl true) fun _ _ _ => False)
    (hCX : ∀ H e s', CX [] H s₁ (fun _ _ _ => False) e s' → False) :
    codeAny (model P w) callerA (.call (.ref fa) ⟨[.ref a], []⟩) (fun r s' => r = .ok (.ret (.bool true)) ∧ OldK s₁.heap s'.heap ∧ s'.os = s₁.os ∧ AllBare s'.gens) s₁ := by
  have rv := vals_ints hi
  have lenV := hi.length
  -- from an abstract heap in which nothing but the script may be tracked
  have core : ∀ H : Hp, Only H → SqL K H a (ns.map V.int) → HOk P w H s₁.heap → (∀ b, H b ≠ none → b = a) → (H a ≠ none → K.lookup a = none) →
      codeAny (model P w) callerA (.call (.ref fa) ⟨[.ref a], []⟩) (fun r s' => r = .ok (.ret (.bool true)) ∧ OldK s₁.heap s'.heap ∧ s'.os = s₁.os ∧ AllBare s'.gens) s₁ := by
    intro H hO hS hok hA hK
    have base_of : ∀ {b : Addr} {o : Obj}, s₁.heap.get? b = some o → H b = none → (hidT s₁.heap H).get? b = some o := fun e n => hidT_get e n
    have noA : ∀ {b : Addr} {o : Obj} {es : Array DictEntry} {ep : Nat}, s₁.heap.get? b = some o → o.data = .dict es ep → H b = none := fun {b o es ep} e d => by
      cases q : H b with
      | none => rfl
      | some u =>
        have e' : b = a := hA b (by rw [q]; simp)
        subst e'
        rw [ha] at e; cases e
        have d' : Data.seq vs.toArray _ = Data.dict es ep := d
        cases d'
    have nsK : ∀ {b : Addr} {m : Str → Option Value}, s₁.heap.Ns b m → (hidT s₁.heap H).Ns b m := fun {b m} ⟨o, es, ep, e, d, r⟩ => ⟨o, es, ep, base_of e (noA e d), d, r⟩
    have hKb : K.In (hidT s₁.heap H) := fun b o e => base_of (KX b o e) (by
      cases q : H b with
      | none => rfl
      | some u =>
        have e' : b = a := hA b (by rw [q]; simp)
        subst e'
        rw [hK (by rw [q]; simp)] at e; cases e)
    have hM : Mod K mg (hidT s₁.heap H) := ⟨hKb, nsK hns, ⟨mb, nsK hb, hbb⟩, let ⟨mc, h1, h2⟩ := hlim; ⟨mc, nsK h1, h2⟩⟩
    have e0 : Env0 P w K mg (hidT s₁.heap H) callerA [] s₁ H := ⟨rfl, hM, fun b o e => of_hidT e, Nat.le_of_eq (hidT_size _ _), trivial, fun b hb => absurd (show b ∈ ([] : List Addr) from hb) (by simp), hok, .of_eq hg⟩
    refine codeAny_mono ((F _ hKb (nsK hns)).run callerA [] s₁ H ⟨[.ref a], []⟩ [.ref a] [.ref a] _ _ hr e0 (hbind s₁ (.ref a)) (.cons rfl .nil) (hsp H hO hS)) fun r s' h => ?_
    cases r with
    | error e => exact (hCX H e s' h).elim
    | ok fl =>
      cases fl with
      | next => exact False.elim h
      | brk => exact False.elim h
      | cont => exact False.elim h
      | ret u =>
        obtain ⟨v, H', os, bare, un, hok', r', q⟩ := h
        have q' : v = .bl true := q
        subst q'
        obtain rfl : u = Value.bool true := r'
        refine ⟨rfl, OldK.of_keep fun b o e => ?_, os, bare⟩
        cases q : H b with
        | none => exact un.keep b o e q (by intro z; exact absurd (show b ∈ ([] : List Addr) from z) (by simp)) (by simp)
        | some u =>
          rcases hO b with z | ⟨ob, xs, z⟩
          · rw [q] at z; cases z
          · have z2 := un.frzs b ob _ z
            obtain ⟨e1, _⟩ := hok b _ z
            obtain ⟨e2, _⟩ := hok' b _ z2
            rw [e] at e1; cases e1
            exact e2
  cases hk : K.lookup a with
  | some o =>
    -- the script is one of the module's own objects
    have e := KX a o hk
    rw [ha] at e
    cases e
    refine core (fun _ => none) (fun _ => .inl rfl) (.inr ⟨_, vs.toArray, _, hk, rfl, rfl, rfl, by rw [List.size_toArray, lenV]; exact hl, by simpa using rv⟩) (fun b u z => by have z' : (none : Option HO) = some u := z; cases z') (fun b z => absurd rfl z) fun z => absurd rfl z
  | none =>
    refine core (fun b => if b = a then some (.frz { cls := .type "list", data := .seq vs.toArray } (.lst (ns.map V.int))) else none) (fun b => ?_) (.inl (.inr ⟨{ cls := .type "list", data := .seq vs.toArray }, if_pos rfl⟩)) (fun b u z => ?_) (fun b z => ?_) fun _ => hk
    · by_cases hb : b = a
      · exact .inr ⟨_, _, if_pos hb⟩
      · exact .inl (if_neg hb)
    · by_cases hb : b = a
      · have z' := (if_pos hb).symm.trans z
        cases z'
        subst hb
        exact ⟨ha, by rw [List.length_map]; exact hl, vs, _, rv, ha⟩
      · have z' := (if_neg hb).symm.trans z
        cases z'
    · by_cases hb : b = a
      · exact hb
      · exact absurd (if_neg hb) z
end L2

namespace L2
open PySem PySem.Spec PyProof.Rows

theorem walk_of {l : PySem.W.OpenLaw} {n k : Nat} {q : Program} {loose : List Str} {XP : (Str → Option Value) → Heap → Prop} {YP : World → Heap → Prop} {d : DefRec} {K : Params → PySem.W.Frag} {CX : World → CXT} {sp : World → Sp} {x : Str}
    (hn : l.most = some n) (hn2 : n ≤ sizeLine) (hdf : d.params.defaults = []) (hr : Room k callerA)
    (hY : ∀ (w : World) (h : Heap), YP w h → (K w.params).In h)
    (F : ∀ (w : World) (mg : Str → Option Value) (fa : Addr) (h : Heap), (K w.params).In h → h.Ns mainGlobals mg → mg d.name = some (.ref fa) →
      ∃ fd : FuncData, (∀ (s : Shared) (u : Value), BindsTo s fd ⟨[u], []⟩ [(x, u)]) ∧
        ∀ base : Heap, (K w.params).In base → base.Ns mainGlobals mg → FnOk l.prog w (K w.params) mg base (CX w) k fa fd [x] (sp w))
    (hsp : ∀ (w : World) (H : Hp) (a : Addr) (ns : List Int), ns.length ≤ n → Only H → SqL (K w.params) H a (ns.map V.int) → sp w [.ref a] H (fun v _ => v = .bl true) fun _ _ _ => False)
    (hCX : ∀ (w : World) (H : Hp) (s : Shared) (e : Value) (s' : Shared), CX w [] H s (fun _ _ _ => False) e s' → False) :
    PySem.W.WalkO q loose XP YP l.row.toRowW d [] (fun f vs => PySem.call f vs) := by
  refine Att.attach_call hn hdf fun w s₀ s₁ mg mb fa o pm cd doc a vs ns G Y ho hd hcd hmg hobj hints hlen hg => ?_
  have KX := hY w _ Y
  obtain ⟨fd, hb, hF⟩ := F w mg fa _ KX G.T.g hmg
  exact law_call KX G.T.g G.T.b G.T.builtins G.T.nolimit hg hobj hints (Nat.le_trans hlen hn2) hr hF hb (fun H hO hS => hsp w H a ns hlen hO hS) fun H e s' => hCX w H s₁ e s'
end L2

/- THE LAST THEOREM (shape; LID, My.* are yours):
   My.Adr: a structure of the addresses that your layer names (classes, functions); My.Txt K t: a structure (Prop) of the equations over K;
   My.txt_mk : {K} {implicit addresses ..} (e1 : nsIn K mainGlobals "law" = some (some (.ref f))) (e2 : K.lookup f = some ⟨oc, od, .func (fnOf "law" "law" params body scope dV kV doc pm an cdv ct), sl⟩) (e3 : codeIn K cdv "law" = true) .. : ∃ t, My.Txt K t

set_option maxRecDepth 100000 in
set_option maxHeartbeats 0 in
theorem PySem.Challenge.cw_LID_holds : PySem.Challenge.rw_LID.Holds := by
  w_on; o_law; k_head; (case hw => w_witness2)
  k_fill
  refine L2.walk_of (l := PySem.Challenge.rw_LID) (n := 63) (k := 40) (x := "script") (CX := fun w => ..) (sp := fun _ => My.sp_law) rfl (by decide) rfl ⟨rfl, by decide, by decide⟩ (fun w h Y => PySem.W.kIn_of Y) ?F ?S ?C
  case F =>
    intro w mg fa h KX G hmg
    have T : ∃ t, My.Txt (L2.KOf KX) t := by
      dsimp only [L2.KOf]                          -- K must stand as «<heap const> w.params» for k_is
      refine' My.txt_mk ?e1 ?e2 ?e3 ..
      (case e1 => PySem.W.k_is)                    -- in the order: a name -> its address -> its object -> its parts
      (case e2 => PySem.W.k_is)
      ..
    obtain ⟨t, T⟩ := T
    have e0 := hmg.symm.trans (PySem.W.mg_of KX G T.law)
    cases e0                                       -- fa is the law's own address
    exact ⟨_, fun s u => .of_eq rfl, fun base kb nb => My.law_fn T kb nb⟩     -- if «.of_eq rfl» comes too early: refine' ⟨_, ?b, fun base kb nb => My.law_fn T kb nb⟩; exact fun s u => .of_eq rfl
  case S => exact fun w H a ns hl hO hS => ..
  case C => exact ..
(the tactic k_is has no namespace: write k_is) -/

/-! SHORT WORDS over the layer: a def of the text, its body, what a loop and a test want. -/
namespace L2
open PySem PySem.Spec PyProof.Rows

/-! ### the text by places -/
def inClass (s : Stmt) (j : Nat) : Stmt := match s with
  | .ClassDef _ _ _ body _ _ _ _ _ _ _ => body.getD j (.Pass ⟨0, 0, 0, 0⟩)
  | _ => .Pass ⟨0, 0, 0, 0⟩
def defArgs (s : Stmt) : Arguments := match s with
  | .FunctionDef _ a _ _ _ _ _ _ _ _ => a
  | _ => { posonlyargs := [], args := [], vararg := none, kwonlyargs := [], kw_defaults := [], kwarg := none, defaults := [] }
def defBody (s : Stmt) : List Stmt := match s with
  | .FunctionDef _ _ b _ _ _ _ _ _ _ => b
  | _ => []
def defScope (s : Stmt) : Scope := match s with
  | .FunctionDef _ _ _ _ _ _ sc _ _ _ => sc
  | _ => { kind := .function, names := [], isGenerator := false, isCoroutine := false }

/-! ### no exception leaves a def -/
abbrev CX0 : CXT := fun _ _ _ _ _ _ => False
abbrev E0 : XK := fun _ _ _ => False
theorem pass0 {X : Cx} : Passes CX0 X E0 := fun _ _ _ _ _ _ _ h => h.elim

/-! ### a def (or method) of the text as it stands behind the top -/
structure Fun (K : PySem.W.Frag) (x qual : Str) (st : Stmt) (f : Addr) (fd : FuncData) : Prop where
  ex : ∃ (oc : Value) (od : Option Addr) (kV doc pm : Value) (an : Option Addr) (cdv ct : Value) (osl : Array (Option Value)),
    fd = PySem.W.fnOf x qual (defArgs st) (defBody st) (defScope st) .none kV doc pm an cdv ct ∧ K.lookup f = some ⟨oc, od, .func fd, osl⟩ ∧ PySem.W.codeIn K cdv qual = true
  kp : PySem.W.keepIn K (.ref f) = true
section
variable {P : Program} {w : World} {K : PySem.W.Frag} {mg : Str → Option Value} {base : Heap}
theorem Fun.ok {x qual : Str} {st : Stmt} {f : Addr} {fd : FuncData} {N ps : List Str} {k : Nat} {sp : Sp} (F : Fun K x qual st f fd) (S : FnScope N ps (defScope st)) (len : ∀ vs H Q E, sp vs H Q E → vs.length = ps.length)
    (hbody : ∀ (cdv : Value) (A : Around) (outer : List Env) (s : Shared) (H : Hp) (vs : List V) (Q : VK) (E : XK), Room k (A.deeper (envOfC qual (defScope st) s.heap.objs.size f cdv)) → sp vs H Q E →
      ∃ t, PSs (cxOf CX0 P w K mg base N qual (defScope st) f cdv A outer s H E).nox (defBody st) t ∧ t { nx := fun _ H' => Q .non H', rt := Q } (start N vs) H) : FnOk P w K mg base CX0 (k + 1) f fd ps sp := by
  obtain ⟨oc, od, kV, doc, pm, an, cdv, ct, osl, rfl, lk, hcd⟩ := F.ex
  refine fn_of lk hcd S len fun A outer s H vs Q E hr hsp => ?_
  obtain ⟨t, h, q⟩ := hbody cdv A outer s H vs Q E hr hsp
  exact ⟨t, h.nox, q⟩
theorem Fun.binds {x qual : Str} {st : Stmt} {f : Addr} {fd : FuncData} {ps : List Str} (F : Fun K x qual st f fd)
    (h : ∀ (kV doc pm : Value) (an : Option Addr) (cdv ct : Value) (us : List Value), us.length = ps.length → bindArgs (PySem.W.fnOf x qual (defArgs st) (defBody st) (defScope st) .none kV doc pm an cdv ct) ⟨us, []⟩ = pure (ps.zip us)) : Binds K fd ps [] := by
  obtain ⟨oc, od, kV, doc, pm, an, cdv, ct, osl, rfl, lk, hcd⟩ := F.ex
  exact .all (h kV doc pm an cdv ct)
theorem fun_mk {x qual : Str} {st : Stmt} {f : Addr} {oc : Value} {od an : Option Addr} {osl : Array (Option Value)} {kV doc pm cdv ct : Value} (l : K.lookup f = some ⟨oc, od, .func (PySem.W.fnOf x qual (defArgs st) (defBody st) (defScope st) .none kV doc pm an cdv ct), osl⟩)
    (c : PySem.W.codeIn K cdv qual = true) (k : PySem.W.keepIn K (.ref f) = true) : Fun K x qual st f (PySem.W.fnOf x qual (defArgs st) (defBody st) (defScope st) .none kV doc pm an cdv ct) := ⟨⟨oc, od, kV, doc, pm, an, cdv, ct, osl, rfl, l, c⟩, k⟩
end
/-! ### expressions in short: the name that stands in the i-th slot -/
section
variable {X : Cx}
theorem pv (i : Nat) {x : Str} {pos : Pos} (hN : X.N[i]? = some x := by rfl) (hv : Vis X.env.scope x := by first | exact Or.inl rfl | exact Or.inr (Or.inl rfl) | exact Or.inr (Or.inr rfl)) (hd : (x == ("__debug__" : Str)) = false := by decide)
    (hcd : (x == ("__classdict__" : Str)) = false := by decide) : PE X (.Name x pos) (tVar i) := pe_var hN hv hd hcd
end

/-! ### tests -/
theorem iteF {A B : Prop} (h : B) : if false = true then A else B := by
  rw [if_neg Bool.false_ne_true]
  exact h
theorem iteT {A B : Prop} (h : A) : if true = true then A else B := by
  rw [if_pos rfl]
  exact h
theorem ite2 {c A B : Prop} [Decidable c] (h1 : c → A) (h2 : ¬ c → B) : if c then A else B := by
  by_cases h : c
  · rw [if_pos h]
    exact h1 h
  · rw [if_neg h]
    exact h2 h
theorem iteNS {c A B : Prop} [Decidable c] (hc : c) (h : B) : if (!decide c) = true then A else B := by
  rw [decide_eq_true hc]
  exact iteF h

/-! ### heaps -/
def Same (H H' : Hp) : Prop := ∀ b o, H b = some o → H' b = some o
theorem Same.refl (H : Hp) : Same H H := fun _ _ h => h
theorem Same.trans {H H1 H2 : Hp} (a : Same H H1) (b : Same H1 H2) : Same H H2 := fun c o h => b c o (a c o h)
theorem Same.seq {K : PySem.W.Frag} {H H' : Hp} {a : Addr} {xs : List V} (e : Same H H') (h : SqL K H a xs) : SqL K H' a xs := by
  rcases h with (h | ⟨o, h⟩) | h
  · exact .inl (.inl (e _ _ h))
  · exact .inl (.inr ⟨o, e _ _ h⟩)
  · exact .inr h

end L2

set_option Elab.async false
set_option linter.all false
set_option maxRecDepth 100000
set_option maxHeartbeats 4000000
namespace L2
open PySem PySem.Spec PyProof.Rows
/-! texts as lists of codes -/
abbrev S (l : List Nat) : Str := ⟨⟨l⟩⟩
theorem S_len (l : List Nat) : (S l).length = l.length := rfl
theorem S_app (a b : List Nat) : S a ++ S b = S (a ++ b) := by
  refine PyProof.Rows.ext_toList ?_
  rw [PySem.W.KT.app_list]
theorem S_inj {a b : List Nat} (h : S a = S b) : a = b := congrArg (fun x : Str => x.cps.toList) h
def cutL {α : Type} (l : List α) (lo hi : Option Int) : List α := (l.drop (HT.sIx l.length 0 lo)).take (HT.sIx l.length l.length hi - HT.sIx l.length 0 lo)
theorem clipS (v : Int) (n : Nat) : max 0 (min (if v < 0 then v + (n : Int) else v) (n : Int)) = ((HT.sIx n 0 (some v) : Nat) : Int) := by
  show _ = (((if v < 0 then (v + (n : Int)).toNat else min v.toNat n) : Nat) : Int)
  by_cases hv : v < 0
  · simp only [if_pos hv]; omega
  · simp only [if_neg hv]; omega
theorem strIx_eq (lo hi : Option Int) (n : Nat) : Builtin.Str.strSliceIndices lo hi 1 n = (List.range (HT.sIx n n hi - HT.sIx n 0 lo)).map (HT.sIx n 0 lo + ·) := by
  rw [← sliceRange_one]
  unfold Builtin.Str.strSliceIndices
  simp only [show (1 : Int) > 0 by decide, if_true]
  cases lo with
  | none =>
    cases hi with
    | none => rfl
    | some v => dsimp only; rw [clipS]; rfl
  | some u =>
    cases hi with
    | none => dsimp only; rw [clipS]; rfl
    | some v => dsimp only; rw [clipS, clipS]; rfl
theorem slice_S (l : List Nat) (lo hi : Option Int) : Txt.slice (S l) lo hi = S (cutL l lo hi) := by
  unfold Txt.slice
  rw [strIx_eq, pick_run]
  split
  · rename_i h
    have e : (List.map (HT.sIx (S l).length 0 lo + ·) (List.range (HT.sIx (S l).length (S l).length hi - HT.sIx (S l).length 0 lo))).length = (S l).length := by
      simpa using h
    rw [List.length_map, List.length_range, S_len] at e
    have h1 : HT.sIx l.length l.length hi ≤ l.length := HT.sIx_le _ _ (Nat.le_refl _) _
    have h0 : HT.sIx l.length 0 lo ≤ l.length := HT.sIx_le _ _ (Nat.zero_le _) _
    have z : l.length = 0 ∨ HT.sIx l.length 0 lo = 0 := by omega
    unfold cutL
    rcases z with z | z
    · have : l = [] := List.length_eq_zero_iff.mp z
      subst this
      simp
    · rw [z, List.drop_zero, List.take_of_length_le (by omega)]
  · rfl
section
variable {X : Cx}
theorem sl_str : SlR X (fun x lo hi H Q => ∃ l, x = .str (S l) ∧ l.length ≤ sizeLine ∧ Q (.str (S (cutL l lo hi))) H) := by
  intro pins s σ H x v vl vu lo hi sl Q I rx hs pl pu h
  obtain ⟨l, rfl, hz, q⟩ := h
  obtain ⟨t, rfl⟩ := rx
  refine ⟨"str", _, F.slot_str_getitem.lookup, typeIs_str _ _ _, ?_⟩
  have fin : ∀ t' k, EP X pins σ Q (.str (Txt.slice (S l) lo hi) t') { s with toks := k } := fun t' k => ⟨.str (S (cutL l lo hi)), H, I.tok _, ⟨t', by rw [slice_S]⟩, q⟩
  have hz' : ∀ lo hi, (Txt.slice (S l) lo hi).length ≤ sizeLine := fun lo hi => Nat.le_trans (Txt.slice_le _ _ _) hz
  cases pl with
  | none =>
    cases pu with
    | none => exact wpAny_getItem_str_slice (l := none) (u := none) (st := none) hs rfl (post_val_or_str ⟨hz' _ _, fin⟩)
    | int j tj => exact wpAny_getItem_str_slice (l := none) (u := some (j, tj)) (st := none) hs rfl (post_val_or_str ⟨hz' _ _, fin⟩)
  | int i ti =>
    cases pu with
    | none => exact wpAny_getItem_str_slice (l := some (i, ti)) (u := none) (st := none) hs rfl (post_val_or_str ⟨hz' _ _, fin⟩)
    | int j tj => exact wpAny_getItem_str_slice (l := some (i, ti)) (u := some (j, tj)) (st := none) hs rfl (post_val_or_str ⟨hz' _ _, fin⟩)
theorem op_adS : OpR X (binaryOp .Add) (fun x y H Q => ∃ a b, x = .str (S a) ∧ y = .str (S b) ∧ a.length + b.length ≤ sizeLine ∧ Q (.str (S (a ++ b))) H) := by
  intro pins s σ H x y v u Q I rx ry h
  obtain ⟨a, b, rfl, rfl, hz, q⟩ := h
  exact op_add_str pins s σ H _ _ v u Q I rx ry ⟨S a, S b, rfl, rfl, hz, by rw [S_app]; exact q⟩
theorem call_lenS : CallR X (.builtin "len") (fun xs H Q => ∃ l, xs = [.str (S l)] ∧ l.length ≤ sizeLine ∧ Q (.int l.length) H) := by
  intro pins s σ H xs us Q I r h
  obtain ⟨l, rfl, hz, q⟩ := h
  exact call_len_str pins s σ H _ us Q I r ⟨S l, rfl, hz, q⟩
theorem ix_S : IxR X (fun x y H Q => ∃ l i c, x = .str (S l) ∧ y = .int i ∧ l.length ≤ sizeLine ∧ atI l i = some c ∧ Q (.str (S [c])) H) := by
  intro value slice pins s σ H x y v u Q I rx ry h hs
  obtain ⟨l, i, c, rfl, rfl, hz, he, q⟩ := h
  exact ix_str value slice pins s σ H _ _ v u Q I rx ry ⟨S l, i, c, rfl, rfl, hz, he, q⟩ hs
def clsV : V → Value
  | .ty n => .type n
  | .ref a => .ref a
  | _ => .none
theorem call_isi : CallR X (.builtin "isinstance") (fun xs H Q => ∃ x c t b, xs = [x, c] ∧ (∃ n, c = .ty n ∨ ∃ a, c = .ref a) ∧ TyOf X.K H x t ∧ PySem.W.kitOne X.K t (clsV c) = some b ∧ Q (.bl b) H) := by
  intro pins s σ H xs us Q I r h
  obtain ⟨x, c, t, b, rfl, hc, ty, e, q⟩ := h
  obtain ⟨u, w, rfl, ru, rw'⟩ := r.two
  have ew : w = clsV c := by
    obtain ⟨n, rfl | ⟨a, rfl⟩⟩ := hc
    · exact rw'
    · exact rw'
  subst ew
  exact isinst_ok I ru ty e fun tk => ⟨.bl b, H, I.tok _, rfl, q⟩
end
/-! an own def, bundled -/
structure Own (P : Program) (w : World) (K : PySem.W.Frag) (mg : Str → Option Value) (base : Heap) (CX : CXT) (k : Nat) (x : Str) (ps : List Str) (sp : Sp) : Prop where
  ex : ∃ f fd, FnOk P w K mg base CX k f fd ps sp ∧ Binds K fd ps [] ∧ PySem.W.keepIn K (.ref f) = true ∧ mg x = some (.ref f)
section
variable {X : Cx} {CX : CXT} {j k : Nat} {ps : List Str} {sp : Sp} {E : XK} {x : Str} {p pos : Pos} {e : Expr} {es : List Expr} {t : TA}
theorem pe_own (O : Own X.prog X.w X.K X.mg X.base CX j x ps sp) (hr : Room k X.A) (hg : Gl X x) (hx : Passes CX X E) (ha : PA X (e :: es) t) (hj : j ≤ k := by decide) (hdb : (x == ("__debug__" : Str)) = false := by decide)
    (he : starEach (e :: es) X.env = (false, eval e X.env) :: starEach es X.env := by rfl) (hpl : (backTo pos (starEach es X.env)).any (·.1) = false := by rfl) : PE X (.Call (.Name x p) (e :: es) [] pos) (tCall sp [] E t) := by
  obtain ⟨f, fd, F, b, kp, m⟩ := O.ex
  exact pe_call F (hr.mono hj) hg m kp b .nil hx ha hdb he hpl
end
theorem boot_isi : bootBuiltins "isinstance" = some (.builtin "isinstance") := by first | exact PySem.boot_isinstance | decide +kernel
theorem small {n : Nat} (h : n ≤ 1000000) : n ≤ sizeLine := by rw [PySem.sizeLine_eq]; omega
theorem boot_int : bootBuiltins "int" = some (.type "int") := by decide +kernel
theorem boot_bool : bootBuiltins "bool" = some (.type "bool") := by decide +kernel
theorem boot_str : bootBuiltins "str" = some (.type "str") := by decide +kernel
theorem boot_tuple : bootBuiltins "tuple" = some (.type "tuple") := by decide +kernel
theorem kit_ii {K : PySem.W.Frag} : PySem.W.kitOne K (.type "int") (.type "int") = some true := by rfl
theorem kit_ib {K : PySem.W.Frag} : PySem.W.kitOne K (.type "int") (.type "bool") = some false := by first | rfl | decide +kernel | (unfold PySem.W.kitOne; rfl)
theorem kit_tt {K : PySem.W.Frag} : PySem.W.kitOne K (.type "tuple") (.type "tuple") = some true := by rfl
theorem cutL_nn {α : Type} (l : List α) (k hi : Nat) : cutL l (some (k : Int)) (some (hi : Int)) = (l.drop k).take (hi - k) := by
  unfold cutL
  rw [HT.sIx_nat, HT.sIx_nat]
  by_cases h : k ≤ l.length
  · rw [Nat.min_eq_left h]
    by_cases h2 : hi ≤ l.length
    · rw [Nat.min_eq_left h2]
    · rw [Nat.min_eq_right (by omega), List.take_of_length_le (by simp), List.take_of_length_le (by simp; omega)]
  · rw [List.drop_eq_nil_of_le (by omega), List.drop_eq_nil_of_le (by omega)]
    simp
theorem cutL_n {α : Type} (l : List α) (k : Nat) : cutL l (some (k : Int)) none = l.drop k := by
  unfold cutL
  rw [HT.sIx_nat, HT.sIx_none]
  by_cases h : k ≤ l.length
  · rw [Nat.min_eq_left h, List.take_of_length_le (by simp)]
  · rw [List.drop_eq_nil_of_le (by omega), List.drop_eq_nil_of_le (by omega)]
    simp
theorem cutL_m {α : Type} (l : List α) (k : Nat) : cutL l none (some (k : Int)) = l.take k := by
  unfold cutL
  rw [HT.sIx_nat, HT.sIx_none, List.drop_zero, Nat.sub_zero]
  by_cases h : k ≤ l.length
  · rw [Nat.min_eq_left h]
  · rw [Nat.min_eq_right (by omega), List.take_of_length_le (by omega), List.take_of_length_le (by omega)]
theorem same_new {H : Hp} {p : Addr} (h : H p = none) (o : HO) : Same H (upd H p o) := fun b u q => by rw [upd_ne (ne_of_none q h)]; exact q
theorem iteDT {c A B : Prop} [Decidable c] (h : c) (x : A) : if decide c = true then A else B := by
  rw [decide_eq_true h]
  exact iteT x
theorem iteDF {c A B : Prop} [Decidable c] (h : ¬ c) (x : B) : if decide c = true then A else B := by
  rw [decide_eq_false h]
  exact iteF x
end L2

set_option Elab.async false
set_option linter.all false
set_option maxRecDepth 100000
set_option maxHeartbeats 4000000
namespace L2
open PySem PySem.Spec PyProof.Rows PySem.W PySem.Builtin.ObjectAttr PySem.Builtin.Getset_descriptor
/-! ## exceptions of own classes -/
section
variable {K : Frag} {e C : Addr} {M : Model} {h : Heap}
end
section
variable {X : Cx}
end
/-! ## how an exception lies behind a call: it flies; whatever is done to its own records, the rest stands -/
section
variable {X : Cx} {pins : List (Addr × Obj)} {σ : St} {H : Hp} {s : Shared}
end
section
variable {P : Program} {w : World} {K : Frag} {mg : Str → Option Value} {base : Heap} {N : List Str} {qual : Str} {scope : Scope} {f : Addr} {cd : Value} {A : Around} {outer : List Env} {s : Shared} {H : Hp} {E : XK}
end
/-! ## raise C(..) -/
section
variable {X : Cx} {x : Str} {C : Addr} {np cpos pos : Pos} {e0 : Expr} {t : TA} {E : XK}
end
/-! ## try: body; except M as n: suite -/
section
variable {X : Cx} {CX : CXT} {j k : Nat} {ps : List Str} {sp : Sp} {E : St → XK} {x : Str} {p pos : Pos} {e : Expr} {es : List Expr} {t : TA}
end
section
variable {X : Cx} {pins pins' : List (Addr × Obj)} {σ : St} {H : Hp} {s : Shared} {E : St → XK} {e : Addr}
end
section
variable {X : Cx} {pins : List (Addr × Obj)} {σ : St} {H H' : Hp} {s : Shared}
end
section
variable {X : Cx} {n x : Str} {i : Nat} {M : Addr} {body suite : List Stmt} {b₀ : Stmt} {np hpos pos : Pos} {tb : (St → XK) → TS} {ts : Addr → TS}
end
/-! ## a def that is called in an except suite -/
section
variable {P : Program} {w : World} {K : Frag} {mg : Str → Option Value} {base : Heap}
end
section
variable {X : Cx} {j k : Nat} {ps : List Str} {sp : Sp} {x : Str} {p pos : Pos} {e : Expr} {es : List Expr} {t : TA}
end
end L2

set_option Elab.async false
set_option linter.all false
set_option maxRecDepth 100000
set_option maxHeartbeats 4000000
namespace L2
open PySem PySem.Spec PyProof.Rows PySem.StrLaws
/-! ## texts: count, rfind of one sign; l * n -/
section
variable {X : Cx}
end
/-! ## == of two lists, of two tuples of flat values -/
def eqs : List V → List V → Bool
  | [], [] => true
  | x :: xs, y :: ys => eqV x y && eqs xs ys
  | _, _ => false
def eqAtJ (xs ys : List V) (j : Nat) : Bool := match xs[j]?, ys[j]? with
  | some x, some y => eqV x y
  | _, _ => false
theorem eqs_all : ∀ {xs ys : List V}, xs.length = ys.length → (List.range xs.length).all (eqAtJ xs ys) = eqs xs ys
  | [], [], _ => rfl
  | [], _ :: _, h => by cases h
  | _ :: _, [], h => by cases h
  | x :: xs, y :: ys, h => by
    have ih := eqs_all (xs := xs) (ys := ys) (Nat.succ.inj h)
    rw [List.length_cons, List.range_succ_eq_map, List.all_cons, List.all_map]
    unfold eqs
    rw [← ih]
    rfl
theorem Vals.at {xs : List V} {us : List Value} (r : Vals xs us) {j : Nat} (h : j < us.toArray.size) : ∃ x, xs[j]? = some x ∧ RelV x us.toArray[j] := by
  have hj : j < us.length := by simpa using h
  have hx : j < xs.length := by rw [r.length]; exact hj
  obtain ⟨u, hu, ru⟩ := r.get (List.getElem?_eq_getElem hx)
  refine ⟨xs[j], List.getElem?_eq_getElem hx, ?_⟩
  rw [List.getElem?_eq_getElem hj] at hu
  cases hu
  simpa using ru
theorem flat_at {xs : List V} (h : xs.all flatV = true) {j : Nat} {x : V} (e : xs[j]? = some x) : flatV x = true := List.all_eq_true.mp h x (List.mem_of_getElem? e)
section
variable {X : Cx}
end
end L2

set_option Elab.async false
set_option linter.all false
set_option maxRecDepth 100000
set_option maxHeartbeats 4000000
namespace L2
open PySem PySem.Spec PyProof.Rows PySem.StrLaws
/-! ## != of lists and tuples; == of lists of the same references -/
section
variable {X : Cx}
theorem all_true (n : Nat) : (List.range n).all (fun _ => true) = true := by simp
end
/-! ## split('\n') -/
section
variable {X : Cx}
end
/-! ## the rows of a text, by their begins and ends -/
theorem boot_min : bootBuiltins "min" = some (.builtin "min") := by decide +kernel
theorem same_upd {H H' : Hp} {p : Addr} {o : HO} (h : Same H H') (n : H p = none) : Same H (upd H' p o) := fun b u q => by
  rw [upd_ne (ne_of_none q n)]
  exact h b u q
end L2

set_option Elab.async false
set_option linter.all false
set_option maxRecDepth 100000
set_option maxHeartbeats 4000000
namespace L2
open PySem PySem.Spec PyProof.Rows
/-! ### comprehensions: the block runs in a context of its own -/
section
variable {X : Cx} {scope : Scope} {cl : List (Str × Addr)} {NB : List Str} {ix : List (Option Nat)} {fp : List Addr} {pins : List (Addr × Obj)} {σ : St} {H : Hp} {s : Shared}
/-! ### reversed(list) -/
end
end L2

set_option Elab.async false
set_option linter.all false
set_option maxRecDepth 100000
set_option maxHeartbeats 4000000
namespace L2
open PySem PySem.Spec PyProof.Rows PySem.StrLaws
/-! ## texts: ''.join, in, <= -/
section
variable {X : Cx}
theorem found_S (l : List Nat) (c : Nat) : (!(Builtin.Str.occurrences (S l) (S [c]) 0 (S l).length 1).isEmpty) = decide (c ∈ l) := by
  rw [Bool.eq_iff_iff, found_iff, decide_eq_true_iff]
  constructor
  · rintro ⟨i, h⟩
    exact List.mem_of_getElem? ((subAt_one (S l) c i).mp h)
  · intro h
    obtain ⟨i, hi⟩ := List.mem_iff_getElem?.mp h
    exact ⟨i, (subAt_one (S l) c i).mpr hi⟩
theorem op_in1 : OpR X (compareOp .In) (fun x y H Q => ∃ (c : Nat) (l : List Nat), x = .str (S [c]) ∧ y = .str (S l) ∧ Q (.bl (decide (c ∈ l))) H) := by
  intro pins s σ H x y v u Q I rx ry h
  obtain ⟨c, l, rfl, rfl, q⟩ := h
  exact op_in_str pins s σ H _ _ v u Q I rx ry ⟨S [c], S l, rfl, rfl, by rw [found_S]; exact q⟩
end
end L2

set_option Elab.async false
set_option linter.all false
set_option maxRecDepth 100000
set_option maxHeartbeats 4000000
namespace L2
open PySem PySem.Spec PyProof.Rows
/-! ### name = comprehension -/
section
variable {X : Cx} {scope : Scope} {cl : List (Str × Addr)} {NB : List Str} {ix : List (Option Nat)} {fp : List Addr} {pins : List (Addr × Obj)} {σ : St} {H : Hp} {s : Shared}
theorem turn_N {Pv : St → Hp → Prop} {μ : St → Hp → Nat} {σ : St} {H : Hp} : ∀ σ' H', (Pv σ' H' ∧ μ σ' H' < μ σ H) → ∃ m', m' < μ σ H ∧ m' = μ σ' H' ∧ Pv σ' H' := fun _ _ h => ⟨_, h.2, rfl, h.1⟩
theorem while_in {c : TT} {tb : TS} {D : Ends} {σ : St} {H : Hp} (Pv : St → Hp → Prop) (μ : St → Hp → Nat) (h0 : Pv σ H)
    (hs : ∀ σ H, Pv σ H → c σ H fun b H1 => if b = true then ∃ N : St → Hp → Prop, (∀ σ' H', N σ' H' → ∃ m', m' < μ σ H ∧ m' = μ σ' H' ∧ Pv σ' H') ∧ tb { D with nx := N, ct := N, bk := D.nx } σ H1 else D.nx σ H1) : tWhile c tb D σ H := by
  refine ⟨fun m σ H => m = μ σ H ∧ Pv σ H, ⟨_, rfl, h0⟩, ?_⟩
  rintro m σ H ⟨rfl, p⟩
  exact hs σ H p
theorem gname_go {i : Nat} {v : V} {σ : St} {H : Hp} {Q : St → Hp → Prop} (h : Q (σ.set i (some v)) H) : gName i v σ H Q := h
theorem seq_at {t u : TS} {D : Ends} {σ : St} {H : Hp} {r : VK} {b c : St → Hp → Prop} (h : tSeq t u D σ H) : ({ nx := tSeq t u D, rt := r, bk := b, ct := c } : Ends).nx σ H := h
theorem seq_to {t u : TS} {D : Ends} {σ : St} {H : Hp} (Out : St → Hp → Prop) (hs : ∀ nx : St → Hp → Prop, (∀ σ H, Out σ H → nx σ H) → t { D with nx := nx } σ H) (fin : ∀ σ H, Out σ H → u D σ H) : tSeq t u D σ H := hs _ fin
end
end L2

set_option Elab.async false
set_option linter.all false
set_option maxRecDepth 100000
set_option maxHeartbeats 4000000
namespace L2
open PySem PySem.Spec PyProof.Rows PySem.StrLaws
section
variable {X : Cx}
end
def optV : Option Nat → V
  | none => .non
  | some n => .int (n : Int)
end L2

set_option Elab.async false
set_option linter.all false
set_option maxRecDepth 100000
set_option maxHeartbeats 4000000
namespace L2
open PySem PySem.Spec PyProof.Rows
/-! ## range with a step; list(range(..)) -/
section
variable {X : Cx} {tg : Expr}
/-! a comprehension over a range -/
/-! the range as an object -/
end
end L2

set_option Elab.async false
set_option linter.all false
set_option maxRecDepth 100000
set_option maxHeartbeats 4000000
namespace L2
/-! ## brackets of one kind: the walk and the heap -/
/-! ## the three kinds -/
end L2

set_option Elab.async false
set_option linter.all false
set_option maxRecDepth 100000
set_option maxHeartbeats 4000000
namespace L2
open PySem PySem.Spec PyProof.Rows
/-! ### lists of pairs as tables -/
section
variable {κ : Type} [DecidableEq κ]
end


/-! ### a tracked dict, its keys ints and texts or tuples of these -/
section
variable {P : Program} {w : World} {H : Hp} {h : Heap} {a : Addr}
end

section
variable {X : Cx} {pins : List (Addr × Obj)} {σ : St} {H : Hp} {s : Shared} {a : Addr} {y v : V} {u r : Value} {o : Option V} {A : Around} {E : Value → Shared → Prop}

end

section
variable {X : Cx} {pins : List (Addr × Obj)} {σ : St} {H : Hp} {s : Shared} {a : Addr} {kvs : List (Key × V)} {k : Key} {u : Value} {A : Around} {E : Value → Shared → Prop}
end


/-! ### readings and rules -/
def NoSl (i : Expr) : Prop := ∀ ov iv, subscripted i false ov iv = operate [ov, iv] (getItem ov iv)
theorem subD_of {prog : Program} {w : World} {A : Around} {E : Value → Shared → Prop} {s : Shared} {env : Env} {value slice : Expr} {pos : Pos} {T id : String} {Q : Value → Shared → Prop}
    (hl : typeLookup (.type T) "__getitem__" = pure (some (.builtin id))) (hs : NoSl slice)
    (h : wpAny (model prog w) A (eval value env) (fun o s₁ => wpAny (model prog w) A (eval slice env) (fun i s₂ => s₂.TypeIs o T ∧ wpAny (model prog w) A (getItem o i) Q E s₂) E s₁) E s) :
    wpAny (model prog w) A (eval (.Subscript value slice pos) env) Q E s := by
  refine Subscript_ (wpAny_mono h (fun o s₁ h₁ => wpAny_mono h₁ (fun i s₂ h₂ => ?_) fun _ _ x => x) fun _ _ x => x)
  obtain ⟨hT, h₂⟩ := h₂
  unfold subscriptTail
  refine wpAny_bind ?_
  rw [getitemInPython_of_ne hT.not_modules]
  refine wpAny_bind (wpAny_specialOf hT hl ?_)
  have fin : wpAny (model prog w) A (subscripted slice false o i) (fun r s₃ => wpAny (model prog w) A (letTemporaryGo value o r >>= fun _ => pure r) Q E s₃) E s₂ := by
    rw [hs o i]
    exact wpAny_operating (wpAny_mono h₂ (fun r s₃ h₃ => wpAny_bind (wpAny_letTemporaryGo (wpAny_pure h₃))) fun _ _ x => x)
  first
    | exact wpAny_pure (wpAny_bind fin)
    | exact wpAny_bind (wpAny_pure (wpAny_bind fin))
    | exact wpAny_bind fin

section
variable {X : Cx} {o i e value : Expr} {pos pos' tpos : Pos} {td ty tv : TE}
end


/-! ### displays -/
section
variable {X : Cx} {pos : Pos}
end

/-! ### methods -/
section
variable {X : Cx} {pins : List (Addr × Obj)} {σ : St} {H : Hp} {s : Shared} {a : Addr} {y d : V} {u r : Value} {o : Option V} {A : Around} {E : Value → Shared → Prop}
end

section
variable {X : Cx} {o e f : Expr} {apos cpos : Pos} {td ty tx : TE}
end

/-! ### dict(d): a copy -/
section
variable {X : Cx} {pins : List (Addr × Obj)} {σ : St} {H : Hp} {s : Shared} {a : Addr} {kvs : List (Key × V)} {A : Around} {E : Value → Shared → Prop}
end


section
variable {X : Cx} {pins : List (Addr × Obj)} {σ : St} {H : Hp} {s : Shared} {a : Addr} {y : V} {u : Value} {A : Around} {E : Value → Shared → Prop}
end
section
variable {X : Cx}
end
end L2

set_option Elab.async false
set_option linter.all false
set_option maxRecDepth 100000
set_option maxHeartbeats 4000000
namespace L2
open PySem PySem.Spec PyProof.Rows
theorem Room.u1 {k : Nat} {A : Around} (r : Room k A) : A.units + 1 < cLine := by have := r.units; omega
/-! ## defs with defaults -/
section
variable {P : Program} {w : World} {K : PySem.W.Frag} {mg : Str → Option Value} {base : Heap}
end
section
variable {X : Cx} {CX : CXT} {j k : Nat} {ps : List Str} {sp : Sp} {dvs : List V} {E : XK} {x : Str} {p pos : Pos} {e : Expr} {es : List Expr} {t : TA}
end
/-! ## a call of what an expression tells -/
section
variable {X : Cx} {CX : CXT} {k : Nat} {E : XK} {func e : Expr} {es : List Expr} {pos : Pos} {tf : TE} {t : TA}
end
/-! ## a dict of the module: texts to objects -/
section
variable {prog : Program} {w : World} {K : PySem.W.Frag} {a : Addr} {ps : List (List Nat × Tok × Addr)}
end
section
variable {X : Cx} {o i : Expr} {td ty : TE} {pos : Pos}
end
end L2

set_option Elab.async false
set_option linter.all false
set_option maxRecDepth 100000
set_option maxHeartbeats 4000000
namespace L2
open PySem PySem.Spec PyProof.Rows PySem.StrLaws
/-! ## own classes: a method, a new instance -/
structure OwnM (P : Program) (w : World) (K : PySem.W.Frag) (mg : Str → Option Value) (base : Heap) (CX : CXT) (k : Nat) (C : Addr) (m : Str) (ps : List Str) (sp : Sp) : Prop where
  ex : ∃ f fd, Cls K C ∧ Meth K C m f ∧ FnOk P w K mg base CX k f fd ps sp ∧ Binds K fd ps []
structure OwnMk (P : Program) (w : World) (K : PySem.W.Frag) (mg : Str → Option Value) (base : Heap) (CX : CXT) (k : Nat) (C : Addr) (x : Str) (ps : List Str) (sp : Sp) : Prop where
  ex : ∃ f fd, Mk K C f ∧ FnOk P w K mg base CX k f fd ps sp ∧ Binds K fd ps [] ∧ mg x = some (.ref C)
section
variable {X : Cx} {CX : CXT} {j k : Nat} {C : Addr} {ps : List Str} {sp : Sp} {E : XK} {x m : Str} {p pos apos : Pos} {e o : Expr} {es : List Expr} {ta : TE} {t : TA}
theorem pe_ownM {pl : Sem Bool} (O : OwnM X.prog X.w X.K X.mg X.base CX j C m ps sp) (hr : Room k X.A) (he : PE X o ta) (hx : Passes CX X E) (ha : PA X (e :: es) t) (hj : j ≤ k := by decide)
    (hst : starEach (e :: es) X.env = (false, eval e X.env) :: starEach es X.env := by rfl) (hpl : (backTo pos (starEach es X.env)).any (·.1) = false := by rfl)
    (ht : eval (.Call (.Attribute o m apos) (e :: es) [] pos) X.env = (do
      let ov ← eval o X.env
      standAt apos.atName
      let (f, first) ← holding [ov] (getMethod ov m pl)
      callWith pos f first (backTo pos (starEach (e :: es) X.env)) (backToKw pos (keywordEach [] X.env))) := by rfl) :
    PE X (.Call (.Attribute o m apos) (e :: es) [] pos) (tMeth C m sp [] E ta t) := by
  obtain ⟨f, fd, c, hm, F, b⟩ := O.ex
  exact pe_meth he c hm F (hr.mono hj) b .nil hx ha hst hpl ht
theorem pe_ownMk (O : OwnMk X.prog X.w X.K X.mg X.base CX j C x ps sp) (hr : Room k X.A) (hg : Gl X x) (hx : Passes CX X E) (ha : PA X (e :: es) t) (hj : j + 1 ≤ k := by decide) (hdb : (x == ("__debug__" : Str)) = false := by decide)
    (he : starEach (e :: es) X.env = (false, eval e X.env) :: starEach es X.env := by rfl) (hpl : (backTo pos (starEach es X.env)).any (·.1) = false := by rfl) : PE X (.Call (.Name x p) (e :: es) [] pos) (tMake C sp [] E t) := by
  obtain ⟨f, fd, M, F, b, hm⟩ := O.ex
  exact pe_make M F (hr.mono hj) hg hm b .nil hx ha hdb he hpl
end
def Upto (p : Addr) (H H' : Hp) : Prop := ∀ a u, a ≠ p → H a = some u → H' a = some u
theorem Upto.refl (p : Addr) (H : Hp) : Upto p H H := fun _ _ _ h => h
theorem Upto.trans {p : Addr} {H1 H2 H3 : Hp} (h : Upto p H1 H2) (g : Upto p H2 H3) : Upto p H1 H3 := fun a u n e => g a u n (h a u n e)
theorem Same.upto {H H' : Hp} (h : Same H H') (p : Addr) : Upto p H H' := fun a u _ e => h a u e
theorem upto_upd (p : Addr) (H : Hp) (o : HO) : Upto p H (upd H p o) := fun a u n e => by rw [upd_ne n]; exact e
end L2

set_option Elab.async false
set_option linter.all false
set_option maxRecDepth 100000
set_option maxHeartbeats 4000000
namespace L2
open PySem PySem.Spec PyProof.Rows PySem.StrLaws
/-! ## a dict of the module: texts to texts -/
abbrev EntS := List Nat × Tok × List Nat × Tok
def entsS (w : World) (ps : List EntS) : List DictEntry := ps.map fun p => { hash := PyData.keyHash w.params (S p.1), key := .str (S p.1) p.2.1, val := .str (S p.2.2.1) p.2.2.2 }
structure KDictS (K : PySem.W.Frag) (w : World) (a : Addr) (ps : List EntS) : Prop where
  at_ : ∃ ep, K.lookup a = some { cls := .type "dict", dict := none, data := .dict (entsS w ps).toArray ep, slots := #[] }
  sys : (a == sysModules) = false
def sAt : List EntS → List Nat → Option (List Nat × Tok)
  | [], _ => none
  | (k, _, v) :: r, x => if k = x then some v else sAt r x
section
variable {prog : Program} {w : World} {K : PySem.W.Frag} {a : Addr} {ps : List EntS}
theorem entsS_keys : KeysOf (strKind prog w) (entsS w ps).toArray := by
  intro e he
  have he' : e ∈ entsS w ps := by simpa using he
  obtain ⟨p, _, rfl⟩ := List.mem_map.mp he'
  exact ⟨S p.1, by show (S p.1 == S p.1) = true; simp, rfl⟩
theorem entsS_find (x : List Nat) : findBy (strKind prog w).is (entsS w ps).toArray (S x) = (sAt ps x).map fun v => Value.str (S v.1) v.2 := by
  unfold findBy
  induction ps with
  | nil => rfl
  | cons p r ih =>
    obtain ⟨k, t, v⟩ := p
    have e : (entsS w ((k, t, v) :: r)).toArray.find? (fun e => (strKind prog w).is (S x) e.key) = if (S k == S x) = true then some { hash := PyData.keyHash w.params (S k), key := .str (S k) t, val := .str (S v.1) v.2 } else (entsS w r).toArray.find? (fun e => (strKind prog w).is (S x) e.key) := by
      rw [← Array.find?_toList, ← Array.find?_toList]
      show List.find? _ (_ :: entsS w r) = _
      rw [List.find?_cons]
      show (match (S k == S x) with | true => _ | false => _) = _
      cases (S k == S x) <;> rfl
    rw [e]
    unfold sAt
    by_cases h : k = x
    · subst h
      rw [if_pos (by simp), if_pos rfl]
      rfl
    · have h' : ¬ S k = S x := fun z => h (S_inj z)
      rw [if_neg (by simpa using h'), if_neg h]
      exact ih
theorem KDictS.map (D : KDictS K w a ps) {h : Heap} (X : K.In h) : h.MapOf (strKind prog w) a (fun x => findBy (strKind prog w).is (entsS w ps).toArray x) := by
  obtain ⟨ep, e⟩ := D.at_
  exact ⟨_, _, ep, X _ _ e, ⟨rfl, rfl, rfl⟩, rfl, entsS_keys, fun _ => rfl⟩
end
def tSGet (K : PySem.W.Frag) (w : World) (td ty : TE) : TE := fun σ H Q => td σ H fun x H1 => ty σ H1 fun y H2 => ∃ a ps l v, x = .ref a ∧ KDictS K w a ps ∧ y = .str (S l) ∧ sAt ps l = some v ∧ Q (.str (S v.1)) H2
section
variable {X : Cx} {o i f : Expr} {td ty tx : TE} {pos apos cpos : Pos}
theorem pe_sget (ho : PE X o td) (hi : PE X i ty) (hs : NoSl i) : PE X (.Subscript o i pos) (tSGet X.K X.w td ty) := by
  intro pins s σ H Q I h
  refine subD_of PySem.F.slot_dict_getitem.lookup hs (thn (ho pins s σ H _ I h) fun u s1 ⟨x, H1, I1, rx, q1⟩ => thn (hi pins s1 σ H1 _ I1 q1) fun iv s2 ⟨y, H2, I2, ry, a, ps, l, v, ex, D, ey, hv, q2⟩ => ?_)
  subst ex ey
  obtain rfl : u = Value.ref a := rx
  obtain ⟨t, rfl⟩ := ry
  have M := D.map (prog := X.prog) I2.kIn
  refine ⟨M.typeIs, wpAny_getItem_of (k := S l) (v := .str (S v.1) v.2) (by show (S l == S l) = true; simp) M (by rw [entsS_find, hv]; rfl) ⟨.str (S v.1), H2, I2.tok _, ⟨_, rfl⟩, q2⟩⟩
end
end L2

set_option Elab.async false
set_option linter.all false
set_option maxRecDepth 100000
set_option maxHeartbeats 4000000
namespace L2
/-! ## the row of a place -/
end L2
namespace L2
end L2

set_option Elab.async false
set_option linter.all false
set_option maxRecDepth 100000
set_option maxHeartbeats 4000000
namespace L2
open PySem
theorem eqS (a b : Nat) : eqV (.str (S [a])) (.str (S [b])) = decide (a = b) := by
  by_cases h : a = b
  · subst h
    rw [decide_eq_true rfl]
    show (S [a] == S [a]) = true
    simp
  · rw [decide_eq_false h]
    show (S [a] == S [b]) = false
    have h' : ¬ S [a] = S [b] := fun z => h (List.cons.inj (S_inj z)).1
    simpa using h'
/-! ## the first one from a on, the last one ahead of a -/
/-! ## the moves -/
def nV (n : Nat) : V := .int (n : Int)
end L2

set_option Elab.async false
set_option linter.all false
set_option maxRecDepth 100000
set_option maxHeartbeats 4000000
namespace L2
open PySem PySem.Spec PyProof.Rows
/-! ## comprehensions that take names from around -/
section
variable {X : Cx} {scope sc : Scope} {NB NN : List Str} {ix : List (Option Nat)} {pins : List (Addr × Obj)} {σ : St} {H : Hp} {s : Shared}
end
end L2

set_option Elab.async false
set_option linter.all false
set_option maxRecDepth 100000
set_option maxHeartbeats 4000000
namespace L2
open PySem PySem.Spec PyProof.Rows
/-! ## sum, max, min of a list of whole numbers; for over a text -/
section
variable {X : Cx} {tg : Expr}
/-! the signs of a text, one by one -/
end
end L2

set_option Elab.async false
set_option linter.all false
set_option maxRecDepth 100000
set_option maxHeartbeats 4000000
namespace L2
open PySem PySem.Spec PyProof.Rows
/-! comprehensions that keep what a test lets by -/
/-! the first and the last of a list of places -/
def strC : Expr → Option Str
  | .Constant (.str x) _ _ => some x
  | _ => none
theorem pa_strs {X : Cx} : ∀ {es : List Expr} {vs : List Str}, es.map strC = vs.map some → PA X es (fun _ H Q => Q (vs.map V.str) H)
  | [], [], _ => pa_nil
  | [], _ :: _, h => by cases h
  | _ :: _, [], h => by cases h
  | e :: es, v :: vs, h => by
    rw [List.map_cons, List.map_cons] at h
    obtain ⟨h1, h2⟩ := List.cons.inj h
    have he : ∃ j pos, e = .Constant (.str v) j pos := by
      unfold strC at h1
      split at h1
      · cases h1; exact ⟨_, _, rfl⟩
      · cases h1
    obtain ⟨j, pos, rfl⟩ := he
    exact pa_cons pe_str (pa_strs h2) rfl
theorem pe_lstS {X : Cx} {es : List Expr} {vs : List Str} {pos : Pos} (h : es.map strC = vs.map some) : PE X (.List es pos) (tLst (fun _ H Q => Q (vs.map V.str) H)) := pe_lst (pa_strs h)
theorem neS {a b : Nat} (h : a ≠ b) : ¬ V.str (S [a]) = V.str (S [b]) := fun z => h (List.cons.inj (S_inj (V.str.inj z))).1
theorem iteNF {c A B : Prop} [Decidable c] (hc : ¬ c) (h : A) : if (!decide c) = true then A else B := by
  rw [decide_eq_false hc]
  exact iteT h
end L2

set_option Elab.async false
set_option linter.all false
set_option maxRecDepth 100000
set_option maxHeartbeats 4000000
namespace L2
open PySem PySem.Spec PyProof.Rows PySem.StrLaws
open Sem (wp)
/-! ## int of a text of one to three figures -/
theorem noInt : typeLookup (.type "str") "__int__" = pure none := by kernel_rfl
theorem noIndex : typeLookup (.type "str") "__index__" = pure none := by kernel_rfl
theorem noTrunc : typeLookup (.type "str") "__trunc__" = pure none := by kernel_rfl
def Dg (c : Nat) : Prop := 48 ≤ c ∧ c ≤ 57
theorem Dg.or {c : Nat} (h : Dg c) : c = 48 ∨ c = 49 ∨ c = 50 ∨ c = 51 ∨ c = 52 ∨ c = 53 ∨ c = 54 ∨ c = 55 ∨ c = 56 ∨ c = 57 := by
  obtain ⟨h1, h2⟩ := h
  omega
theorem meets_int_1 (a : Nat) (u : Tok) (ha : Dg a) : Meets (Builtin.«int.__new__» ⟨[.type "int", .str ⟨#[a]⟩ u], []⟩) (Made.int ((a - 48 : Nat) : Int)).spec :=
  Meets.of_wp fun prog w A R s hs => by
    obtain ⟨hp, g, d, tk, os⟩ := s
    have f1 := F.conv_sub_int
    have f2 := F.madeHere_int
    have f3 := noInt
    have f4 := noIndex
    have f5 := noTrunc
    have hT : (⟨hp, g, d, tk, os⟩ : Shared).TypeIs (.str ⟨#[a]⟩ u) "str" := rfl
    repeat (any_goals (first | assumption | wp_step))
    clear f1 f2 f3 f4 f5 hT
    refine Eq.mpr (congrArg (fun m => wpAny _ _ m _ _ _) (?e : _ = mkInt ((a - 48 : Nat) : Int))) ?w
    case w =>
      refine wpAny_mkInt ?_
      repeat (any_goals (first | assumption | wp_step))
      exact ⟨_, rfl, hs⟩
    clear hs
    rcases ha.or with rfl | rfl | rfl | rfl | rfl | rfl | rfl | rfl | rfl | rfl
    all_goals kernel_rfl
theorem meets_int_2 (a b : Nat) (u : Tok) (ha : Dg a) (hb : Dg b) : Meets (Builtin.«int.__new__» ⟨[.type "int", .str ⟨#[a, b]⟩ u], []⟩) (Made.int (((a - 48) * 10 + (b - 48) : Nat) : Int)).spec :=
  Meets.of_wp fun prog w A R s hs => by
    obtain ⟨hp, g, d, tk, os⟩ := s
    have f1 := F.conv_sub_int
    have f2 := F.madeHere_int
    have f3 := noInt
    have f4 := noIndex
    have f5 := noTrunc
    have hT : (⟨hp, g, d, tk, os⟩ : Shared).TypeIs (.str ⟨#[a, b]⟩ u) "str" := rfl
    repeat (any_goals (first | assumption | wp_step))
    clear f1 f2 f3 f4 f5 hT
    refine Eq.mpr (congrArg (fun m => wpAny _ _ m _ _ _) (?e : _ = mkInt (((a - 48) * 10 + (b - 48) : Nat) : Int))) ?w
    case w =>
      refine wpAny_mkInt ?_
      repeat (any_goals (first | assumption | wp_step))
      exact ⟨_, rfl, hs⟩
    clear hs
    rcases ha.or with rfl | rfl | rfl | rfl | rfl | rfl | rfl | rfl | rfl | rfl <;> rcases hb.or with rfl | rfl | rfl | rfl | rfl | rfl | rfl | rfl | rfl | rfl
    all_goals kernel_rfl
theorem meets_int_3 (a b c : Nat) (u : Tok) (ha : Dg a) (hb : Dg b) (hc : Dg c) : Meets (Builtin.«int.__new__» ⟨[.type "int", .str ⟨#[a, b, c]⟩ u], []⟩) (Made.int (((a - 48) * 100 + (b - 48) * 10 + (c - 48) : Nat) : Int)).spec :=
  Meets.of_wp fun prog w A R s hs => by
    obtain ⟨hp, g, d, tk, os⟩ := s
    have f1 := F.conv_sub_int
    have f2 := F.madeHere_int
    have f3 := noInt
    have f4 := noIndex
    have f5 := noTrunc
    have hT : (⟨hp, g, d, tk, os⟩ : Shared).TypeIs (.str ⟨#[a, b, c]⟩ u) "str" := rfl
    repeat (any_goals (first | assumption | wp_step))
    clear f1 f2 f3 f4 f5 hT
    refine Eq.mpr (congrArg (fun m => wpAny _ _ m _ _ _) (?e : _ = mkInt (((a - 48) * 100 + (b - 48) * 10 + (c - 48) : Nat) : Int))) ?w
    case w =>
      refine wpAny_mkInt ?_
      repeat (any_goals (first | assumption | wp_step))
      exact ⟨_, rfl, hs⟩
    clear hs
    rcases ha.or with rfl | rfl | rfl | rfl | rfl | rfl | rfl | rfl | rfl | rfl <;> rcases hb.or with rfl | rfl | rfl | rfl | rfl | rfl | rfl | rfl | rfl | rfl <;> rcases hc.or with rfl | rfl | rfl | rfl | rfl | rfl | rfl | rfl | rfl | rfl
    all_goals kernel_rfl
end L2

set_option Elab.async false
set_option linter.all false
set_option maxRecDepth 100000
set_option maxHeartbeats 4000000
namespace L2
open PySem PySem.Spec PyProof.Rows PySem.StrLaws
def numL (l : List Nat) : Nat := l.foldl (fun n c => n * 10 + (c - 48)) 0
section
variable {X : Cx}
theorem call_intS : CallR X (.type "int") (fun xs H Q => ∃ l : List Nat, xs = [.str (S l)] ∧ 1 ≤ l.length ∧ l.length ≤ 3 ∧ (∀ c ∈ l, Dg c) ∧ Q (.int ((numL l : Nat) : Int)) H) := by
  intro pins s σ H xs us Q I r h
  obtain ⟨l, rfl, h1, h3, hd, q⟩ := h
  obtain ⟨u, rfl, t, rfl⟩ := r.one
  match l, h1, h3, hd, q with
  | [a], _, _, hd, q =>
    have m := meets_int_1 a t (hd a (by simp))
    rw [show a - 48 = numL [a] by show _ = 0 * 10 + (a - 48); omega] at m
    exact call_int_1 m (show (Made.int ((numL [a] : Nat) : Int)).post _ s from ⟨rfl, .int ((numL [a] : Nat) : Int), H, I.tok _, ⟨_, rfl⟩, q⟩)
  | [a, b], _, _, hd, q =>
    have m := meets_int_2 a b t (hd a (by simp)) (hd b (by simp))
    rw [show (a - 48) * 10 + (b - 48) = numL [a, b] by show _ = (0 * 10 + (a - 48)) * 10 + (b - 48); omega] at m
    exact call_int_1 m (show (Made.int ((numL [a, b] : Nat) : Int)).post _ s from ⟨rfl, .int ((numL [a, b] : Nat) : Int), H, I.tok _, ⟨_, rfl⟩, q⟩)
  | [a, b, c], _, _, hd, q =>
    have m := meets_int_3 a b c t (hd a (by simp)) (hd b (by simp)) (hd c (by simp))
    rw [show (a - 48) * 100 + (b - 48) * 10 + (c - 48) = numL [a, b, c] by show _ = ((0 * 10 + (a - 48)) * 10 + (b - 48)) * 10 + (c - 48); omega] at m
    exact call_int_1 m (show (Made.int ((numL [a, b, c] : Nat) : Int)).post _ s from ⟨rfl, .int ((numL [a, b, c] : Nat) : Int), H, I.tok _, ⟨_, rfl⟩, q⟩)
end
end L2

set_option Elab.async false
set_option linter.all false
set_option maxRecDepth 100000
set_option maxHeartbeats 4000000
namespace L2
open PySem PySem.Spec PyProof.Rows
/-! dict(d), == and != of dicts with the same pairs -/
section
variable {X : Cx}
theorem eqV_self {x : V} (h : flatV x = true) : eqV x x = true := by
  cases x with
  | non => rfl
  | bl b => show (b == b) = true; simp
  | int i => show (i == i) = true; simp
  | str y => show (y == y) = true; simp
  | byt _ => cases h
  | flt _ => cases h
  | ref _ => cases h
  | ty _ => cases h
end
end L2

set_option Elab.async false
set_option linter.all false
set_option maxRecDepth 100000
set_option maxHeartbeats 4000000
namespace L2
open PySem PySem.Spec PyProof.Rows PySem.StrLaws
/-! ## lists of tuples: == of two whose tuples hold the same -/
section
variable {X : Cx}
theorem eqs_self {xs : List V} (h : xs.all flatV = true) (e : ∀ x ∈ xs, eqV x x = true) : eqs xs xs = true := by
  induction xs with
  | nil => rfl
  | cons x xs ih =>
    unfold eqs
    rw [e x (List.mem_cons_self ..), Bool.true_and]
    refine ih ?_ (fun y hy => e y (List.mem_cons_of_mem _ hy))
    rw [List.all_cons, Bool.and_eq_true] at h
    exact h.2
end
theorem op_fdivB {X : Cx} : OpR X (binaryOp .FloorDiv) (rI (fun _ j => 0 < j ∧ j.natAbs.log2 < 9000) fun i j => .int (i / j)) := opI fun i j _ _ _ _ _ hc q => by
  have h1 : (0 : Int) < j := hc.1
  exact floordiv_int (by omega) (by rw [Int.fdiv_eq_ediv_of_nonneg i (by omega)]; exact q) (.inl (PyProof.noPylong_of_log2 hc.2))
/-! ## a list of pairs of numbers -/
end L2

set_option Elab.async false
set_option linter.all false
set_option maxRecDepth 100000
set_option maxHeartbeats 4000000
namespace L2
open PySem PySem.Spec PyProof.Rows PySem.StrLaws
theorem call_intB {X : Cx} : CallR X (.type "int") (fun xs H Q => ∃ b : Bool, xs = [.bl b] ∧ Q (.int (if b = true then 1 else 0)) H) := by
  intro pins s σ H xs us Q I r h
  obtain ⟨b, rfl, q⟩ := h
  obtain ⟨u, rfl, rx⟩ := vals1 r
  cases rx
  exact call_int_bool ⟨.int _, H, I.tok _, ⟨_, rfl⟩, q⟩
end L2

set_option Elab.async false
set_option linter.all false
set_option maxRecDepth 100000
set_option maxHeartbeats 4000000
namespace L2
open PySem PySem.Spec PyProof.Rows PySem.StrLaws
/-! comprehensions with any target: a tuple of names -/
section
variable {X : Cx} {scope : Scope} {cl : List (Str × Addr)} {NB : List Str} {ix : List (Option Nat)} {fp : List Addr} {pins : List (Addr × Obj)} {σ : St} {H : Hp} {s : Shared}
end
section
variable {X : Cx} {scope : Scope} {cl : List (Str × Addr)} {NB : List Str} {ix : List (Option Nat)} {fp : List Addr} {pins : List (Addr × Obj)} {σ : St} {H : Hp} {s : Shared}
end
section
variable {X : Cx} {scope sc : Scope} {NB NN : List Str} {ix : List (Option Nat)} {pins : List (Addr × Obj)} {σ : St} {H : Hp} {s : Shared}
end
end L2

set_option Elab.async false
set_option linter.all false
set_option maxRecDepth 100000
set_option maxHeartbeats 4000000
namespace L2
open PySem PySem.Spec PyProof.Rows PySem.StrLaws
/-! ## a list of tuples -/
/-! ## == of tuples that hold lists or tuples of flat values -/
def Eq1 (K : PySem.W.Frag) (H : Hp) (a b : V) : Prop := (flatV a = true ∧ flatV b = true ∧ eqV a b = true) ∨ ∃ p q zs, a = .ref p ∧ b = .ref q ∧ ((SqL K H p zs ∧ SqL K H q zs) ∨ (SqT K H p zs ∧ SqT K H q zs)) ∧ zs.all flatV = true ∧ eqs zs zs = true
section
variable {X : Cx}
theorem eq1_at {pins : List (Addr × Obj)} {s : Shared} {σ : St} {H : Hp} {A : Around} {a b : V} {u v : Value} (I : Inv X pins σ H s) (hu : A.units < cLine) (ra : RelV a u) (rb : RelV b v) (h : Eq1 X.K H a b) : SeqAt.EqAt A s u v true := by
  rcases h with ⟨fa, fb, e⟩ | ⟨p, q, zs, rfl, rfl, hq, fz, ez⟩
  · have := eqAt_V (A := A) (s := s) ra rb fa fb
    rw [e] at this
    exact this
  · cases ra
    cases rb
    by_cases e : p = q
    · subst e; exact SeqAt.EqAt.same _
    refine SeqAt.EqAt.of_refs e ?_
    have el : ∀ {us ws : List Value}, Vals zs us → Vals zs ws → ∀ (j : Nat) (h1 : j < us.toArray.size) (h2 : j < ws.toArray.size), SeqAt.EqAt A.in1 s us.toArray[j] ws.toArray[j] (eqAtJ zs zs j) := fun ru rw' j ja jb => by
      obtain ⟨x, e3, rx⟩ := ru.at ja
      obtain ⟨y, e4, ry⟩ := rw'.at jb
      rw [e3] at e4
      cases e4
      have e : eqAtJ zs zs j = eqV x x := by unfold eqAtJ; rw [e3]
      rw [e]
      exact eqAt_V rx ry (flat_at fz e3) (flat_at fz e3)
    rcases hq with ⟨h1, h2⟩ | ⟨h1, h2⟩
    · obtain ⟨us, ru, tu, _⟩ := I.list h1
      obtain ⟨ws, rw', tw, _⟩ := I.list h2
      have e1 : us.toArray.size = zs.length := by rw [List.size_toArray, ru.length]
      have e2 : ws.toArray.size = zs.length := by rw [List.size_toArray, rw'.length]
      have R := SeqAt.RcAt.lists (A := A) (e := eqAtJ zs zs) tu.isList tw.isList (by rw [e1, e2]) hu (el ru rw')
      rw [e1, eqs_all rfl, ez] at R
      exact R
    · obtain ⟨us, ru, tu, _⟩ := I.tuple h1
      obtain ⟨ws, rw', tw, _⟩ := I.tuple h2
      have e1 : us.toArray.size = zs.length := by rw [List.size_toArray, ru.length]
      have e2 : ws.toArray.size = zs.length := by rw [List.size_toArray, rw'.length]
      have R := SeqAt.RcAt.tuples (A := A) (e := eqAtJ zs zs) (show s.heap.IsTuple p us.toArray from tu) (show s.heap.IsTuple q ws.toArray from tw) hu (el ru rw')
      rw [e1, e2, Nat.min_self, eqs_all rfl, ez, beq_self_eq_true] at R
      exact R
theorem op_neS (hu : X.A.units + 1 < cLine) : OpR X (compareOp .NotEq) (fun x y H Q => ∃ (p q : Addr) (xs ys : List V), x = .ref p ∧ y = .ref q ∧ ((SqL X.K H p xs ∧ SqL X.K H q ys) ∨ (SqT X.K H p xs ∧ SqT X.K H q ys)) ∧ xs.length = ys.length ∧ (∀ (j : Nat) (a b : V), xs[j]? = some a → ys[j]? = some b → Eq1 X.K H a b) ∧ Q (.bl false) H) := by
  intro pins s σ H x y v u Q I rx ry h
  obtain ⟨p, q, xs, ys, rfl, rfl, hq, hlen, hat, w⟩ := h
  cases rx
  cases ry
  have el : ∀ {us ws : List Value}, Vals xs us → Vals ys ws → ∀ (j : Nat) (h1 : j < us.toArray.size) (h2 : j < ws.toArray.size), SeqAt.EqAt X.A.in1 s us.toArray[j] ws.toArray[j] ((fun _ => true) j) := fun ru rw' j ja jb => by
    obtain ⟨x, e3, rx⟩ := ru.at ja
    obtain ⟨y, e4, ry⟩ := rw'.at jb
    exact eq1_at I hu rx ry (hat j x y e3 e4)
  rcases hq with ⟨h1, h2⟩ | ⟨h1, h2⟩
  · obtain ⟨us, ru, tu, _⟩ := I.list h1
    obtain ⟨ws, rw', tw, _⟩ := I.list h2
    refine SeqAt.RcNeAt.lists (e := fun _ => true) tu.isList tw.isList (by rw [List.size_toArray, List.size_toArray, ← ru.length, ← rw'.length, hlen]) (by omega) (el ru rw') _ _ _ _ ?_
    rw [all_true]
    exact ⟨.bl false, H, I, rfl, w⟩
  · obtain ⟨us, ru, tu, _⟩ := I.tuple h1
    obtain ⟨ws, rw', tw, _⟩ := I.tuple h2
    refine SeqAt.RcNeAt.tuples (e := fun _ => true) (show s.heap.IsTuple p us.toArray from tu) (show s.heap.IsTuple q ws.toArray from tw) (by omega) (el ru rw') _ _ _ _ ?_
    have e : us.toArray.size = ws.toArray.size := by rw [List.size_toArray, List.size_toArray, ← ru.length, ← rw'.length, hlen]
    rw [all_true, e, beq_self_eq_true]
    exact ⟨.bl false, H, I, rfl, w⟩
end
/-! ## sum of a list of whole numbers, some below 0 -/
section
variable {X : Cx} {tg : Expr}
end
/-! ## for over a list from its end -/
end L2

set_option Elab.async false
set_option linter.all false
set_option maxRecDepth 100000
set_option maxHeartbeats 4000000
namespace My
open PySem L2

def top (i : Nat) : Stmt := PySem.Challenge.pw_modehand_k46_whole_rows_of_keys.main.body.getD i (.Pass ⟨0, 0, 0, 0⟩)
abbrev s_read_shelf : Stmt := top 11
abbrev s_read_count : Stmt := top 12
abbrev s_read_verb : Stmt := top 13
abbrev s_read_aim : Stmt := top 14
abbrev s_read_target : Stmt := top 15
abbrev s_read_up_to : Stmt := top 16
abbrev s_read_typed : Stmt := top 17
abbrev s_read_phrase : Stmt := top 18
abbrev s_first : Stmt := top 19
abbrev s__law_cell_at : Stmt := top 21
abbrev s__law_number : Stmt := top 22
abbrev s__law_whole : Stmt := top 23
abbrev s__law_sign_by : Stmt := top 24
abbrev s__law_letter_by : Stmt := top 25
abbrev s__law_count_by : Stmt := top 26
abbrev s__law_move_by : Stmt := top 27
abbrev s__law_target_by : Stmt := top 28
abbrev s__law_run_by : Stmt := top 29
abbrev s__law_typed_by : Stmt := top 30
abbrev s__law_phrase : Stmt := top 31
abbrev s__law_keys : Stmt := top 32
abbrev s__law_bad_by : Stmt := top 33
abbrev s__law_told : Stmt := top 34
abbrev s_law : Stmt := top 35
abbrev s_Reader__init : Stmt := inClass (top 10) 0
abbrev s_Reader__meets : Stmt := inClass (top 10) 1
abbrev s_Reader__take : Stmt := inClass (top 10) 2
abbrev s_Reader__take_all : Stmt := inClass (top 10) 3

def sp_cell46 (K : PySem.W.Frag) : Sp := fun vs H Q _ => ∃ (a : Addr) (ns : List Int) (k : Nat), vs = [.ref a, .int (k : Int)] ∧ SqL K H a (ns.map V.int) ∧ k ≤ 1000 ∧ ∀ i : Int, Q (.int i) H
def sp_law (K : PySem.W.Frag) : Sp := fun vs H Q _ => ∃ (a : Addr) (ns : List Int), vs = [.ref a] ∧ SqL K H a (ns.map V.int) ∧ ns.length ≤ 63 ∧ ∀ H', Q (.bl true) H'
def sp_num46 : Sp := fun vs H Q _ => ∃ (c : Int) (k : Nat), vs = [.int c, .int (k : Int)] ∧ k ≤ 1000 ∧ ∀ m : Int, 0 ≤ m → Q (.int m) H
section
variable {P : Program} {w : World} {K : PySem.W.Frag} {mg : Str → Option Value} {base : Heap} {f : Addr} {fd : FuncData}
theorem sc__law_cell_at : FnScope ["_law_script", "_law_k"] ["_law_script", "_law_k"] (defScope s__law_cell_at) := ⟨rfl, rfl, rfl, by decide +kernel, rfl, by decide +kernel, by decide +kernel⟩
theorem ok_cell46 (F : Fun K "_law_cell_at" "_law_cell_at" s__law_cell_at f fd) (m_len : mg "len" = none) : FnOk P w K mg base CX0 1 f fd ["_law_script", "_law_k"] (sp_cell46 K) := by
  refine F.ok sc__law_cell_at (fun vs H Q E h => ?_) (fun cdv A outer s H vs Q E hr h => ?_)
  · obtain ⟨a, ns, k, rfl, _⟩ := h
    rfl
  obtain ⟨a, ns, k, rfl, hS, hk, q⟩ := h
  refine ⟨_, (pss_cons (ps_if (pt_cmpR op_lt (pv 1) (pe_callB call_len_seq (by rfl) m_len PySem.boot_len (pa_cons (pv 0) pa_nil)) (nomark _)) (pss_one (ps_ret (pe_ix ix_list (pv 0) (pv 1) (fun _ _ => rfl)))) pss_nil)
      (pss_one (ps_ret (pe_op op_add (pe_op op_mul pe_int (pv 1)) pe_int)))), ?_⟩
  refine ⟨_, rfl, _, rfl, a, _, rfl, .inl hS, _, _, rfl, rfl, _, rfl, ?_⟩
  refine ite2 (fun c => ?_) (fun c => ?_)
  · have c' : (k : Int) < (((ns.map V.int).length : Nat) : Int) := of_decide_eq_true c
    have hk' : k < ns.length := by rw [List.length_map] at c'; omega
    have hat : atI (ns.map V.int) (k : Int) = some (.int ns[k]) := atI_nat (by rw [List.getElem?_map, List.getElem?_eq_getElem hk']; rfl)
    exact ⟨_, rfl, _, rfl, a, _, _, _, rfl, rfl, hS, hat, q _⟩
  · exact ⟨_, rfl, _, _, rfl, rfl, .inl ⟨by decide, by decide⟩, _, _, rfl, rfl, q _⟩
theorem sc__law_number : FnScope ["_law_cell", "_law_k", "_law_number_here", "_law_turn", "_law_one"] ["_law_cell", "_law_k"] (defScope s__law_number) := ⟨rfl, rfl, rfl, by decide +kernel, rfl, by decide +kernel, by decide +kernel⟩
theorem ok_num46 (F : Fun K "_law_number" "_law_number" s__law_number f fd) (m_range : mg "range" = none) (m_int : mg "int" = none) : FnOk P w K mg base CX0 1 f fd ["_law_cell", "_law_k"] sp_num46 := by
  refine F.ok sc__law_number (fun vs H Q E h => ?_) (fun cdv A outer s H vs Q E hr h => ?_)
  · obtain ⟨c, k, rfl, _⟩ := h
    rfl
  obtain ⟨c, k, rfl, hk, q⟩ := h
  refine ⟨_, (pss_cons (ps_set (i := 2) sc__law_number.nd rfl (Or.inl rfl) (pe_op op_fdiv (pv 0) pe_int))
      (pss_cons (ps_for PassesOwn.never rfl (pi_range1 (by rfl) m_range (pa_cons (pe_op op_mul (pv 1) (pe_callTy call_intB (by rfl) m_int boot_int (pa_cons (pe_cmpR op_eq (pe_op op_mod (pv 0) pe_int) pe_int (nomark _)) pa_nil))) pa_nil)) (pg_name (i := 3) sc__law_number.nd rfl (Or.inl rfl)) (pss_one (ps_set (i := 2) sc__law_number.nd rfl (Or.inl rfl) (pe_op op_fdivB (pv 2) pe_int))))
      (pss_cons (ps_if (PW.pt (pw_and (pt_cmpR op_eq (pe_op op_mod (pv 0) pe_int) pe_int (nomark _)) (pw_and1 (pt_cmpR op_gt (pv 2) pe_int (nomark _))))) (pss_one (ps_ret (pe_op op_mod (pv 2) pe_int))) pss_nil)
      (pss_cons (ps_set (i := 4) sc__law_number.nd rfl (Or.inl rfl) (pe_op op_mod (pe_op op_mul (pe_op op_add (pe_op op_add (pe_op op_mod (pv 0) pe_int) (pe_op op_mul (pe_op op_mul pe_int (pv 1)) (pv 1))) pe_int) pe_int) pe_int))
      (pss_one (ps_ret (pe_op op_mod (pe_op op_mul (pv 4) (pe_op op_add (pe_op op_mod (pv 4) pe_int) pe_int)) pe_int))))))), ?_⟩
  refine ⟨_, rfl, _, _, rfl, rfl, ⟨by decide, by decide⟩, ?_⟩
  refine gname_go (seq_at (seq_to (fun σ H' => H = H' ∧ ∃ (n : Int) (x : Option V), σ = [some (.int c), some (.int (k : Int)), some (.int n), x, none]) (fun nx fin => ?_) ?_))
  · refine ⟨_, rfl, _, rfl, _, _, rfl, rfl, (by show (0 : Int) < 2; decide), rfl, _, rfl, _, _, rfl, rfl, .inl ⟨by omega, by omega⟩, ?_⟩
    have hb : 0 ≤ (k : Int) * (if decide (V.int (c % 2) = V.int 0) = true then 1 else 0) ∧ (k : Int) * (if decide (V.int (c % 2) = V.int 0) = true then 1 else 0) ≤ 1000 := by
      split <;> omega
    refine ⟨(k : Int) * (if decide (V.int (c % 2) = V.int 0) = true then 1 else 0), rfl, by have := hb.1; omega, by have := hb.2; omega, ?_⟩
    refine for_range (fun i σ H' => H = H' ∧ ∃ (n : Int) (x : Option V), σ = [some (.int c), some (.int (k : Int)), some (.int n), x, none]) ⟨rfl, _, none, rfl⟩ ?_ ?_
    · rintro i σ H' hi ⟨rfl, n, x, rfl⟩
      exact ⟨_, rfl, _, _, rfl, rfl, ⟨by decide, by decide⟩, rfl, _, _, rfl⟩
    · rintro σ H' ⟨rfl, n, x, rfl⟩
      exact fin _ _ ⟨rfl, n, x, rfl⟩
  rintro σ H' ⟨rfl, n, x, rfl⟩
  refine seq_to (fun σ H' => H = H' ∧ σ = [some (.int c), some (.int (k : Int)), some (.int n), x, none]) (fun nx fin => ?_) ?_
  · refine ⟨_, rfl, _, _, rfl, rfl, (by show (0 : Int) < 2; decide), rfl, _, rfl, ite2 (fun _ => ?_) (fun _ => iteF (fin _ _ ⟨rfl, rfl⟩))⟩
    refine ⟨_, rfl, _, _, rfl, rfl, _, rfl, ite2 (fun _ => ?_) (fun _ => fin _ _ ⟨rfl, rfl⟩)⟩
    exact ⟨_, rfl, _, _, rfl, rfl, (by show (0 : Int) < 2147483629; decide), q _ (Int.emod_nonneg _ (by decide))⟩
  rintro σ H' ⟨rfl, rfl⟩
  have m0 : 0 ≤ c % 2147483647 := Int.emod_nonneg _ (by decide)
  have m1 : c % 2147483647 < 2147483647 := Int.emod_lt_of_pos _ (by decide)
  have kk : (k : Int) * (k : Int) ≤ 1000000 := by
    have := Nat.mul_le_mul hk hk
    omega
  refine ⟨_, rfl, _, _, rfl, rfl, (by show (0 : Int) < 2147483647; decide), _, rfl, _, _, rfl, rfl, .inl ⟨by decide, by decide⟩, _, rfl, _, _, rfl, rfl, .inr ⟨by omega, by omega⟩, _, _, rfl, rfl, _, _, rfl, rfl, _, _, rfl, rfl, .inr ⟨by decide, by decide⟩, _, _, rfl, rfl, (by show (0 : Int) < 2147483629; decide), ?_⟩
  show gName _ (V.int ((c % 2147483647 + 7919 * (k : Int) * (k : Int) + 11) * 69621 % 2147483629)) _ _ _
  have o0 : 0 ≤ (c % 2147483647 + 7919 * (k : Int) * (k : Int) + 11) * 69621 % 2147483629 := Int.emod_nonneg _ (by decide)
  have o1 : (c % 2147483647 + 7919 * (k : Int) * (k : Int) + 11) * 69621 % 2147483629 < 2147483629 := Int.emod_lt_of_pos _ (by decide)
  generalize (c % 2147483647 + 7919 * (k : Int) * (k : Int) + 11) * 69621 % 2147483629 = o at o0 o1
  exact ⟨_, rfl, _, rfl, _, _, rfl, rfl, (by show (0 : Int) < 65521; decide), _, _, rfl, rfl, _, _, rfl, rfl, .inl ⟨by omega, by omega⟩, _, _, rfl, rfl, (by show (0 : Int) < 2147483587; decide), q _ (Int.emod_nonneg _ (by decide))⟩
end
end My

set_option Elab.async false
set_option linter.all false
set_option maxRecDepth 100000
set_option maxHeartbeats 4000000
namespace My
open PySem L2


abbrev lit1 : List Nat := [32, 33, 34, 35, 36, 38, 39, 40, 41, 42, 43, 44, 45, 46, 47, 48, 49, 50, 51, 52, 53, 54, 55, 56, 57, 58, 59, 60, 61, 62, 63, 64, 65, 66, 67, 68, 69, 70, 71, 72, 73, 74, 75, 76, 77, 78, 79, 80, 81, 82, 83, 84, 85, 86, 87, 88, 89, 90, 91, 92, 93, 94, 95, 96]
abbrev lit2 : List Nat := [97, 98, 99, 100, 101, 102, 103, 104, 105, 106, 107, 108, 109, 110, 111, 112, 113, 114, 115, 116, 117, 118, 119, 120, 121, 122, 123, 124, 125]
theorem lits_len : (lit1 ++ lit2).length = 93 := by decide

/-! phrases, as the laws k41 to k46 draw them -/

abbrev lit93 : List Nat := lit1 ++ lit2
def Sg (c : Nat) : Prop := c ∈ lit93
def Sm (c : Nat) : Prop := 97 ≤ c ∧ c ≤ 122
abbrev litAZ : List Nat := [97, 98, 99, 100, 101, 102, 103, 104, 105, 106, 107, 108, 109, 110, 111, 112, 113, 114, 115, 116, 117, 118, 119, 120, 121, 122]
theorem litAZ_sm : ∀ c ∈ litAZ, 97 ≤ c ∧ c ≤ 122 := by decide
abbrev litM : List Nat := [104, 108, 106, 107, 98, 101, 119, 118, 111, 103, 122, 112, 102, 116, 109]
abbrev litM12 : List Nat := [104, 108, 106, 107, 98, 101, 119, 118, 111, 103, 122, 112]
abbrev litT : List Nat := [99, 97, 105, 114, 40, 91, 123, 41, 93, 125, 39, 34, 115]
abbrev litV : List Nat := [67, 89, 88, 71, 83, 68, 70, 74, 84, 82, 80, 77, 75, 86, 90, 65, 78, 69, 76, 46, 64, 58]
abbrev litVt : List Nat := [67, 89, 88, 71, 83, 68, 70, 74]
theorem litM_rest : ∀ k ∈ litM, k ≠ 109 → ¬ k ∈ [102, 116] → k ∈ litM12 := by decide
theorem at_of (L : List Nat) {m : Nat} (n : Int) (hm : L.length = m) (h0 : 0 < m) : ∃ k, k ∈ L ∧ atI L (n % (m : Int)) = some k := by
  have k0 : 0 ≤ n % (m : Int) := Int.emod_nonneg _ (by omega)
  have k1 : n % (m : Int) < (m : Int) := Int.emod_lt_of_pos _ (by omega)
  obtain ⟨j, hj⟩ : ∃ j : Nat, n % (m : Int) = (j : Int) := ⟨_, (Int.toNat_of_nonneg k0).symm⟩
  rw [hj] at k1 ⊢
  have hlen : j < L.length := by omega
  have e : L[j]? = some L[j] := List.getElem?_eq_getElem hlen
  exact ⟨_, List.mem_of_getElem? e, atI_nat e⟩
def MoveK (k : List Nat) : Prop := (∃ x, k = [x] ∧ x ∈ litM12) ∨ (∃ x c, k = [x, c] ∧ (x = 102 ∨ x = 116) ∧ Sg c) ∨ ∃ c, k = [109, c] ∧ Sm c
def TargK (k : List Nat) : Prop := MoveK k ∨ ∃ x, k = [x] ∧ x ∈ litT
def TypedK (v r : List Nat) : Prop := (((v = [88] ∨ v = [84]) ∧ r.length ≤ 50 ∧ ∀ c ∈ r, Sg c ∨ c = 10) ∨ (v = [58] ∧ r.length ≤ 50 ∧ ∀ c ∈ r, Sg c ∨ c = 126) ∨ (v = [82] ∧ ∃ c, r = [c] ∧ Sg c) ∨ (v = [86] ∧ ∃ c, r = [c] ∧ c ∈ [115, 114, 98]) ∨ ((v = [77] ∨ v = [75] ∨ v = [64]) ∧ ∃ c, r = [c] ∧ Sm c) ∨ ((∀ x, v = [x] → ¬ x ∈ [88, 84, 58, 82, 86, 77, 75, 64]) ∧ r = []))
structure Ph where
  sh : List Nat
  ct : Option Nat
  vb : List Nat
  tg : List Nat
  ty : List Nat
def phV (p : Ph) : List V := [.str (S p.sh), optV p.ct, .str (S p.vb), .str (S p.tg), .str (S p.ty)]
structure PhOk (p : Ph) : Prop where
  vb : p.vb = [] ∨ ∃ v, v ∈ litV ∧ p.vb = [v]
  sh : p.sh = [] ∨ ∃ c v, p.sh = [c] ∧ Sm c ∧ p.vb = [v] ∧ v ∈ [67, 89, 88, 80]
  ct : ∀ n, p.ct = some n → 1 ≤ n ∧ n ≤ 999 ∧ ∀ v, p.vb = [v] → ¬ v ∈ [77, 75, 86, 58]
  mv : p.vb = [] → MoveK p.tg
  tg : ∀ v, p.vb = [v] → v ∈ litVt → TargK p.tg
  no : ∀ v, p.vb = [v] → ¬ v ∈ litVt → p.tg = []
  ty : TypedK p.vb p.ty
def digs (n : Nat) : List Nat := (Str.ofString (toString (n : Int))).cps.toList
theorem digs_len : ∀ n, n < 1000 → (digs n).length ≤ 3 := by decide +kernel
def ctL : Option Nat → List Nat
  | some n => digs n
  | none => []
def keysOf (p : Ph) : List Nat := (((((if p.sh = [] then [] else [34] ++ p.sh) ++ ctL p.ct) ++ p.vb) ++ p.tg) ++ p.ty) ++ (if p.vb = [88] ∨ p.vb = [84] then [126] else if p.vb = [58] then [10] else [])
def sp_sgby : Sp := fun vs H Q _ => ∃ n : Int, vs = [.int n] ∧ ∀ c, Sg c → Q (.str (S [c])) H
def sp_smby : Sp := fun vs H Q _ => ∃ n : Int, vs = [.int n] ∧ ∀ c, Sm c → Q (.str (S [c])) H
def sp_ctby : Sp := fun vs H Q _ => ∃ n : Int, vs = [.int n] ∧ ∀ o : Option Nat, (∀ m, o = some m → 1 ≤ m ∧ m ≤ 999) → Q (optV o) H
def sp_mvby : Sp := fun vs H Q _ => ∃ n : Int, vs = [.int n] ∧ ∀ k, MoveK k → Q (.str (S k)) H
def sp_tgby : Sp := fun vs H Q _ => ∃ n : Int, vs = [.int n] ∧ ∀ k, TargK k → Q (.str (S k)) H
def sp_tyby : Sp := fun vs H Q _ => ∃ (v : List Nat) (n : Int), vs = [.str (S v), .int n] ∧ (v = [] ∨ ∃ x, v = [x]) ∧ ∀ r H', Same H H' → TypedK v r → Q (.str (S r)) H'
def sp_kys : Sp := fun vs H Q _ => ∃ (t : Addr) (p : Ph), vs = [.ref t] ∧ H t = some (.tup (phV p)) ∧ PhOk p ∧ ∀ H', Same H H' → Q (.str (S (keysOf p))) H'
theorem inV_s (x : Nat) (ys : List Nat) : inV (.str (S [x])) (ys.map fun y => V.str (S [y])) = decide (x ∈ ys) := by
  induction ys with
  | nil => rfl
  | cons y ys ih =>
    show (eqV (.str (S [y])) (.str (S [x])) || inV (.str (S [x])) (ys.map fun y => V.str (S [y]))) = _
    rw [eqS, ih]
    by_cases e : y = x
    · subst e; simp
    · rw [decide_eq_false e, Bool.false_or]
      have : (x ∈ y :: ys) ↔ x ∈ ys := by simp [Ne.symm e]
      exact decide_eq_decide.mpr this.symm
theorem inV_e (ys : List Nat) : inV (.str (S [])) (ys.map fun y => V.str (S [y])) = false := by
  induction ys with
  | nil => rfl
  | cons y ys ih =>
    show (eqV (.str (S [y])) (.str (S [])) || inV (.str (S [])) (ys.map fun y => V.str (S [y]))) = _
    rw [ih]
    rfl
section
variable {P : Program} {w : World} {K : PySem.W.Frag} {mg : Str → Option Value} {base : Heap} {f : Addr} {fd : FuncData}
theorem sc__law_sign_by : FnScope ["_law_cell", "_law_some"] ["_law_cell"] (defScope s__law_sign_by) := ⟨rfl, rfl, rfl, by decide +kernel, rfl, by decide +kernel, by decide +kernel⟩
theorem ok_sgby (F : Fun K "_law_sign_by" "_law_sign_by" s__law_sign_by f fd) : FnOk P w K mg base CX0 1 f fd ["_law_cell"] sp_sgby := by
  refine F.ok sc__law_sign_by (fun vs H Q E h => ?_) (fun cdv A outer s H vs Q E hr h => ?_)
  · obtain ⟨n, rfl, _⟩ := h
    rfl
  obtain ⟨n, rfl, q⟩ := h
  refine ⟨_, (pss_cons (ps_set (i := 1) sc__law_sign_by.nd rfl (Or.inl rfl) pe_str)
      (pss_cons (ps_set (i := 1) sc__law_sign_by.nd rfl (Or.inl rfl) (pe_op op_adS (pv 1) pe_str))
      (pss_one (ps_ret (pe_ix ix_S (pv 1) (pe_op op_mod (pv 0) pe_int) (fun _ _ => rfl)))))), ?_⟩
  obtain ⟨k, hk, hat⟩ := at_of lit93 (m := 93) n lits_len (by decide)
  refine ⟨_, rfl, lit1, lit2, rfl, rfl, small (by decide), ?_⟩
  exact ⟨_, rfl, _, rfl, _, _, rfl, rfl, (by show (0 : Int) < 93; decide), lit93, _, _, rfl, rfl, small (by decide), hat, q k hk⟩
theorem sc__law_letter_by : FnScope ["_law_cell"] ["_law_cell"] (defScope s__law_letter_by) := ⟨rfl, rfl, rfl, by decide +kernel, rfl, by decide +kernel, by decide +kernel⟩
theorem ok_smby (F : Fun K "_law_letter_by" "_law_letter_by" s__law_letter_by f fd) : FnOk P w K mg base CX0 1 f fd ["_law_cell"] sp_smby := by
  refine F.ok sc__law_letter_by (fun vs H Q E h => ?_) (fun cdv A outer s H vs Q E hr h => ?_)
  · obtain ⟨n, rfl, _⟩ := h
    rfl
  obtain ⟨n, rfl, q⟩ := h
  refine ⟨_, (pss_one (ps_ret (pe_ix ix_S pe_str (pe_op op_mod (pv 0) pe_int) (fun _ _ => rfl)))), ?_⟩
  obtain ⟨k, hk, hat⟩ := at_of litAZ (m := 26) n rfl (by decide)
  exact ⟨_, rfl, _, _, rfl, rfl, (by show (0 : Int) < 26; decide), litAZ, _, _, rfl, rfl, small (by decide), hat, q k (litAZ_sm k hk)⟩
theorem sc__law_count_by : FnScope ["_law_cell"] ["_law_cell"] (defScope s__law_count_by) := ⟨rfl, rfl, rfl, by decide +kernel, rfl, by decide +kernel, by decide +kernel⟩
theorem ok_ctby (F : Fun K "_law_count_by" "_law_count_by" s__law_count_by f fd) : FnOk P w K mg base CX0 1 f fd ["_law_cell"] sp_ctby := by
  refine F.ok sc__law_count_by (fun vs H Q E h => ?_) (fun cdv A outer s H vs Q E hr h => ?_)
  · obtain ⟨n, rfl, _⟩ := h
    rfl
  obtain ⟨n, rfl, q⟩ := h
  refine ⟨_, (pss_cons (ps_if (pt_cmpR op_eq (pe_op op_mod (pv 0) pe_int) pe_int (nomark _)) (pss_one (ps_ret pe_non)) pss_nil)
      (pss_cons (ps_if (pt_cmpR op_eq (pe_op op_mod (pv 0) pe_int) pe_int (nomark _)) (pss_one (ps_ret (pe_op op_add pe_int (pe_op op_mod (pe_op op_fdiv (pv 0) pe_int) pe_int)))) pss_nil)
      (pss_one (ps_ret (pe_op op_add pe_int (pe_op op_mod (pe_op op_fdiv (pv 0) pe_int) pe_int)))))), ?_⟩
  have y0 : 0 ≤ n / 3 % 12 := Int.emod_nonneg _ (by decide)
  have y1 : n / 3 % 12 < 12 := Int.emod_lt_of_pos _ (by decide)
  have z0 : 0 ≤ n / 3 % 999 := Int.emod_nonneg _ (by decide)
  have z1 : n / 3 % 999 < 999 := Int.emod_lt_of_pos _ (by decide)
  have fin : ∀ z : Int, 1 ≤ z → z ≤ 999 → Q (.int z) H := fun z h1 h2 => by
    obtain ⟨m, rfl⟩ : ∃ m : Nat, z = (m : Int) := ⟨z.toNat, by omega⟩
    exact q (some m) (fun x hx => by cases hx; omega)
  refine ⟨_, rfl, _, _, rfl, rfl, (by show (0 : Int) < 3; decide), rfl, _, rfl, ite2 (fun _ => q none (fun m z => by cases z)) (fun _ => ?_)⟩
  refine ⟨_, rfl, _, _, rfl, rfl, (by show (0 : Int) < 3; decide), rfl, _, rfl, ite2 (fun _ => ?_) (fun _ => ?_)⟩
  · exact ⟨_, rfl, _, _, rfl, rfl, ⟨by decide, by decide⟩, _, _, rfl, rfl, (by show (0 : Int) < 12; decide), _, _, rfl, rfl, fin _ (by omega) (by omega)⟩
  · exact ⟨_, rfl, _, _, rfl, rfl, ⟨by decide, by decide⟩, _, _, rfl, rfl, (by show (0 : Int) < 999; decide), _, _, rfl, rfl, fin _ (by omega) (by omega)⟩
theorem sc__law_move_by : FnScope ["_law_cell", "_law_key"] ["_law_cell"] (defScope s__law_move_by) := ⟨rfl, rfl, rfl, by decide +kernel, rfl, by decide +kernel, by decide +kernel⟩
theorem ok_mvby (F : Fun K "_law_move_by" "_law_move_by" s__law_move_by f fd) (O__law_letter_by : Own P w K mg base CX0 1 "_law_letter_by" ["_law_cell"] sp_smby) (O__law_sign_by : Own P w K mg base CX0 1 "_law_sign_by" ["_law_cell"] sp_sgby) : FnOk P w K mg base CX0 2 f fd ["_law_cell"] sp_mvby := by
  refine F.ok sc__law_move_by (fun vs H Q E h => ?_) (fun cdv A outer s H vs Q E hr h => ?_)
  · obtain ⟨n, rfl, _⟩ := h
    rfl
  obtain ⟨n, rfl, q⟩ := h
  refine ⟨_, (pss_cons (ps_set (i := 1) sc__law_move_by.nd rfl (Or.inl rfl) (pe_ix ix_S pe_str (pe_op op_mod (pv 0) pe_int) (fun _ _ => rfl)))
      (pss_cons (ps_if (pt_cmpR op_eq (pv 1) pe_str (nomark _)) (pss_one (ps_ret (pe_op op_adS (pv 1) (pe_own O__law_letter_by hr (by rfl) pass0 (pa_cons (pe_op op_fdiv (pv 0) pe_int) pa_nil))))) pss_nil)
      (pss_cons (ps_if (pt_cmpR op_in1 (pv 1) pe_str rfl) (pss_one (ps_ret (pe_op op_adS (pv 1) (pe_own O__law_sign_by hr (by rfl) pass0 (pa_cons (pe_op op_fdiv (pv 0) pe_int) pa_nil))))) pss_nil)
      (pss_one (ps_ret (pv 1)))))), ?_⟩
  obtain ⟨k, hk, hat⟩ := at_of litM (m := 15) n rfl (by decide)
  have two : 1 + 1 ≤ sizeLine := small (by decide)
  refine ⟨_, rfl, _, _, rfl, rfl, (by show (0 : Int) < 15; decide), litM, _, _, rfl, rfl, small (by decide), hat, ?_⟩
  refine ⟨_, rfl, rfl, _, rfl, ?_⟩
  by_cases e1 : k = 109
  · subst e1
    exact iteDT rfl ⟨_, rfl, _, rfl, _, _, rfl, rfl, ⟨by decide, by decide⟩, _, rfl, fun c hc => ⟨[109], [c], rfl, rfl, two, q [109, c] (.inr (.inr ⟨c, rfl, hc⟩))⟩⟩
  refine iteDF (neS e1) ⟨_, rfl, k, [102, 116], rfl, rfl, _, rfl, ?_⟩
  by_cases e2 : k ∈ [102, 116]
  · exact iteDT e2 ⟨_, rfl, _, rfl, _, _, rfl, rfl, ⟨by decide, by decide⟩, _, rfl, fun c hc => ⟨[k], [c], rfl, rfl, two, q [k, c] (.inr (.inl ⟨k, c, rfl, by simpa using e2, hc⟩))⟩⟩
  · exact iteDF e2 ⟨_, rfl, q [k] (.inl ⟨k, rfl, litM_rest k hk e1 e2⟩)⟩
theorem sc__law_target_by : FnScope ["_law_cell"] ["_law_cell"] (defScope s__law_target_by) := ⟨rfl, rfl, rfl, by decide +kernel, rfl, by decide +kernel, by decide +kernel⟩
theorem ok_tgby (F : Fun K "_law_target_by" "_law_target_by" s__law_target_by f fd) (O__law_move_by : Own P w K mg base CX0 2 "_law_move_by" ["_law_cell"] sp_mvby) : FnOk P w K mg base CX0 3 f fd ["_law_cell"] sp_tgby := by
  refine F.ok sc__law_target_by (fun vs H Q E h => ?_) (fun cdv A outer s H vs Q E hr h => ?_)
  · obtain ⟨n, rfl, _⟩ := h
    rfl
  obtain ⟨n, rfl, q⟩ := h
  refine ⟨_, (pss_cons (ps_if (pt_cmpR op_eq (pe_op op_mod (pv 0) pe_int) pe_int (nomark _)) (pss_one (ps_ret (pe_own O__law_move_by hr (by rfl) pass0 (pa_cons (pe_op op_fdiv (pv 0) pe_int) pa_nil)))) pss_nil)
      (pss_one (ps_ret (pe_ix ix_S pe_str (pe_op op_mod (pe_op op_fdiv (pv 0) pe_int) pe_int) (fun _ _ => rfl))))), ?_⟩
  refine ⟨_, rfl, _, _, rfl, rfl, (by show (0 : Int) < 2; decide), rfl, _, rfl, ite2 (fun _ => ?_) (fun _ => ?_)⟩
  · exact ⟨_, rfl, _, _, rfl, rfl, ⟨by decide, by decide⟩, _, rfl, fun k hk => q k (.inl hk)⟩
  · obtain ⟨k, hk, hat⟩ := at_of litT (m := 13) (n / 2) rfl (by decide)
    exact ⟨_, rfl, _, _, rfl, rfl, ⟨by decide, by decide⟩, _, _, rfl, rfl, (by show (0 : Int) < 13; decide), litT, _, _, rfl, rfl, small (by decide), hat, q [k] (.inr ⟨k, rfl, hk⟩)⟩
end

/-! phrases: what is typed, the whole, its keys -/

theorem neE (y : Nat) : ¬ V.str (S []) = V.str (S [y]) := fun z => by have := S_inj (V.str.inj z); cases this
section
variable {P : Program} {w : World} {K : PySem.W.Frag} {mg : Str → Option Value} {base : Heap} {f : Addr} {fd : FuncData}
theorem sc__law_keys : FnScope ["_law_phrase_here", "_law_keys_here"] ["_law_phrase_here"] (defScope s__law_keys) := ⟨rfl, rfl, rfl, by decide +kernel, rfl, by decide +kernel, by decide +kernel⟩
theorem ok_kys (F : Fun K "_law_keys" "_law_keys" s__law_keys f fd) (m_str : mg "str" = none) : FnOk P w K mg base CX0 1 f fd ["_law_phrase_here"] sp_kys := by
  refine F.ok sc__law_keys (fun vs H Q E h => ?_) (fun cdv A outer s H vs Q E hr h => ?_)
  · obtain ⟨t, p, rfl, _⟩ := h
    rfl
  obtain ⟨t, ⟨sh, ct, vb, tg, ty⟩, rfl, ht, hp, q⟩ := h
  have ht' : H t = some (.tup [.str (S sh), optV ct, .str (S vb), .str (S tg), .str (S ty)]) := ht
  obtain ⟨p1, p2, p3, p4, p5, p6, p7⟩ := hp
  dsimp only at p1 p2 p3 p4 p5 p6 p7
  have lsh : sh.length ≤ 1 := by rcases p2 with rfl | ⟨c, v, rfl, _⟩ <;> simp
  have lvb : vb.length ≤ 1 := by rcases p1 with rfl | ⟨v, _, rfl⟩ <;> simp
  have lmv : ∀ {k : List Nat}, MoveK k → k.length ≤ 2 := fun h => by rcases h with ⟨x, rfl, _⟩ | ⟨x, c, rfl, _⟩ | ⟨c, rfl, _⟩ <;> simp
  have ltg : tg.length ≤ 2 := by
    rcases p1 with rfl | ⟨v, _, rfl⟩
    · exact lmv (p4 rfl)
    · by_cases e : v ∈ litVt
      · rcases p5 v rfl e with h | ⟨x, rfl, _⟩
        · exact lmv h
        · simp
      · rw [p6 v rfl e]; simp
  have lty : ty.length ≤ 50 := by
    rcases p7 with ⟨_, h, _⟩ | ⟨_, h, _⟩ | ⟨_, c, rfl, _⟩ | ⟨_, c, rfl, _⟩ | ⟨_, c, rfl, _⟩ | ⟨_, rfl⟩
    · exact h
    · exact h
    all_goals simp
  have big : ∀ {n : Nat}, n ≤ 200 → n ≤ sizeLine := fun h => Nat.le_trans (show _ ≤ 1000000 by omega) (small (Nat.le_refl _))
  refine ⟨_, (pss_cons (ps_set (i := 1) sc__law_keys.nd rfl (Or.inl rfl) pe_str)
      (pss_cons (ps_if (pt_cmpR op_ne (pe_ix ix_tup (pv 0) pe_int (fun _ _ => rfl)) pe_str (nomark _)) (pss_one (ps_set (i := 1) sc__law_keys.nd rfl (Or.inl rfl) (pe_op op_adS pe_str (pe_ix ix_tup (pv 0) pe_int (fun _ _ => rfl))))) pss_nil)
      (pss_cons (ps_if (pt_cmpR op_notN (pe_ix ix_tup (pv 0) pe_int (fun _ _ => rfl)) pe_non (nomark _)) (pss_one (ps_set (i := 1) sc__law_keys.nd rfl (Or.inl rfl) (pe_op op_adS (pv 1) (pe_callTy call_str_int (by rfl) m_str boot_str (pa_cons (pe_ix ix_tup (pv 0) pe_int (fun _ _ => rfl)) pa_nil))))) pss_nil)
      (pss_cons (ps_set (i := 1) sc__law_keys.nd rfl (Or.inl rfl) (pe_op op_adS (pe_op op_adS (pe_op op_adS (pv 1) (pe_ix ix_tup (pv 0) pe_int (fun _ _ => rfl))) (pe_ix ix_tup (pv 0) pe_int (fun _ _ => rfl))) (pe_ix ix_tup (pv 0) pe_int (fun _ _ => rfl))))
      (pss_cons (ps_if (pt_cmpR op_in_seq (pe_ix ix_tup (pv 0) pe_int (fun _ _ => rfl)) (pe_lst (pa_cons pe_str (pa_cons pe_str pa_nil))) rfl) (pss_one (ps_set (i := 1) sc__law_keys.nd rfl (Or.inl rfl) (pe_op op_adS (pv 1) pe_str))) pss_nil)
      (pss_cons (ps_if (pt_cmpR op_eq (pe_ix ix_tup (pv 0) pe_int (fun _ _ => rfl)) pe_str (nomark _)) (pss_one (ps_set (i := 1) sc__law_keys.nd rfl (Or.inl rfl) (pe_op op_adS (pv 1) pe_str))) pss_nil)
      (pss_one (ps_ret (pv 1))))))))), ?_⟩
  refine gname_go (seq_at (seq_to (fun σ H' => H = H' ∧ σ = [some (.ref t), some (.str (S (if sh = [] then [] else [34] ++ sh)))]) (fun nx fin => ?_) ?_))
  · refine ⟨_, rfl, t, _, _, _, rfl, rfl, SqT.of ht', rfl, rfl, _, rfl, ?_⟩
    by_cases e : sh = []
    · rw [if_pos e] at fin
      exact iteNS (congrArg (fun x => V.str (S x)) e) (fin _ _ ⟨rfl, rfl⟩)
    · rw [if_neg e] at fin
      exact iteNF (fun z => e (S_inj (V.str.inj z))) ⟨_, rfl, t, _, _, _, rfl, rfl, SqT.of ht', rfl, [34], sh, rfl, rfl, big (by show 1 + sh.length ≤ 200; omega), fin _ _ ⟨rfl, rfl⟩⟩
  rintro σ H' ⟨rfl, rfl⟩
  have l1 : (if sh = [] then [] else [34] ++ sh : List Nat).length ≤ 2 := by split <;> simp <;> omega
  generalize hk1 : (if sh = [] then [] else [34] ++ sh : List Nat) = k1 at l1
  obtain ⟨k2, hk2, l2⟩ : ∃ k2 : List Nat, k2 = k1 ++ ctL ct ∧ k2.length ≤ 5 := by
    refine ⟨_, rfl, ?_⟩
    rw [List.length_append]
    cases ct with
    | none => show k1.length + 0 ≤ 5; omega
    | some n =>
      have := digs_len n (by have := p3 n rfl; omega)
      show k1.length + (digs n).length ≤ 5
      omega
  refine seq_to (fun σ H' => H = H' ∧ σ = [some (.ref t), some (.str (S k2))]) (fun nx fin => ?_) ?_
  · refine ⟨_, rfl, t, _, _, _, rfl, rfl, SqT.of ht', rfl, rfl, _, rfl, ?_⟩
    cases ct with
    | none =>
      refine iteNS rfl (fin _ _ ⟨rfl, ?_⟩)
      rw [hk2, show ctL none = [] from rfl, List.append_nil]
    | some n =>
      have hn := p3 n rfl
      have hd := digs_len n (by omega)
      have hlog : ((n : Int)).natAbs.log2 < 1920 := by
        have : n.log2 ≤ n := Nat.log2_le_self n
        show n.log2 < 1920
        omega
      refine iteNF (fun z => by cases z) ⟨_, rfl, _, rfl, t, _, _, _, rfl, rfl, SqT.of ht', rfl, (n : Int), rfl, hlog, k1, digs n, rfl, rfl, big (by omega), fin _ _ ⟨rfl, ?_⟩⟩
      rw [hk2]
      rfl
  rintro σ H' ⟨rfl, rfl⟩
  refine ⟨_, rfl, _, rfl, t, _, _, _, rfl, rfl, SqT.of ht', rfl, k2, vb, rfl, rfl, big (by omega), _, rfl, t, _, _, _, rfl, rfl, SqT.of ht', rfl, k2 ++ vb, tg, rfl, rfl, big (by rw [List.length_append]; omega), _, rfl, t, _, _, _, rfl, rfl, SqT.of ht', rfl, k2 ++ vb ++ tg, ty, rfl, rfl, big (by rw [List.length_append, List.length_append]; omega), ?_⟩
  have l3 : (k2 ++ vb ++ tg ++ ty).length ≤ 60 := by rw [List.length_append, List.length_append, List.length_append]; omega
  have eq : keysOf ⟨sh, ct, vb, tg, ty⟩ = (k2 ++ vb ++ tg ++ ty) ++ (if vb = [88] ∨ vb = [84] then [126] else if vb = [58] then [10] else []) := by
    unfold keysOf
    dsimp only
    rw [hk1, ← hk2]
  rw [eq] at q
  generalize k2 ++ vb ++ tg ++ ty = k3 at l3 q
  refine gname_go (seq_at (seq_to (fun σ H' => Same H H' ∧ ∃ k4 : List Nat, k4 = k3 ++ (if vb = [88] ∨ vb = [84] then [126] else []) ∧ k4.length ≤ 61 ∧ σ = [some (.ref t), some (.str (S k4))]) (fun nx fin => ?_) ?_))
  · refine ⟨_, rfl, t, _, _, _, rfl, rfl, SqT.of ht', rfl, (by show 2 ≤ sizeLine; decide), fun A1 hA1 => ⟨A1, _, rfl, .inl (SqL.of upd_same), rfl, rfl, _, rfl, ?_⟩⟩
    have S1 := same_new hA1 (.lst [V.str "X", V.str "T"])
    rcases p1 with rfl | ⟨x, hx, rfl⟩
    · show if inV (.str (S [])) ([88, 84].map fun y => V.str (S [y])) = true then _ else _
      rw [inV_e]
      exact iteF (fin _ _ ⟨S1, k3, by rw [if_neg (by simp), List.append_nil], by omega, rfl⟩)
    · show if inV (.str (S [x])) ([88, 84].map fun y => V.str (S [y])) = true then _ else _
      rw [inV_s]
      by_cases e : x ∈ [88, 84]
      · have e' : [x] = [88] ∨ [x] = [84] := by
          have : x = 88 ∨ x = 84 := by simpa using e
          rcases this with rfl | rfl
          · exact .inl rfl
          · exact .inr rfl
        refine iteDT e ⟨_, rfl, k3, [126], rfl, rfl, big (by show k3.length + 1 ≤ 200; omega), fin _ _ ⟨S1, k3 ++ [126], by rw [if_pos e'], ?_, rfl⟩⟩
        rw [List.length_append]
        show k3.length + 1 ≤ 61
        omega
      · have e' : ¬ ([x] = [88] ∨ [x] = [84]) := by
          rintro (z | z) <;> (cases z; exact e (by decide))
        exact iteDF e (fin _ _ ⟨S1, k3, by rw [if_neg e', List.append_nil], by omega, rfl⟩)
  rintro σ H1 ⟨S1, k4, hk4, l4, rfl⟩
  have ht1 := S1 _ _ ht'
  refine seq_to (fun σ H' => H1 = H' ∧ σ = [some (.ref t), some (.str (S (k3 ++ (if vb = [88] ∨ vb = [84] then [126] else if vb = [58] then [10] else []))))]) (fun nx fin => ?_) ?_
  · refine ⟨_, rfl, t, _, _, _, rfl, rfl, SqT.of ht1, rfl, rfl, _, rfl, ?_⟩
    by_cases e : vb = [58]
    · subst e
      rw [if_neg (by decide), List.append_nil] at hk4
      rw [if_neg (by decide), if_pos rfl] at fin
      subst hk4
      exact iteDT rfl ⟨_, rfl, _, [10], rfl, rfl, big (by show _ + 1 ≤ 200; omega), fin _ _ ⟨rfl, rfl⟩⟩
    · rw [if_neg e] at fin
      rw [← hk4] at fin
      exact iteDF (fun z => e (S_inj (V.str.inj z))) (fin _ _ ⟨rfl, rfl⟩)
  rintro σ H' ⟨rfl, rfl⟩
  exact ⟨_, rfl, q _ S1⟩
end

end My

set_option Elab.async false
set_option linter.all false
set_option maxRecDepth 100000
set_option maxHeartbeats 4000000
namespace My
open PySem L2


def sp_rnby46 : Sp := fun vs H Q _ => ∃ (n : Int) (b : Nat), vs = [.int n, .str (S [b])] ∧ ∀ r H', Same H H' → r.length ≤ 50 → (∀ c ∈ r, Sg c ∨ c = b) → Q (.str (S r)) H'
def sp_phr46 : Sp := fun vs H Q _ => ∃ c : Int, vs = [.int c] ∧ ∀ p t H', Same H H' → PhOk p → H' t = some (.tup (phV p)) → Q (.ref t) H'
section
variable {P : Program} {w : World} {K : PySem.W.Frag} {mg : Str → Option Value} {base : Heap} {f : Addr} {fd : FuncData}
theorem sc__law_run_by : FnScope ["_law_cell", "_law_beside", "_law_number_here", "_law_size", "_law_signs", "_law_k"] ["_law_cell", "_law_beside"] (defScope s__law_run_by) := ⟨rfl, rfl, rfl, by decide +kernel, rfl, by decide +kernel, by decide +kernel⟩
theorem ok_rnby46 (F : Fun K "_law_run_by" "_law_run_by" s__law_run_by f fd) (O__law_number : Own P w K mg base CX0 1 "_law_number" ["_law_cell", "_law_k"] sp_num46) (O__law_sign_by : Own P w K mg base CX0 1 "_law_sign_by" ["_law_cell"] sp_sgby) (m_range : mg "range" = none) : FnOk P w K mg base CX0 2 f fd ["_law_cell", "_law_beside"] sp_rnby46 := by
  refine F.ok sc__law_run_by (fun vs H Q E h => ?_) (fun cdv A outer s H vs Q E hr h => ?_)
  · obtain ⟨n, b, rfl, _⟩ := h
    rfl
  obtain ⟨n, b, rfl, q⟩ := h
  refine ⟨_, (pss_cons (ps_set (i := 2) sc__law_run_by.nd rfl (Or.inl rfl) (pe_own O__law_number hr (by rfl) pass0 (pa_cons (pv 0) (pa_cons pe_int pa_nil))))
      (pss_cons (ps_set (i := 3) sc__law_run_by.nd rfl (Or.inl rfl) (pe_ix ix_list (pe_lst (pa_cons (pe_op op_mod (pe_op op_fdiv (pv 2) pe_int) pe_int) (pa_cons (pe_op op_mod (pe_op op_fdiv (pv 2) pe_int) pe_int) pa_nil))) (pe_op op_fdiv (pe_op op_mod (pv 2) pe_int) pe_int) (fun _ _ => rfl)))
      (pss_cons (ps_set (i := 4) sc__law_run_by.nd rfl (Or.inl rfl) pe_str)
      (pss_cons (ps_for PassesOwn.never rfl (pi_range1 (by rfl) m_range (pa_cons (pv 3) pa_nil)) (pg_name (i := 5) sc__law_run_by.nd rfl (Or.inl rfl)) (pss_cons (ps_set (i := 2) sc__law_run_by.nd rfl (Or.inl rfl) (pe_own O__law_number hr (by rfl) pass0 (pa_cons (pv 0) (pa_cons (pe_op op_add pe_int (pv 5)) pa_nil))))
      (pss_one (ps_if (pt_cmpR op_eq (pe_op op_mod (pv 2) pe_int) pe_int (nomark _)) (pss_one (ps_set (i := 4) sc__law_run_by.nd rfl (Or.inl rfl) (pe_op op_adS (pv 4) (pv 1)))) (pss_one (ps_set (i := 4) sc__law_run_by.nd rfl (Or.inl rfl) (pe_op op_adS (pv 4) (pe_own O__law_sign_by hr (by rfl) pass0 (pa_cons (pe_op op_fdiv (pv 2) pe_int) pa_nil)))))))))
      (pss_one (ps_ret (pv 4))))))), ?_⟩
  refine ⟨_, rfl, n, 3, rfl, by decide, fun m hm => ?_⟩
  refine ⟨_, rfl, _, _, rfl, rfl, ⟨by decide, by decide⟩, _, _, rfl, rfl, (by show (0 : Int) < 7; decide), _, rfl, _, _, rfl, rfl, ⟨by decide, by decide⟩, _, _, rfl, rfl, (by show (0 : Int) < 50; decide), (by show 2 ≤ sizeLine; decide), fun D hD => ?_⟩
  have a0 : 0 ≤ m / 8 % 7 := Int.emod_nonneg _ (by decide)
  have a1 : m / 8 % 7 < 7 := Int.emod_lt_of_pos _ (by decide)
  have b0 : 0 ≤ m / 8 % 50 := Int.emod_nonneg _ (by decide)
  have b1 : m / 8 % 50 < 50 := Int.emod_lt_of_pos _ (by decide)
  have c0 : 0 ≤ m % 8 := Int.emod_nonneg _ (by decide)
  have c1 : m % 8 < 8 := Int.emod_lt_of_pos _ (by decide)
  obtain ⟨z, hz, z0, z1⟩ : ∃ z : Int, atI [V.int (m / 8 % 7), V.int (m / 8 % 50)] (m % 8 / 7) = some (.int z) ∧ 0 ≤ z ∧ z ≤ 50 := by
    have : m % 8 / 7 = 0 ∨ m % 8 / 7 = 1 := by omega
    rcases this with e | e
    · rw [e]
      exact ⟨_, rfl, a0, by omega⟩
    · rw [e]
      exact ⟨_, rfl, b0, by omega⟩
  have S1 := same_new hD (.lst [V.int (m / 8 % 7), V.int (m / 8 % 50)])
  refine ⟨_, rfl, _, _, rfl, rfl, (by show (0 : Int) < 8; decide), _, _, rfl, rfl, ⟨by decide, by decide⟩, D, _, _, _, rfl, rfl, SqL.of upd_same, hz, ?_⟩
  obtain ⟨mm, rfl⟩ : ∃ mm : Nat, z = (mm : Int) := ⟨z.toNat, by omega⟩
  refine ⟨_, rfl, _, rfl, by omega, by omega, ?_⟩
  refine for_range (fun i σ H' => upd H D (.lst [V.int (m / 8 % 7), V.int (m / 8 % 50)]) = H' ∧ ∃ (r : List Nat) (x y : Option V), r.length = i ∧ (∀ c ∈ r, Sg c ∨ c = b) ∧ σ = [some (.int n), some (.str (S [b])), x, some (.int (mm : Int)), some (.str (S r)), y]) ⟨rfl, [], _, none, rfl, (fun c h => by cases h), rfl⟩ ?_ ?_
  · rintro i σ H' hi ⟨rfl, r, x, y, hr', hc, rfl⟩
    have hi' : i < 51 := by
      have : i < ((mm : Int)).toNat := hi
      omega
    rw [Int.zero_add]
    refine ⟨_, rfl, _, rfl, _, _, rfl, rfl, n, 10 + i, ?_, by omega, fun m2 hm2 => ?_⟩
    · show [V.int n, V.int (10 + (i : Int))] ++ [] = _
      rw [show (10 : Int) + (i : Int) = ((10 + i : Nat) : Int) by omega]
      rfl
    have hlen : r.length + 1 ≤ sizeLine := Nat.le_trans (show _ ≤ 1000000 by omega) (small (Nat.le_refl _))
    refine ⟨_, rfl, _, _, rfl, rfl, (by show (0 : Int) < 9; decide), rfl, _, rfl, ite2 (fun _ => ?_) (fun _ => ?_)⟩
    · refine ⟨_, rfl, _, rfl, r, [b], rfl, rfl, hlen, rfl, r ++ [b], _, _, by rw [List.length_append, hr']; rfl, fun c hc' => ?_, rfl⟩
      rcases List.mem_append.mp hc' with h | h
      · exact hc c h
      · exact .inr (List.mem_singleton.mp h)
    · refine ⟨_, rfl, _, rfl, _, _, rfl, rfl, ⟨by decide, by decide⟩, _, rfl, fun c hcs => ⟨r, [c], rfl, rfl, hlen, rfl, r ++ [c], _, _, by rw [List.length_append, hr']; rfl, fun c' hc' => ?_, rfl⟩⟩
      rcases List.mem_append.mp hc' with h | h
      · exact hc c' h
      · rw [List.mem_singleton.mp h]
        exact .inl hcs
  · rintro σ H' ⟨rfl, r, x, y, hr', hc, rfl⟩
    refine ⟨_, rfl, q r _ S1 ?_ hc⟩
    have : r.length = ((mm : Int)).toNat := hr'
    omega
theorem sc__law_typed_by : FnScope ["_law_verb", "_law_cell"] ["_law_verb", "_law_cell"] (defScope s__law_typed_by) := ⟨rfl, rfl, rfl, by decide +kernel, rfl, by decide +kernel, by decide +kernel⟩
theorem ok_tyby46 (F : Fun K "_law_typed_by" "_law_typed_by" s__law_typed_by f fd) (O__law_number : Own P w K mg base CX0 1 "_law_number" ["_law_cell", "_law_k"] sp_num46) (O__law_run_by : Own P w K mg base CX0 2 "_law_run_by" ["_law_cell", "_law_beside"] sp_rnby46) (O__law_sign_by : Own P w K mg base CX0 1 "_law_sign_by" ["_law_cell"] sp_sgby) (O__law_letter_by : Own P w K mg base CX0 1 "_law_letter_by" ["_law_cell"] sp_smby) : FnOk P w K mg base CX0 3 f fd ["_law_verb", "_law_cell"] sp_tyby := by
  refine F.ok sc__law_typed_by (fun vs H Q E h => ?_) (fun cdv A outer s H vs Q E hr h => ?_)
  · obtain ⟨v, n, rfl, _⟩ := h
    rfl
  obtain ⟨v, n, rfl, hv, q⟩ := h
  refine ⟨_, (pss_cons (ps_if (pt_cmpR op_in_seq (pv 0) (pe_lst (pa_cons pe_str (pa_cons pe_str pa_nil))) rfl) (pss_one (ps_ret (pe_own O__law_run_by hr (by rfl) pass0 (pa_cons (pv 1) (pa_cons pe_str pa_nil))))) pss_nil)
      (pss_cons (ps_if (pt_cmpR op_eq (pv 0) pe_str (nomark _)) (pss_one (ps_ret (pe_own O__law_run_by hr (by rfl) pass0 (pa_cons (pv 1) (pa_cons pe_str pa_nil))))) pss_nil)
      (pss_cons (ps_if (pt_cmpR op_eq (pv 0) pe_str (nomark _)) (pss_one (ps_ret (pe_own O__law_sign_by hr (by rfl) pass0 (pa_cons (pe_own O__law_number hr (by rfl) pass0 (pa_cons (pv 1) (pa_cons pe_int pa_nil))) pa_nil)))) pss_nil)
      (pss_cons (ps_if (pt_cmpR op_eq (pv 0) pe_str (nomark _)) (pss_one (ps_ret (pe_ix ix_S pe_str (pe_op op_mod (pe_own O__law_number hr (by rfl) pass0 (pa_cons (pv 1) (pa_cons pe_int pa_nil))) pe_int) (fun _ _ => rfl)))) pss_nil)
      (pss_cons (ps_if (pt_cmpR op_in_seq (pv 0) (pe_lst (pa_cons pe_str (pa_cons pe_str (pa_cons pe_str pa_nil)))) rfl) (pss_one (ps_ret (pe_own O__law_letter_by hr (by rfl) pass0 (pa_cons (pe_own O__law_number hr (by rfl) pass0 (pa_cons (pv 1) (pa_cons pe_int pa_nil))) pa_nil)))) pss_nil)
      (pss_one (ps_ret pe_str))))))), ?_⟩
  refine ⟨_, rfl, (by show 2 ≤ sizeLine; decide), fun A1 hA1 => ⟨A1, _, rfl, .inl (SqL.of upd_same), rfl, rfl, _, rfl, ?_⟩⟩
  have S1 := same_new hA1 (.lst [V.str "X", V.str "T"])
  rcases hv with rfl | ⟨x, rfl⟩
  · show if inV (.str (S [])) ([88, 84].map fun y => V.str (S [y])) = true then _ else _
    rw [inV_e]
    refine iteF ⟨_, rfl, rfl, _, rfl, iteDF (neE _) ⟨_, rfl, rfl, _, rfl, iteDF (neE _) ⟨_, rfl, rfl, _, rfl, iteDF (neE _) ?_⟩⟩⟩
    refine ⟨_, rfl, (by show 3 ≤ sizeLine; decide), fun A2 hA2 => ⟨A2, _, rfl, .inl (SqL.of upd_same), rfl, rfl, _, rfl, ?_⟩⟩
    show if inV (.str (S [])) ([77, 75, 64].map fun y => V.str (S [y])) = true then _ else _
    rw [inV_e]
    exact iteF (q [] _ (S1.trans (same_new hA2 _)) (.inr (.inr (.inr (.inr (.inr ⟨(fun y hy => by cases hy), rfl⟩))))))
  · show if inV (.str (S [x])) ([88, 84].map fun y => V.str (S [y])) = true then _ else _
    rw [inV_s]
    by_cases e1 : x ∈ [88, 84]
    · have e1' : x = 88 ∨ x = 84 := by simpa using e1
      refine iteDT e1 ⟨_, rfl, n, 10, rfl, fun r H' S' h1 h2 => q r _ (S1.trans S') (.inl ⟨?_, h1, h2⟩)⟩
      rcases e1' with rfl | rfl
      · exact .inl rfl
      · exact .inr rfl
    refine iteDF e1 ⟨_, rfl, rfl, _, rfl, ?_⟩
    by_cases e2 : x = 58
    · subst e2
      exact iteDT rfl ⟨_, rfl, n, 126, rfl, fun r H' S' h1 h2 => q r _ (S1.trans S') (.inr (.inl ⟨rfl, h1, h2⟩))⟩
    refine iteDF (neS e2) ⟨_, rfl, rfl, _, rfl, ?_⟩
    by_cases e3 : x = 82
    · subst e3
      exact iteDT rfl ⟨_, rfl, n, 3, rfl, by decide, fun m hm => ⟨m, rfl, fun c hc => q [c] _ S1 (.inr (.inr (.inl ⟨rfl, c, rfl, hc⟩)))⟩⟩
    refine iteDF (neS e3) ⟨_, rfl, rfl, _, rfl, ?_⟩
    by_cases e4 : x = 86
    · subst e4
      refine iteDT rfl ⟨_, rfl, n, 3, rfl, by decide, fun m hm => ?_⟩
      obtain ⟨k, hk, hat⟩ := at_of [115, 114, 98] (m := 3) m rfl (by decide)
      exact ⟨_, _, rfl, rfl, (by show (0 : Int) < 3; decide), [115, 114, 98], _, _, rfl, rfl, small (by decide), hat, q [k] _ S1 (.inr (.inr (.inr (.inl ⟨rfl, k, rfl, hk⟩))))⟩
    refine iteDF (neS e4) ⟨_, rfl, (by show 3 ≤ sizeLine; decide), fun A2 hA2 => ⟨A2, _, rfl, .inl (SqL.of upd_same), rfl, rfl, _, rfl, ?_⟩⟩
    have S2 := S1.trans (same_new hA2 (.lst [V.str "M", V.str "K", V.str "@"]))
    show if inV (.str (S [x])) ([77, 75, 64].map fun y => V.str (S [y])) = true then _ else _
    rw [inV_s]
    by_cases e5 : x ∈ [77, 75, 64]
    · have e5' : x = 77 ∨ x = 75 ∨ x = 64 := by simpa using e5
      refine iteDT e5 ⟨_, rfl, n, 3, rfl, by decide, fun m hm => ⟨m, rfl, fun c hc => q [c] _ S2 (.inr (.inr (.inr (.inr (.inl ⟨?_, c, rfl, hc⟩)))))⟩⟩
      rcases e5' with rfl | rfl | rfl
      · exact .inl rfl
      · exact .inr (.inl rfl)
      · exact .inr (.inr rfl)
    · refine iteDF e5 (q [] _ S2 (.inr (.inr (.inr (.inr (.inr ⟨fun y hy => ?_, rfl⟩))))))
      cases hy
      simp at e1 e5 ⊢
      omega
end
end My

set_option Elab.async false
set_option linter.all false
set_option maxRecDepth 100000
set_option maxHeartbeats 4000000
namespace My
open PySem L2


section
variable {P : Program} {w : World} {K : PySem.W.Frag} {mg : Str → Option Value} {base : Heap} {f : Addr} {fd : FuncData}
theorem sc__law_phrase : FnScope ["_law_cell", "_law_number_here", "_law_verb", "_law_shelf", "_law_count", "_law_target"] ["_law_cell"] (defScope s__law_phrase) := ⟨rfl, rfl, rfl, by decide +kernel, rfl, by decide +kernel, by decide +kernel⟩
theorem ok_phr46 (F : Fun K "_law_phrase" "_law_phrase" s__law_phrase f fd) (O__law_number : Own P w K mg base CX0 1 "_law_number" ["_law_cell", "_law_k"] sp_num46) (O__law_letter_by : Own P w K mg base CX0 1 "_law_letter_by" ["_law_cell"] sp_smby) (O__law_count_by : Own P w K mg base CX0 1 "_law_count_by" ["_law_cell"] sp_ctby) (O__law_move_by : Own P w K mg base CX0 2 "_law_move_by" ["_law_cell"] sp_mvby) (O__law_target_by : Own P w K mg base CX0 3 "_law_target_by" ["_law_cell"] sp_tgby) (O__law_typed_by : Own P w K mg base CX0 3 "_law_typed_by" ["_law_verb", "_law_cell"] sp_tyby) : FnOk P w K mg base CX0 4 f fd ["_law_cell"] sp_phr46 := by
  refine F.ok sc__law_phrase (fun vs H Q E h => ?_) (fun cdv A outer s H vs Q E hr h => ?_)
  · obtain ⟨c, rfl, _⟩ := h
    rfl
  obtain ⟨c, rfl, q⟩ := h
  refine ⟨_, (pss_cons (ps_set (i := 1) sc__law_phrase.nd rfl (Or.inl rfl) (pe_own O__law_number hr (by rfl) pass0 (pa_cons (pv 0) (pa_cons pe_int pa_nil))))
      (pss_cons (ps_set (i := 2) sc__law_phrase.nd rfl (Or.inl rfl) pe_str)
      (pss_cons (ps_if (pt_cmpR op_lt (pe_op op_mod (pv 1) pe_int) pe_int (nomark _)) (pss_one (ps_set (i := 2) sc__law_phrase.nd rfl (Or.inl rfl) (pe_ix ix_S pe_str (pe_op op_mod (pv 1) pe_int) (fun _ _ => rfl)))) pss_nil)
      (pss_cons (ps_set (i := 3) sc__law_phrase.nd rfl (Or.inl rfl) pe_str)
      (pss_cons (ps_if (PW.pt (pw_and (pt_cmpR op_in_seq (pv 2) (pe_lst (pa_cons pe_str (pa_cons pe_str (pa_cons pe_str (pa_cons pe_str pa_nil))))) rfl) (pw_and1 (pt_cmpR op_eq (pe_op op_mod (pe_op op_fdiv (pv 1) pe_int) pe_int) pe_int (nomark _))))) (pss_one (ps_set (i := 3) sc__law_phrase.nd rfl (Or.inl rfl) (pe_own O__law_letter_by hr (by rfl) pass0 (pa_cons (pe_op op_fdiv (pv 1) pe_int) pa_nil)))) pss_nil)
      (pss_cons (ps_set (i := 4) sc__law_phrase.nd rfl (Or.inl rfl) pe_non)
      (pss_cons (ps_if (pt_cmpR op_notIn_seq (pv 2) (pe_lst (pa_cons pe_str (pa_cons pe_str (pa_cons pe_str (pa_cons pe_str pa_nil))))) rfl) (pss_one (ps_set (i := 4) sc__law_phrase.nd rfl (Or.inl rfl) (pe_own O__law_count_by hr (by rfl) pass0 (pa_cons (pe_own O__law_number hr (by rfl) pass0 (pa_cons (pv 0) (pa_cons pe_int pa_nil))) pa_nil)))) pss_nil)
      (pss_cons (ps_set (i := 5) sc__law_phrase.nd rfl (Or.inl rfl) pe_str)
      (pss_cons (ps_if (pt_cmpR op_eq (pv 2) pe_str (nomark _)) (pss_one (ps_set (i := 5) sc__law_phrase.nd rfl (Or.inl rfl) (pe_own O__law_move_by hr (by rfl) pass0 (pa_cons (pe_own O__law_number hr (by rfl) pass0 (pa_cons (pv 0) (pa_cons pe_int pa_nil))) pa_nil)))) (pss_one (ps_if (pt_cmpR op_in1 (pv 2) pe_str rfl) (pss_one (ps_set (i := 5) sc__law_phrase.nd rfl (Or.inl rfl) (pe_own O__law_target_by hr (by rfl) pass0 (pa_cons (pe_own O__law_number hr (by rfl) pass0 (pa_cons (pv 0) (pa_cons pe_int pa_nil))) pa_nil)))) pss_nil)))
      (pss_one (ps_ret (pe_tup (pa_cons (pv 3) (pa_cons (pv 4) (pa_cons (pv 2) (pa_cons (pv 5) (pa_cons (pe_own O__law_typed_by hr (by rfl) pass0 (pa_cons (pv 2) (pa_cons (pv 0) pa_nil))) pa_nil))))))))))))))))), ?_⟩
  refine ⟨_, rfl, c, 0, rfl, by decide, fun a ha => ?_⟩
  refine gname_go (seq_at (gname_go (seq_at (seq_to (fun σ H' => H = H' ∧ ∃ v : List Nat, (v = [] ∨ ∃ x, x ∈ litV ∧ v = [x]) ∧ σ = [some (.int c), some (.int a), some (.str (S v)), none, none, none]) (fun nx fin => ?_) ?_))))
  · refine ⟨_, rfl, _, _, rfl, rfl, (by show (0 : Int) < 27; decide), _, _, rfl, rfl, _, rfl, ?_⟩
    by_cases z : a % 27 < 22
    · have k0 : 0 ≤ a % 27 := Int.emod_nonneg _ (by decide)
      obtain ⟨j, hj⟩ : ∃ j : Nat, a % 27 = (j : Int) := ⟨_, (Int.toNat_of_nonneg k0).symm⟩
      have hlen : j < litV.length := by show j < 22; omega
      have e : litV[j]? = some litV[j] := List.getElem?_eq_getElem hlen
      have hat : atI litV (a % 27) = some litV[j] := by rw [hj]; exact atI_nat e
      exact iteDT z ⟨_, rfl, _, _, rfl, rfl, (by show (0 : Int) < 27; decide), litV, _, _, rfl, rfl, small (by decide), hat, fin _ _ ⟨rfl, _, .inr ⟨_, List.mem_of_getElem? e, rfl⟩, rfl⟩⟩
    · exact iteDF z (fin _ _ ⟨rfl, [], .inl rfl, rfl⟩)
  rintro σ H' ⟨rfl, v, hv, rfl⟩
  refine gname_go (seq_at (seq_to (fun σ H' => Same H H' ∧ ∃ sh : List Nat, (sh = [] ∨ ∃ c v', sh = [c] ∧ Sm c ∧ v = [v'] ∧ v' ∈ [67, 89, 88, 80]) ∧ σ = [some (.int c), some (.int a), some (.str (S v)), some (.str (S sh)), none, none]) (fun nx fin => ?_) ?_))
  · refine ⟨_, rfl, (by show 4 ≤ sizeLine; decide), fun A1 hA1 => ⟨A1, _, rfl, .inl (SqL.of upd_same), rfl, rfl, _, rfl, ?_⟩⟩
    have S1 := same_new hA1 (.lst [V.str "C", V.str "Y", V.str "X", V.str "P"])
    rcases hv with rfl | ⟨x, hx, rfl⟩
    · show if inV (.str (S [])) ([67, 89, 88, 80].map fun y => V.str (S [y])) = true then _ else _
      rw [inV_e]
      exact iteF (iteF (fin _ _ ⟨S1, [], .inl rfl, rfl⟩))
    · show if inV (.str (S [x])) ([67, 89, 88, 80].map fun y => V.str (S [y])) = true then _ else _
      rw [inV_s]
      by_cases e : x ∈ [67, 89, 88, 80]
      · refine iteDT e ⟨_, rfl, _, _, rfl, rfl, ⟨by decide, by decide⟩, _, _, rfl, rfl, (by show (0 : Int) < 2; decide), rfl, _, rfl, ite2 (fun _ => ?_) (fun _ => fin _ _ ⟨S1, [], .inl rfl, rfl⟩)⟩
        exact ⟨_, rfl, _, _, rfl, rfl, ⟨by decide, by decide⟩, _, rfl, fun d hd => fin _ _ ⟨S1, [d], .inr ⟨d, x, rfl, hd, rfl, e⟩, rfl⟩⟩
      · exact iteDF e (iteF (fin _ _ ⟨S1, [], .inl rfl, rfl⟩))
  rintro σ H1 ⟨S1, sh, hsh, rfl⟩
  refine gname_go (seq_at (seq_to (fun σ H' => Same H H' ∧ ∃ ct : Option Nat, (∀ n, ct = some n → 1 ≤ n ∧ n ≤ 999 ∧ ∀ v', v = [v'] → ¬ v' ∈ [77, 75, 86, 58]) ∧ σ = [some (.int c), some (.int a), some (.str (S v)), some (.str (S sh)), some (optV ct), none]) (fun nx fin => ?_) ?_))
  · refine ⟨_, rfl, (by show 4 ≤ sizeLine; decide), fun A2 hA2 => ⟨A2, _, rfl, .inl (SqL.of upd_same), rfl, rfl, _, rfl, ?_⟩⟩
    have S2 := S1.trans (same_new hA2 (.lst [V.str "M", V.str "K", V.str "V", V.str ":"]))
    rcases hv with rfl | ⟨x, hx, rfl⟩
    · show if (!inV (.str (S [])) ([77, 75, 86, 58].map fun y => V.str (S [y]))) = true then _ else _
      rw [inV_e]
      exact iteT ⟨_, rfl, c, 1, rfl, by decide, fun b hb => ⟨_, rfl, fun o ho => fin _ _ ⟨S2, o, fun n hn => ⟨(ho n hn).1, (ho n hn).2, (fun v' z => by cases z)⟩, rfl⟩⟩⟩
    · show if (!inV (.str (S [x])) ([77, 75, 86, 58].map fun y => V.str (S [y]))) = true then _ else _
      rw [inV_s]
      by_cases e : x ∈ [77, 75, 86, 58]
      · exact iteNS e (fin _ _ ⟨S2, none, (fun n hn => by cases hn), rfl⟩)
      · exact iteNF e ⟨_, rfl, c, 1, rfl, by decide, fun b hb => ⟨_, rfl, fun o ho => fin _ _ ⟨S2, o, fun n hn => ⟨(ho n hn).1, (ho n hn).2, (fun v' z => by cases z; exact e)⟩, rfl⟩⟩⟩
  rintro σ H2 ⟨S2, ct, hct, rfl⟩
  refine gname_go (seq_at (seq_to (fun σ H' => H2 = H' ∧ ∃ tg : List Nat, ((v = [] → MoveK tg) ∧ (∀ x, v = [x] → x ∈ litVt → TargK tg) ∧ (∀ x, v = [x] → ¬ x ∈ litVt → tg = [])) ∧ σ = [some (.int c), some (.int a), some (.str (S v)), some (.str (S sh)), some (optV ct), some (.str (S tg))]) (fun nx fin => ?_) ?_))
  · refine ⟨_, rfl, rfl, _, rfl, ?_⟩
    rcases hv with rfl | ⟨x, hx, rfl⟩
    · exact iteDT rfl ⟨_, rfl, c, 2, rfl, by decide, fun b hb => ⟨_, rfl, fun k hk => fin _ _ ⟨rfl, k, ⟨fun _ => hk, (fun x z => by cases z), (fun x z => by cases z)⟩, rfl⟩⟩⟩
    · refine iteDF (fun z => by have := S_inj (V.str.inj z); cases this) ⟨_, rfl, x, litVt, rfl, rfl, _, rfl, ?_⟩
      by_cases e : x ∈ litVt
      · exact iteDT e ⟨_, rfl, c, 2, rfl, by decide, fun b hb => ⟨_, rfl, fun k hk => fin _ _ ⟨rfl, k, ⟨(fun z => by cases z), fun y _ _ => hk, (fun y z hn => by cases z; exact absurd e hn)⟩, rfl⟩⟩⟩
      · exact iteDF e (fin _ _ ⟨rfl, [], ⟨(fun z => by cases z), (fun y z hn => by cases z; exact absurd hn e), fun _ _ _ => rfl⟩, rfl⟩)
  rintro σ H' ⟨rfl, tg, ⟨t1, t2, t3⟩, rfl⟩
  refine ⟨_, rfl, _, rfl, _, rfl, _, rfl, _, rfl, _, rfl, v, c, rfl, (by rcases hv with h | ⟨x, _, h⟩; exact .inl h; exact .inr ⟨x, h⟩), fun r H3 S3 hr' => ⟨(by show 5 ≤ sizeLine; decide), fun t ht => ?_⟩⟩
  exact q ⟨sh, ct, v, tg, r⟩ t _ (S2.trans (S3.trans (same_new ht _))) ⟨hv, hsh, hct, t1, t2, t3, hr'⟩ upd_same
end
end My

set_option Elab.async false
set_option linter.all false
set_option maxRecDepth 100000
set_option maxHeartbeats 4000000
namespace My
open PySem L2



/-! the program's Reader, and what is read by it -/

abbrev lit_SIGNS : List Nat := [32, 33, 34, 35, 36, 38, 39, 40, 41, 42, 43, 44, 45, 46, 47, 48, 49, 50, 51, 52, 53, 54, 55, 56, 57, 58, 59, 60, 61, 62, 63, 64, 65, 66, 67, 68, 69, 70, 71, 72, 73, 74, 75, 76, 77, 78, 79, 80, 81, 82, 83, 84, 85, 86, 87, 88, 89, 90, 91, 92, 93, 94, 95, 96, 97, 98, 99, 100, 101, 102, 103, 104, 105, 106, 107, 108, 109, 110, 111, 112, 113, 114, 115, 116, 117, 118, 119, 120, 121, 122, 123, 124, 125]
abbrev lit_LETTERS : List Nat := [97, 98, 99, 100, 101, 102, 103, 104, 105, 106, 107, 108, 109, 110, 111, 112, 113, 114, 115, 116, 117, 118, 119, 120, 121, 122]
abbrev lit_MOVES : List Nat := [104, 108, 106, 107, 98, 101, 119, 118, 111, 102, 116, 103, 122, 112, 109]
abbrev lit_THINGS : List Nat := [99, 97, 105, 114, 40, 91, 123, 41, 93, 125, 39, 34, 115]
abbrev lit_WITH_SHELF : List Nat := [67, 89, 88, 80]
abbrev lit_WITH_COUNT : List Nat := [67, 89, 88, 71, 83, 68, 70, 74, 84, 82, 80, 90, 65, 78, 69, 76, 46, 64]
abbrev lit_WITHOUT_COUNT : List Nat := [77, 75, 86, 58]
abbrev lit_WITH_TARGET : List Nat := [67, 89, 88, 71, 83, 68, 70, 74]
abbrev d19 : List Nat := [49, 50, 51, 52, 53, 54, 55, 56, 57]
abbrev d09 : List Nat := [48, 49, 50, 51, 52, 53, 54, 55, 56, 57]
abbrev RS := List Nat × Bool
def mt (w : List Nat) (s : RS) : Bool := !s.2 && (match s.1 with | c :: _ => decide (c ∈ w) | [] => false)
def tk (w : List Nat) (s : RS) : List Nat × RS := if mt w s = true then (s.1.take 1, (s.1.drop 1, s.2)) else ([], (s.1, true))
def tka (w : List Nat) (s : RS) : List Nat × RS := if s.2 = true then ([], s) else (s.1.takeWhile (fun c => decide (c ∈ w)), (s.1.dropWhile (fun c => decide (c ∈ w)), false))
def rdF (r : List Nat) (i : Nat) (b : Bool) : List (Str × V) := [("row", .str (S r)), ("at", nV i), ("stuck", .bl b)]
theorem rd_row (r : List Nat) (i : Nat) (b : Bool) : (rdF r i b).lookup ("row" : Str) = some (.str (S r)) := by unfold rdF; rfl
theorem rd_at (r : List Nat) (i : Nat) (b : Bool) : (rdF r i b).lookup ("at" : Str) = some (nV i) := by unfold rdF; rfl
theorem rd_stuck (r : List Nat) (i : Nat) (b : Bool) : (rdF r i b).lookup ("stuck" : Str) = some (.bl b) := by unfold rdF; rfl
theorem rd_no1 (r : List Nat) (i : Nat) (b : Bool) : (rdF r i b).lookup ("meets" : Str) = none := by unfold rdF; rfl
theorem rd_no2 (r : List Nat) (i : Nat) (b : Bool) : (rdF r i b).lookup ("take" : Str) = none := by unfold rdF; rfl
theorem rd_no3 (r : List Nat) (i : Nat) (b : Bool) : (rdF r i b).lookup ("take_all" : Str) = none := by unfold rdF; rfl
theorem rd_put_at (r : List Nat) (i j : Nat) (b : Bool) : putF "at" (nV j) (rdF r i b) = rdF r j b := by unfold rdF; rfl
theorem rd_put_stuck (r : List Nat) (i : Nat) (b c : Bool) : putF "stuck" (.bl c) (rdF r i b) = rdF r i c := by unfold rdF; rfl
theorem rd_len (r : List Nat) (i : Nat) (b : Bool) : (rdF r i b).length < 1000 := by show 3 < 1000; decide
structure RdrT (K : PySem.W.Frag) (C : Addr) : Prop where
  cl : Cls K C
  nR : NoAttr K C "row"
  nA : NoAttr K C "at"
  nS : NoAttr K C "stuck"
structure RdAt (C p : Addr) (r : List Nat) (s : RS) (H : Hp) : Prop where
  at_ : ∃ dx, H p = some (.ins C dx (rdF r (r.length - s.1.length) s.2))
  sf : s.1 <:+ r
  le : r.length ≤ 1000
theorem sfx_head {r u : List Nat} (h : u <:+ r) (n : u ≠ []) : r.length - u.length < r.length ∧ r[r.length - u.length]? = u.head? := by
  obtain ⟨a, rfl⟩ := h
  have hu : 0 < u.length := List.length_pos_iff.mpr n
  have e : (a ++ u).length - u.length = a.length := by rw [List.length_append]; omega
  rw [e]
  refine ⟨by rw [List.length_append]; omega, ?_⟩
  rw [List.getElem?_append_right (Nat.le_refl _), Nat.sub_self, List.head?_eq_getElem?]
def sp_rinit (C : Addr) : Sp := fun vs H Q _ => ∃ (x dx : Addr) (r : List Nat), vs = [.ref x, .str (S r)] ∧ H x = some (.ins C dx []) ∧ r.length ≤ 1000 ∧ ∀ H', Upto x H H' → RdAt C x r (r, false) H' → Q .non H'
def sp_meets (C : Addr) : Sp := fun vs H Q _ => ∃ (p : Addr) (r w : List Nat) (s : RS), vs = [.ref p, .str (S w)] ∧ RdAt C p r s H ∧ Q (.bl (mt w s)) H
def sp_take (C : Addr) : Sp := fun vs H Q _ => ∃ (p : Addr) (r w : List Nat) (s : RS), vs = [.ref p, .str (S w)] ∧ RdAt C p r s H ∧ ∀ H', Upto p H H' → RdAt C p r (tk w s).2 H' → Q (.str (S (tk w s).1)) H'
def sp_takeall (C : Addr) : Sp := fun vs H Q _ => ∃ (p : Addr) (r w : List Nat) (s : RS), vs = [.ref p, .str (S w)] ∧ RdAt C p r s H ∧ ∀ H', Upto p H H' → RdAt C p r (tka w s).2 H' → Q (.str (S (tka w s).1)) H'
section
variable {P : Program} {w : World} {K : PySem.W.Frag} {mg : Str → Option Value} {base : Heap} {f C : Addr} {fd : FuncData}
theorem sc_Reader__init : FnScope ["self", "row"] ["self", "row"] (defScope s_Reader__init) := ⟨rfl, rfl, rfl, by decide +kernel, rfl, by decide +kernel, by decide +kernel⟩
theorem ok_rinit (F : Fun K "__init__" "Reader.__init__" s_Reader__init f fd) (T : RdrT K C) : FnOk P w K mg base CX0 1 f fd ["self", "row"] (sp_rinit C) := by
  refine F.ok sc_Reader__init (fun vs H Q E h => ?_) (fun cdv A outer s H vs Q E hr h => ?_)
  · obtain ⟨x, dx, r, rfl, _⟩ := h
    rfl
  obtain ⟨x, dx, r, rfl, hx, hl, q⟩ := h
  refine ⟨_, (pss_cons (ps_fld (pv 0) (pv 1) rfl)
      (pss_cons (ps_fld (pv 0) pe_int rfl)
      (pss_one (ps_fld (pv 0) pe_bl rfl)))), ?_⟩
  refine ⟨_, rfl, _, rfl, x, C, dx, _, rfl, hx, T.cl, T.nR, (by show 0 < 1000; decide), ?_⟩
  refine ⟨_, rfl, x, C, dx, _, rfl, upd_same, T.cl, T.nA, (by show 1 < 1000; decide), ?_⟩
  refine ⟨_, rfl, x, C, dx, _, rfl, upd_same, T.cl, T.nS, (by show 2 < 1000; decide), ?_⟩
  refine q _ (((upto_upd x H _).trans (upto_upd x _ _)).trans (upto_upd x _ _)) ⟨⟨dx, ?_⟩, List.suffix_refl _, hl⟩
  rw [upd_same]
  show some (HO.ins C dx _) = some (HO.ins C dx (rdF r (r.length - r.length) false))
  rw [Nat.sub_self]
  rfl
theorem sc_Reader__meets : FnScope ["self", "wanted"] ["self", "wanted"] (defScope s_Reader__meets) := ⟨rfl, rfl, rfl, by decide +kernel, rfl, by decide +kernel, by decide +kernel⟩
theorem ok_meets (F : Fun K "meets" "Reader.meets" s_Reader__meets f fd) (T : RdrT K C) (m_len : mg "len" = none) : FnOk P w K mg base CX0 1 f fd ["self", "wanted"] (sp_meets C) := by
  refine F.ok sc_Reader__meets (fun vs H Q E h => ?_) (fun cdv A outer s H vs Q E hr h => ?_)
  · obtain ⟨p, r, wd, s, rfl, _⟩ := h
    rfl
  obtain ⟨p, r, wd, ⟨u, b⟩, rfl, ⟨⟨dx, hp⟩, sf, hl⟩, q⟩ := h
  refine ⟨_, (pss_one (ps_ret (pe_and (pe_not (pe_fld (pv 0) rfl)) (pe_and (pe_cmpR op_lt (pe_fld (pv 0) rfl) (pe_callB call_lenS (by rfl) m_len PySem.boot_len (pa_cons (pe_fld (pv 0) rfl) pa_nil)) (nomark _)) (pe_one (pe_cmpR op_in1 (pe_ix ix_S (pe_fld (pv 0) rfl) (pe_fld (pv 0) rfl) (fun _ _ => rfl)) (pv 1) rfl)))))), ?_⟩
  dsimp only at hp sf
  refine ⟨_, rfl, p, C, dx, _, _, rfl, hp, T.cl, T.nS, rd_stuck _ _ _, _, rfl, _, rfl, ?_⟩
  cases b with
  | true => exact iteF q
  | false =>
    refine iteT ⟨_, rfl, p, C, dx, _, _, rfl, hp, T.cl, T.nA, rd_at _ _ _, _, rfl, p, C, dx, _, _, rfl, hp, T.cl, T.nR, rd_row _ _ _, r, rfl, small (by omega), _, _, rfl, rfl, _, rfl, ?_⟩
    cases u with
    | nil => exact iteDF (by show ¬ (((r.length - 0 : Nat) : Int) < (r.length : Int)); omega) q
    | cons c u =>
      obtain ⟨h1, h2⟩ := sfx_head sf (by simp)
      exact iteDT (by omega) ⟨_, rfl, p, C, dx, _, _, rfl, hp, T.cl, T.nR, rd_row _ _ _, _, rfl, p, C, dx, _, _, rfl, hp, T.cl, T.nA, rd_at _ _ _, r, _, c, rfl, rfl, small (by omega), atI_nat h2, _, rfl, c, wd, rfl, rfl, q⟩
end

/-! the program's Reader: take, take_all -/

theorem mt_cons {wd : List Nat} {s : RS} (h : mt wd s = true) : ∃ c u, s = (c :: u, false) ∧ c ∈ wd := by
  obtain ⟨u, b⟩ := s
  cases b with
  | true => cases h
  | false =>
    cases u with
    | nil => cases h
    | cons c u =>
      refine ⟨c, u, rfl, ?_⟩
      have h' : decide (c ∈ wd) = true := h
      exact of_decide_eq_true h'
theorem sfx_tail {c : Nat} {u r : List Nat} (h : c :: u <:+ r) : u <:+ r ∧ r.length - u.length = r.length - (c :: u).length + 1 := by
  obtain ⟨a, rfl⟩ := h
  refine ⟨⟨a ++ [c], by simp⟩, ?_⟩
  rw [List.length_append, List.length_cons]
  omega
def taP (C p : Addr) (r wd u0 : List Nat) (b : Bool) (H : Hp) (σ : St) (H' : Hp) : Prop := Upto p H H' ∧ ∃ t u, u0 = t ++ u ∧ (∀ c ∈ t, c ∈ wd) ∧ (b = true → t = []) ∧ RdAt C p r (u, b) H' ∧ σ = [some (.ref p), some (.str (S wd)), some (nV (r.length - u0.length))]
def taM (p : Addr) (_ : St) (H : Hp) : Nat := match H p with
  | some (.ins _ _ fs) => (match fs.lookup ("at" : Str) with | some (.int i) => 1000 - i.toNat | _ => 0)
  | _ => 0
theorem taM_at {p C dx : Addr} {r : List Nat} {i : Nat} {b : Bool} {σ : St} {H : Hp} (h : H p = some (.ins C dx (rdF r i b))) : taM p σ H = 1000 - i := by
  unfold taM
  rw [h]
  dsimp only
  rw [rd_at]
  rfl
theorem tw_app {q : Nat → Bool} : ∀ {t u : List Nat}, (∀ c ∈ t, q c = true) → (∀ c, u.head? = some c → q c = false) → (t ++ u).takeWhile q = t ∧ (t ++ u).dropWhile q = u
  | [], u, _, h => by
    cases u with
    | nil => exact ⟨rfl, rfl⟩
    | cons c u =>
      have hc := h c rfl
      simp [hc]
  | c :: t, u, h1, h2 => by
    have ih := tw_app (t := t) (u := u) (fun x hx => h1 x (List.mem_cons_of_mem _ hx)) h2
    have hc := h1 c (List.mem_cons_self ..)
    simp only [List.cons_append, List.takeWhile_cons, List.dropWhile_cons, hc, if_true]
    exact ⟨by rw [ih.1], ih.2⟩
section
variable {P : Program} {w : World} {K : PySem.W.Frag} {mg : Str → Option Value} {base : Heap} {f C : Addr} {fd : FuncData}
theorem sc_Reader__take : FnScope ["self", "wanted"] ["self", "wanted"] (defScope s_Reader__take) := ⟨rfl, rfl, rfl, by decide +kernel, rfl, by decide +kernel, by decide +kernel⟩
theorem ok_take (F : Fun K "take" "Reader.take" s_Reader__take f fd) (T : RdrT K C) (O_Reader__meets : OwnM P w K mg base CX0 1 C "meets" ["self", "wanted"] (sp_meets C)) : FnOk P w K mg base CX0 2 f fd ["self", "wanted"] (sp_take C) := by
  refine F.ok sc_Reader__take (fun vs H Q E h => ?_) (fun cdv A outer s H vs Q E hr h => ?_)
  · obtain ⟨p, r, wd, s, rfl, _⟩ := h
    rfl
  obtain ⟨p, r, wd, s, rfl, hR, q⟩ := h
  refine ⟨_, (pss_cons (ps_if (pt_not (pt_val (pe_ownM O_Reader__meets hr (pv 0) pass0 (pa_cons (pv 1) pa_nil)))) (pss_cons (ps_fld (pv 0) pe_bl rfl)
      (pss_one (ps_ret pe_str))) pss_nil)
      (pss_cons (ps_fld (pv 0) (pe_op op_add (pe_fld (pv 0) rfl) pe_int) rfl)
      (pss_one (ps_ret (pe_ix ix_S (pe_fld (pv 0) rfl) (pe_op op_sub (pe_fld (pv 0) rfl) pe_int) (fun _ _ => rfl)))))), ?_⟩
  obtain ⟨⟨dx, hp⟩, sf, hl⟩ := id hR
  refine ⟨_, rfl, p, dx, _, rfl, hp, rd_no1 _ _ _, _, rfl, p, r, wd, s, rfl, hR, _, rfl, ?_⟩
  unfold tk at q
  cases e : mt wd s with
  | false =>
    rw [e] at q
    refine iteT ⟨_, rfl, p, C, dx, _, rfl, hp, T.cl, T.nS, rd_len _ _ _, ?_⟩
    refine q _ (upto_upd _ _ _) ⟨⟨dx, ?_⟩, sf, hl⟩
    rw [upd_same, rd_put_stuck]
    rfl
  | true =>
    rw [e] at q
    obtain ⟨c, u, rfl, hc⟩ := mt_cons e
    obtain ⟨h1, h2⟩ := sfx_head sf (by simp)
    obtain ⟨h3, h4⟩ := sfx_tail sf
    dsimp only at hp h1 h2 h4
    have hn : ((r.length - (c :: u).length : Nat) : Int) + 1 = ((r.length - u.length : Nat) : Int) := by omega
    refine iteF ⟨_, rfl, p, C, dx, _, _, rfl, hp, T.cl, T.nA, rd_at _ _ _, _, _, rfl, rfl, _, rfl, p, C, dx, _, rfl, hp, T.cl, T.nA, rd_len _ _ _, ?_⟩
    have hp2 : (upd H p (.ins C dx (putF "at" (V.int (((r.length - (c :: u).length : Nat) : Int) + 1)) (rdF r (r.length - (c :: u).length) false)))) p = some (.ins C dx (rdF r (r.length - u.length) false)) := by
      rw [upd_same, hn]
      exact congrArg (fun l => some (HO.ins C dx l)) (rd_put_at _ _ _ _)
    have U := upto_upd p H (.ins C dx (putF "at" (V.int (((r.length - (c :: u).length : Nat) : Int) + 1)) (rdF r (r.length - (c :: u).length) false)))
    generalize (upd H p (.ins C dx (putF "at" (V.int (((r.length - (c :: u).length : Nat) : Int) + 1)) (rdF r (r.length - (c :: u).length) false)))) = H2 at hp2 U
    refine ⟨_, rfl, p, C, dx, _, _, rfl, hp2, T.cl, T.nR, rd_row _ _ _, _, rfl, p, C, dx, _, _, rfl, hp2, T.cl, T.nA, rd_at _ _ _, _, _, rfl, rfl, r, _, c, rfl, rfl, small (by omega), ?_, q _ U ⟨⟨dx, hp2⟩, h3, hl⟩⟩
    show atI r (((r.length - u.length : Nat) : Int) - 1) = some c
    rw [← hn, Int.add_sub_cancel]
    exact atI_nat h2
theorem sc_Reader__take_all : FnScope ["self", "wanted", "begin"] ["self", "wanted"] (defScope s_Reader__take_all) := ⟨rfl, rfl, rfl, by decide +kernel, rfl, by decide +kernel, by decide +kernel⟩
theorem ok_takeall (F : Fun K "take_all" "Reader.take_all" s_Reader__take_all f fd) (T : RdrT K C) (O_Reader__meets : OwnM P w K mg base CX0 1 C "meets" ["self", "wanted"] (sp_meets C)) : FnOk P w K mg base CX0 2 f fd ["self", "wanted"] (sp_takeall C) := by
  refine F.ok sc_Reader__take_all (fun vs H Q E h => ?_) (fun cdv A outer s H vs Q E hr h => ?_)
  · obtain ⟨p, r, wd, s, rfl, _⟩ := h
    rfl
  obtain ⟨p, r, wd, ⟨u0, b⟩, rfl, hR, q⟩ := h
  refine ⟨_, (pss_cons (ps_set (i := 2) sc_Reader__take_all.nd rfl (Or.inl rfl) (pe_fld (pv 0) rfl))
      (pss_cons (ps_while PassesOwn.never (pt_val (pe_ownM O_Reader__meets hr (pv 0) pass0 (pa_cons (pv 1) pa_nil))) (pss_one (ps_fld (pv 0) (pe_op op_add (pe_fld (pv 0) rfl) pe_int) rfl)))
      (pss_one (ps_ret (pe_slice sl_str (pe_fld (pv 0) rfl) (po_some (pv 2)) (po_some (pe_fld (pv 0) rfl))))))), ?_⟩
  obtain ⟨⟨dx0, hp0⟩, sf0, hl⟩ := id hR
  dsimp only at hp0 sf0
  refine ⟨_, rfl, p, C, dx0, _, _, rfl, hp0, T.cl, T.nA, rd_at _ _ _, ?_⟩
  refine gname_go (seq_at (seq_to (fun σ H' => Upto p H H' ∧ RdAt C p r (tka wd (u0, b)).2 H' ∧ (∃ i : Nat, (tka wd (u0, b)).2.1 = u0.drop i ∧ (tka wd (u0, b)).1 = u0.take i) ∧ σ = [some (.ref p), some (.str (S wd)), some (nV (r.length - u0.length))]) (fun nx fin => ?_) ?_))
  · refine while_in (taP C p r wd u0 b H) (taM p) ⟨Upto.refl _ _, [], u0, rfl, (fun c hc => by cases hc), (fun _ => rfl), hR, rfl⟩ ?_
    rintro σ H' ⟨U, t, u, e0, ht, hb, hR', rfl⟩
    obtain ⟨⟨dx, hp⟩, sf, _⟩ := id hR'
    dsimp only at hp sf
    refine ⟨_, rfl, p, dx, _, rfl, hp, rd_no1 _ _ _, _, rfl, p, r, wd, (u, b), rfl, hR', _, rfl, ?_⟩
    cases e : mt wd (u, b) with
    | false =>
      refine iteF (fin _ _ ⟨U, ?_, ⟨t.length, ?_⟩, rfl⟩)
      all_goals
        unfold tka
        cases b with
        | true =>
          have := hb rfl
          subst this
          have e0' : u0 = u := e0
          subst e0'
          first | exact hR' | exact ⟨rfl, rfl⟩
        | false =>
          have hh : ∀ c, u.head? = some c → decide (c ∈ wd) = false := fun c hc => by
            cases u with
            | nil => cases hc
            | cons x u =>
              cases hc
              have e' : decide (c ∈ wd) = false := e
              exact e'
          obtain ⟨a1, a2⟩ := tw_app (q := fun c => decide (c ∈ wd)) (t := t) (u := u) (fun c hc => decide_eq_true (ht c hc)) hh
          rw [if_neg (show ¬ false = true from Bool.false_ne_true), e0, a1, a2]
          first | exact hR' | exact ⟨by rw [List.drop_left], by rw [List.take_left]⟩
    | true =>
      obtain ⟨c, u', e1, hc⟩ := mt_cons e
      cases e1
      obtain ⟨h1, h2⟩ := sfx_head sf (by simp)
      obtain ⟨h3, h4⟩ := sfx_tail sf
      have hn : ((r.length - (c :: u').length : Nat) : Int) + 1 = ((r.length - u'.length : Nat) : Int) := by omega
      have hp2 : (upd H' p (.ins C dx (putF "at" (V.int (((r.length - (c :: u').length : Nat) : Int) + 1)) (rdF r (r.length - (c :: u').length) false)))) p = some (.ins C dx (rdF r (r.length - u'.length) false)) := by
        rw [upd_same, hn]
        exact congrArg (fun l => some (HO.ins C dx l)) (rd_put_at _ _ _ _)
      refine iteT ⟨_, turn_N (Pv := taP C p r wd u0 false H) (μ := taM p), ?_⟩
      refine ⟨_, rfl, p, C, dx, _, _, rfl, hp, T.cl, T.nA, rd_at _ _ _, _, _, rfl, rfl, _, rfl, p, C, dx, _, rfl, hp, T.cl, T.nA, rd_len _ _ _, ⟨U.trans (upto_upd _ _ _), t ++ [c], u', ?_, ?_, (fun z => by cases z), ⟨⟨dx, hp2⟩, h3, hl⟩, rfl⟩, ?_⟩
      · rw [e0]
        simp
      · intro x hx
        rcases List.mem_append.mp hx with z | z
        · exact ht x z
        · rw [List.mem_singleton] at z
          subst z
          exact hc
      · show taM p _ (upd H' p _) < taM p _ H'
        rw [taM_at hp2, taM_at hp]
        omega
  rintro σ H' ⟨U, hR', ⟨i, e1, e2⟩, rfl⟩
  obtain ⟨⟨dx, hp⟩, sf, _⟩ := id hR'
  refine ⟨_, rfl, p, C, dx, _, _, rfl, hp, T.cl, T.nR, rd_row _ _ _, _, rfl, _, rfl, _, rfl, p, C, dx, _, _, rfl, hp, T.cl, T.nA, rd_at _ _ _, _, rfl, r, rfl, small (by omega), ?_⟩
  have e3 : cutL r (some ((r.length - u0.length : Nat) : Int)) (some ((r.length - (tka wd (u0, b)).2.1.length : Nat) : Int)) = (tka wd (u0, b)).1 := by
    rw [cutL_nn, e1, e2]
    obtain ⟨a, ea⟩ := sf0
    have hd : r.drop (r.length - u0.length) = u0 := by
      rw [← ea, show (a ++ u0).length - u0.length = a.length by rw [List.length_append]; omega]
      exact List.drop_left
    rw [hd, List.length_drop]
    have hlu : u0.length ≤ r.length := by rw [← ea, List.length_append]; omega
    rcases Nat.le_total i u0.length with z | z
    · congr 1
      omega
    · rw [List.take_of_length_le (by omega), List.take_of_length_le z]
  rw [e3]
  exact q _ U hR'
end

/-! the program's reading of a phrase, part by part -/

def rdSh (s : RS) : List Nat × RS := if mt [34] s = true then tk lit_LETTERS (tk [34] s).2 else ([], s)
def ctLoop : Nat → List Nat → RS → List Nat × RS
  | 0, f, s => (f, s)
  | n + 1, f, s => if mt d09 s = true then ctLoop n (f ++ (tk d09 s).1) (tk d09 s).2 else (f, s)
def rdCt (s : RS) : Option Nat × RS := if mt d19 s = true then (some (numL (ctLoop 2 (tk d19 s).1 (tk d19 s).2).1), (ctLoop 2 (tk d19 s).1 (tk d19 s).2).2) else (none, s)
def rdVb (sh : List Nat) (ct : Option Nat) (s : RS) : List Nat × RS := if ¬ sh = [] then tk lit_WITH_SHELF s else if mt lit_MOVES s = true then ([], s) else if ct.isSome = true then tk lit_WITH_COUNT s else tk (lit_WITH_COUNT ++ lit_WITHOUT_COUNT) s
def rdAim (wd : List Nat) (s : RS) : List Nat × RS := if (tk wd s).1 = [102] ∨ (tk wd s).1 = [116] then ((tk wd s).1 ++ (tk lit_SIGNS (tk wd s).2).1, (tk lit_SIGNS (tk wd s).2).2) else if (tk wd s).1 = [109] then ((tk wd s).1 ++ (tk lit_LETTERS (tk wd s).2).1, (tk lit_LETTERS (tk wd s).2).2) else tk wd s
def rdTg (vb : List Nat) (s : RS) : List Nat × RS := match vb with
  | [] => rdAim lit_MOVES s
  | x :: _ => if x ∈ lit_WITH_TARGET then rdAim (lit_MOVES ++ lit_THINGS) s else ([], s)
def rdUp (e wd : List Nat) (s : RS) : List Nat × RS := ((tka wd s).1, (tk e (tka wd s).2).2)
def rdTy (vb : List Nat) (s : RS) : List Nat × RS :=
  if vb = [88] ∨ vb = [84] then rdUp [126] (lit_SIGNS ++ [10]) s else if vb = [58] then rdUp [10] (lit_SIGNS ++ [126]) s else if vb = [82] then tk lit_SIGNS s else if vb = [77] ∨ vb = [75] ∨ vb = [64] then tk lit_LETTERS s else if vb = [86] then tk [115, 114, 98] s else ([], s)
def One (l : List Nat) : Prop := l = [] ∨ ∃ x, l = [x]
theorem tk_one (wd : List Nat) (s : RS) : One (tk wd s).1 := by
  unfold tk
  cases e : mt wd s with
  | false => exact .inl rfl
  | true =>
    obtain ⟨c, u, rfl, _⟩ := mt_cons e
    exact .inr ⟨c, rfl⟩
theorem tk_in {wd : List Nat} {s : RS} (h : mt wd s = true) : ∃ c, (tk wd s).1 = [c] ∧ c ∈ wd := by
  obtain ⟨c, u, rfl, hc⟩ := mt_cons h
  exact ⟨c, by unfold tk; rw [if_pos h]; rfl, hc⟩
theorem rdVb_one (sh : List Nat) (ct : Option Nat) (s : RS) : One (rdVb sh ct s).1 := by
  unfold rdVb
  split
  · exact tk_one _ _
  · split
    · exact .inl rfl
    · split <;> exact tk_one _ _
def sp_rd (C : Addr) (g : RS → List Nat × RS) : Sp := fun vs H Q _ => ∃ (p : Addr) (r : List Nat) (s : RS), vs = [.ref p] ∧ RdAt C p r s H ∧ ∀ H', Upto p H H' → RdAt C p r (g s).2 H' → Q (.str (S (g s).1)) H'
def sp_rdct (C : Addr) : Sp := fun vs H Q _ => ∃ (p : Addr) (r : List Nat) (s : RS), vs = [.ref p] ∧ RdAt C p r s H ∧ ∀ H', Upto p H H' → RdAt C p r (rdCt s).2 H' → Q (optV (rdCt s).1) H'
def sp_rdvb (C : Addr) : Sp := fun vs H Q _ => ∃ (p : Addr) (r sh : List Nat) (ct : Option Nat) (s : RS), vs = [.ref p, .str (S sh), optV ct] ∧ RdAt C p r s H ∧ ∀ H', Upto p H H' → RdAt C p r (rdVb sh ct s).2 H' → Q (.str (S (rdVb sh ct s).1)) H'
def sp_rdaim (C : Addr) : Sp := fun vs H Q _ => ∃ (p : Addr) (r wd : List Nat) (s : RS), vs = [.ref p, .str (S wd)] ∧ RdAt C p r s H ∧ ∀ H', Upto p H H' → RdAt C p r (rdAim wd s).2 H' → Q (.str (S (rdAim wd s).1)) H'
def sp_rdv (C : Addr) (g : List Nat → RS → List Nat × RS) : Sp := fun vs H Q _ => ∃ (p : Addr) (r vb : List Nat) (s : RS), vs = [.ref p, .str (S vb)] ∧ One vb ∧ RdAt C p r s H ∧ ∀ H', Upto p H H' → RdAt C p r (g vb s).2 H' → Q (.str (S (g vb s).1)) H'
def sp_rdup (C : Addr) : Sp := fun vs H Q _ => ∃ (p : Addr) (r e wd : List Nat) (s : RS), vs = [.ref p, .str (S e), .str (S wd)] ∧ RdAt C p r s H ∧ ∀ H', Upto p H H' → RdAt C p r (rdUp e wd s).2 H' → Q (.str (S (rdUp e wd s).1)) H'
section
variable {P : Program} {w : World} {K : PySem.W.Frag} {mg : Str → Option Value} {base : Heap} {f C A_ENDS : Addr} {fd : FuncData} {k1 k2 k3 k4 k5 k6 k7 k8 : Tok}
variable (O_Reader__meets : OwnM P w K mg base CX0 1 C "meets" ["self", "wanted"] (sp_meets C)) (O_Reader__take : OwnM P w K mg base CX0 2 C "take" ["self", "wanted"] (sp_take C)) (O_Reader__take_all : OwnM P w K mg base CX0 2 C "take_all" ["self", "wanted"] (sp_takeall C))
theorem sc_read_shelf : FnScope ["reader"] ["reader"] (defScope s_read_shelf) := ⟨rfl, rfl, rfl, by decide +kernel, rfl, by decide +kernel, by decide +kernel⟩
include O_Reader__meets O_Reader__take in
theorem ok_rdsh (F : Fun K "read_shelf" "read_shelf" s_read_shelf f fd) (m_LETTERS : mg "LETTERS" = some (.str (S lit_LETTERS) k1)) : FnOk P w K mg base CX0 3 f fd ["reader"] (sp_rd C rdSh) := by
  refine F.ok sc_read_shelf (fun vs H Q E h => ?_) (fun cdv A outer s H vs Q E hr h => ?_)
  · obtain ⟨p, r, s, rfl, _⟩ := h
    rfl
  obtain ⟨p, r, s, rfl, hR, q⟩ := h
  refine ⟨_, (pss_cons (ps_if (pt_not (pt_val (pe_ownM O_Reader__meets hr (pv 0) pass0 (pa_cons pe_str pa_nil)))) (pss_one (ps_ret pe_str)) pss_nil)
      (pss_cons (ps_expr (pe_ownM O_Reader__take hr (pv 0) pass0 (pa_cons pe_str pa_nil)))
      (pss_one (ps_ret (pe_ownM O_Reader__take hr (pv 0) pass0 (pa_cons (pe_glob (v := .str (S lit_LETTERS)) (by rfl) m_LETTERS ⟨_, rfl⟩) pa_nil)))))), ?_⟩
  obtain ⟨⟨dx, hp⟩, sf, hl⟩ := id hR
  refine ⟨_, rfl, p, dx, _, rfl, hp, rd_no1 _ _ _, p, r, [34], s, rfl, hR, _, rfl, ?_⟩
  unfold rdSh at q
  cases e : mt [34] s with
  | false =>
    rw [e] at q
    exact iteT (q _ (Upto.refl _ _) hR)
  | true =>
    rw [e] at q
    refine iteF ⟨_, rfl, p, dx, _, rfl, hp, rd_no2 _ _ _, p, r, [34], s, rfl, hR, fun H1 U1 hR1 => ?_⟩
    obtain ⟨⟨dx1, hp1⟩, _, _⟩ := id hR1
    exact ⟨_, rfl, p, dx1, _, rfl, hp1, rd_no2 _ _ _, p, r, lit_LETTERS, _, rfl, hR1, fun H2 U2 hR2 => q _ (U1.trans U2) hR2⟩
theorem sc_read_verb : FnScope ["reader", "shelf", "count"] ["reader", "shelf", "count"] (defScope s_read_verb) := ⟨rfl, rfl, rfl, by decide +kernel, rfl, by decide +kernel, by decide +kernel⟩
include O_Reader__meets O_Reader__take in
theorem ok_rdvb (F : Fun K "read_verb" "read_verb" s_read_verb f fd) (m_MOVES : mg "MOVES" = some (.str (S lit_MOVES) k1)) (m_WITH_SHELF : mg "WITH_SHELF" = some (.str (S lit_WITH_SHELF) k2)) (m_WITH_COUNT : mg "WITH_COUNT" = some (.str (S lit_WITH_COUNT) k3)) (m_WITHOUT_COUNT : mg "WITHOUT_COUNT" = some (.str (S lit_WITHOUT_COUNT) k4)) : FnOk P w K mg base CX0 3 f fd ["reader", "shelf", "count"] (sp_rdvb C) := by
  refine F.ok sc_read_verb (fun vs H Q E h => ?_) (fun cdv A outer s H vs Q E hr h => ?_)
  · obtain ⟨p, r, sh, ct, s, rfl, _⟩ := h
    rfl
  obtain ⟨p, r, sh, ct, s, rfl, hR, q⟩ := h
  refine ⟨_, (pss_cons (ps_if (pt_cmpR op_ne (pv 1) pe_str (nomark _)) (pss_one (ps_ret (pe_ownM O_Reader__take hr (pv 0) pass0 (pa_cons (pe_glob (v := .str (S lit_WITH_SHELF)) (by rfl) m_WITH_SHELF ⟨_, rfl⟩) pa_nil)))) pss_nil)
      (pss_cons (ps_if (pt_val (pe_ownM O_Reader__meets hr (pv 0) pass0 (pa_cons (pe_glob (v := .str (S lit_MOVES)) (by rfl) m_MOVES ⟨_, rfl⟩) pa_nil))) (pss_one (ps_ret pe_str)) pss_nil)
      (pss_cons (ps_if (pt_cmpR op_notN (pv 2) pe_non (nomark _)) (pss_one (ps_ret (pe_ownM O_Reader__take hr (pv 0) pass0 (pa_cons (pe_glob (v := .str (S lit_WITH_COUNT)) (by rfl) m_WITH_COUNT ⟨_, rfl⟩) pa_nil)))) pss_nil)
      (pss_one (ps_ret (pe_ownM O_Reader__take hr (pv 0) pass0 (pa_cons (pe_op op_adS (pe_glob (v := .str (S lit_WITH_COUNT)) (by rfl) m_WITH_COUNT ⟨_, rfl⟩) (pe_glob (v := .str (S lit_WITHOUT_COUNT)) (by rfl) m_WITHOUT_COUNT ⟨_, rfl⟩)) pa_nil))))))), ?_⟩
  obtain ⟨⟨dx, hp⟩, sf, hl⟩ := id hR
  unfold rdVb at q
  refine ⟨_, rfl, rfl, _, rfl, ?_⟩
  by_cases e : sh = []
  · rw [if_neg (fun z => z e)] at q
    refine iteNS (by rw [e]; rfl) ⟨_, rfl, p, dx, _, rfl, hp, rd_no1 _ _ _, p, r, lit_MOVES, s, rfl, hR, _, rfl, ?_⟩
    cases em : mt lit_MOVES s with
    | true =>
      rw [em] at q
      exact iteT (q _ (Upto.refl _ _) hR)
    | false =>
      rw [em] at q
      cases ct with
      | some n => exact iteF ⟨_, rfl, rfl, _, rfl, iteT ⟨_, rfl, p, dx, _, rfl, hp, rd_no2 _ _ _, p, r, lit_WITH_COUNT, s, rfl, hR, q⟩⟩
      | none => exact iteF ⟨_, rfl, rfl, _, rfl, iteF ⟨_, rfl, p, dx, _, rfl, hp, rd_no2 _ _ _, lit_WITH_COUNT, lit_WITHOUT_COUNT, rfl, rfl, small (by decide), p, r, lit_WITH_COUNT ++ lit_WITHOUT_COUNT, s, rfl, hR, q⟩⟩
  · rw [if_pos e] at q
    exact iteNF (fun z => e (S_inj (V.str.inj z))) ⟨_, rfl, p, dx, _, rfl, hp, rd_no2 _ _ _, p, r, lit_WITH_SHELF, s, rfl, hR, q⟩
end

end My

set_option Elab.async false
set_option linter.all false
set_option maxRecDepth 100000
set_option maxHeartbeats 4000000
namespace My
open PySem L2



/-! the program's reading of a phrase, goes on -/

def ctP (C p : Addr) (r : List Nat) (f0 : List Nat) (s0 : RS) (H : Hp) (σ : St) (H' : Hp) : Prop := Upto p H H' ∧ ∃ (n : Nat) (f : List Nat) (s : RS), ctLoop n f s = ctLoop 2 f0 s0 ∧ f.length + n = 3 ∧ 1 ≤ f.length ∧ (∀ c ∈ f, Dg c) ∧ RdAt C p r s H' ∧ σ = [some (.ref p), some (.str (S f))]
def ctM (σ : St) (_ : Hp) : Nat := match σ with | [_, some (.str f)] => 4 - f.length | _ => 0
theorem ct_succ (n : Nat) (f : List Nat) (s : RS) : ctLoop (n + 1) f s = if mt d09 s = true then ctLoop n (f ++ (tk d09 s).1) (tk d09 s).2 else (f, s) := rfl
theorem d19_dg : ∀ c ∈ d19, Dg c := by unfold Dg; decide
theorem d09_dg : ∀ c ∈ d09, Dg c := by unfold Dg; decide
theorem in2 (l : List Nat) (a b : Nat) : inV (.str (S l)) [.str (S [a]), .str (S [b])] = decide (l = [a] ∨ l = [b]) := by
  have e : ∀ x : Nat, (S [x] == S l) = decide (l = [x]) := fun x => by
    by_cases h : l = [x]
    · subst h
      simp
    · rw [decide_eq_false h, beq_eq_false_iff_ne]
      exact fun z => h (S_inj z).symm
  show (S [a] == S l || (S [b] == S l || false)) = _
  rw [e, e, Bool.or_false]
  by_cases h1 : l = [a] <;> by_cases h2 : l = [b] <;> simp [h1, h2]
theorem in3' (l : List Nat) (a b c : Nat) : inV (.str (S l)) [.str (S [a]), .str (S [b]), .str (S [c])] = decide (l = [a] ∨ l = [b] ∨ l = [c]) := by
  have e : ∀ x : Nat, (S [x] == S l) = decide (l = [x]) := fun x => by
    by_cases h : l = [x]
    · subst h
      simp
    · rw [decide_eq_false h, beq_eq_false_iff_ne]
      exact fun z => h (S_inj z).symm
  show (S [a] == S l || (S [b] == S l || (S [c] == S l || false))) = _
  rw [e, e, e, Bool.or_false]
  by_cases h1 : l = [a] <;> by_cases h2 : l = [b] <;> by_cases h3 : l = [c] <;> simp [h1, h2, h3]
theorem RdAt.same {C p : Addr} {r : List Nat} {s : RS} {H H' : Hp} (h : RdAt C p r s H) (q : Same H H') : RdAt C p r s H' := by
  obtain ⟨⟨dx, hp⟩, sf, hl⟩ := h
  exact ⟨⟨dx, q _ _ hp⟩, sf, hl⟩
section
variable {P : Program} {w : World} {K : PySem.W.Frag} {mg : Str → Option Value} {base : Heap} {f C A_ENDS : Addr} {fd : FuncData} {k1 k2 k3 k4 k5 k6 k7 k8 : Tok} {es : List EntS}
variable (O_Reader__meets : OwnM P w K mg base CX0 1 C "meets" ["self", "wanted"] (sp_meets C)) (O_Reader__take : OwnM P w K mg base CX0 2 C "take" ["self", "wanted"] (sp_take C)) (O_Reader__take_all : OwnM P w K mg base CX0 2 C "take_all" ["self", "wanted"] (sp_takeall C))
theorem sc_read_count : FnScope ["reader", "figures"] ["reader"] (defScope s_read_count) := ⟨rfl, rfl, rfl, by decide +kernel, rfl, by decide +kernel, by decide +kernel⟩
include O_Reader__meets O_Reader__take in
theorem ok_rdct (F : Fun K "read_count" "read_count" s_read_count f fd) (m_len : mg "len" = none) (m_int : mg "int" = none) : FnOk P w K mg base CX0 3 f fd ["reader"] (sp_rdct C) := by
  refine F.ok sc_read_count (fun vs H Q E h => ?_) (fun cdv A outer s H vs Q E hr h => ?_)
  · obtain ⟨p, r, s, rfl, _⟩ := h
    rfl
  obtain ⟨p, r, s, rfl, hR, q⟩ := h
  refine ⟨_, (pss_cons (ps_if (pt_not (pt_val (pe_ownM O_Reader__meets hr (pv 0) pass0 (pa_cons pe_str pa_nil)))) (pss_one (ps_ret pe_non)) pss_nil)
      (pss_cons (ps_set (i := 1) sc_read_count.nd rfl (Or.inl rfl) (pe_ownM O_Reader__take hr (pv 0) pass0 (pa_cons pe_str pa_nil)))
      (pss_cons (ps_while PassesOwn.never (PW.pt (pw_and (pt_cmpR op_lt (pe_callB call_lenS (by rfl) m_len PySem.boot_len (pa_cons (pv 1) pa_nil)) pe_int (nomark _)) (pw_and1 (pt_val (pe_ownM O_Reader__meets hr (pv 0) pass0 (pa_cons pe_str pa_nil)))))) (pss_one (ps_set (i := 1) sc_read_count.nd rfl (Or.inl rfl) (pe_op op_adS (pv 1) (pe_ownM O_Reader__take hr (pv 0) pass0 (pa_cons pe_str pa_nil))))))
      (pss_one (ps_ret (pe_callTy call_intS (by rfl) m_int boot_int (pa_cons (pv 1) pa_nil))))))), ?_⟩
  obtain ⟨⟨dx, hp⟩, sf, hl⟩ := id hR
  refine ⟨_, rfl, p, dx, _, rfl, hp, rd_no1 _ _ _, p, r, d19, s, rfl, hR, _, rfl, ?_⟩
  unfold rdCt at q
  cases e : mt d19 s with
  | false =>
    rw [e] at q
    exact iteT (q _ (Upto.refl _ _) hR)
  | true =>
    rw [e] at q
    obtain ⟨c0, ec0, hc0⟩ := tk_in e
    refine iteF ⟨_, rfl, p, dx, _, rfl, hp, rd_no2 _ _ _, p, r, d19, s, rfl, hR, fun H1 U1 hR1 => ?_⟩
    refine gname_go (seq_at (seq_to (fun σ H' => Upto p H H' ∧ RdAt C p r (ctLoop 2 (tk d19 s).1 (tk d19 s).2).2 H' ∧ 1 ≤ (ctLoop 2 (tk d19 s).1 (tk d19 s).2).1.length ∧ (ctLoop 2 (tk d19 s).1 (tk d19 s).2).1.length ≤ 3 ∧ (∀ c ∈ (ctLoop 2 (tk d19 s).1 (tk d19 s).2).1, Dg c) ∧ σ = [some (.ref p), some (.str (S (ctLoop 2 (tk d19 s).1 (tk d19 s).2).1))]) (fun nx fin => ?_) ?_))
    · refine while_in (ctP C p r (tk d19 s).1 (tk d19 s).2 H) ctM ⟨U1, 2, (tk d19 s).1, (tk d19 s).2, rfl, by rw [ec0]; rfl, by rw [ec0]; exact Nat.le_refl _, fun c hc => ?_, hR1, rfl⟩ ?_
      · rw [ec0, List.mem_singleton] at hc
        subst hc
        exact d19_dg _ hc0
      rintro σ H' ⟨U, n, fg, s2, el, hn, h1, hd, hR', rfl⟩
      obtain ⟨⟨dx2, hp2⟩, _, _⟩ := id hR'
      refine ⟨_, rfl, fg, rfl, small (by omega), _, _, rfl, rfl, _, rfl, ?_⟩
      by_cases z : ((fg.length : Nat) : Int) < 3
      · refine iteDT z ⟨_, rfl, p, dx2, _, rfl, hp2, rd_no1 _ _ _, p, r, d09, s2, rfl, hR', _, rfl, ?_⟩
        obtain ⟨n', rfl⟩ : ∃ n', n = n' + 1 := ⟨n - 1, by omega⟩
        rw [ct_succ n' fg s2] at el
        cases em : mt d09 s2 with
        | true =>
          rw [em, if_pos rfl] at el
          obtain ⟨c1, ec1, hc1⟩ := tk_in em
          refine iteT ⟨_, turn_N (Pv := ctP C p r (tk d19 s).1 (tk d19 s).2 H) (μ := ctM), ?_⟩
          refine ⟨_, rfl, _, rfl, p, dx2, _, rfl, hp2, rd_no2 _ _ _, p, r, d09, s2, rfl, hR', fun H3 U3 hR3 => ⟨fg, _, rfl, rfl, small (by rw [ec1]; show fg.length + 1 ≤ _; omega), ⟨U.trans U3, n', fg ++ (tk d09 s2).1, (tk d09 s2).2, el, ?_, ?_, fun c hc => ?_, hR3, rfl⟩, ?_⟩⟩
          · rw [ec1, List.length_append, List.length_singleton]
            omega
          · rw [List.length_append]
            omega
          · rcases List.mem_append.mp hc with y | y
            · exact hd c y
            · rw [ec1, List.mem_singleton] at y
              subst y
              exact d09_dg _ hc1
          · show 4 - (fg ++ (tk d09 s2).1).length < 4 - fg.length
            rw [ec1, List.length_append, List.length_singleton]
            omega
        | false =>
          rw [em, if_neg Bool.false_ne_true] at el
          refine iteF (fin _ _ ⟨U, ?_⟩)
          rw [← el]
          exact ⟨hR', h1, by show fg.length ≤ 3; omega, hd, rfl⟩
      · have hn0 : n = 0 := by omega
        subst hn0
        have el' : (fg, s2) = ctLoop 2 (tk d19 s).1 (tk d19 s).2 := el
        refine iteDF z (iteF (fin _ _ ⟨U, ?_⟩))
        rw [← el']
        exact ⟨hR', h1, by show fg.length ≤ 3; omega, hd, rfl⟩
    rintro σ H' ⟨U, hR', h1, h3, hd, rfl⟩
    exact ⟨_, rfl, _, rfl, h1, h3, hd, q _ U hR'⟩
theorem sc_read_aim : FnScope ["reader", "wanted", "key"] ["reader", "wanted"] (defScope s_read_aim) := ⟨rfl, rfl, rfl, by decide +kernel, rfl, by decide +kernel, by decide +kernel⟩
include O_Reader__take in
theorem ok_rdaim (F : Fun K "read_aim" "read_aim" s_read_aim f fd) (m_SIGNS : mg "SIGNS" = some (.str (S lit_SIGNS) k1)) (m_LETTERS : mg "LETTERS" = some (.str (S lit_LETTERS) k2)) : FnOk P w K mg base CX0 3 f fd ["reader", "wanted"] (sp_rdaim C) := by
  refine F.ok sc_read_aim (fun vs H Q E h => ?_) (fun cdv A outer s H vs Q E hr h => ?_)
  · obtain ⟨p, r, wd, s, rfl, _⟩ := h
    rfl
  obtain ⟨p, r, wd, s, rfl, hR, q⟩ := h
  refine ⟨_, (pss_cons (ps_set (i := 2) sc_read_aim.nd rfl (Or.inl rfl) (pe_ownM O_Reader__take hr (pv 0) pass0 (pa_cons (pv 1) pa_nil)))
      (pss_cons (ps_if (pt_cmpR op_in_seq (pv 2) (pe_tup (pa_cons pe_str (pa_cons pe_str pa_nil))) rfl) (pss_one (ps_ret (pe_op op_adS (pv 2) (pe_ownM O_Reader__take hr (pv 0) pass0 (pa_cons (pe_glob (v := .str (S lit_SIGNS)) (by rfl) m_SIGNS ⟨_, rfl⟩) pa_nil))))) pss_nil)
      (pss_cons (ps_if (pt_cmpR op_eq (pv 2) pe_str (nomark _)) (pss_one (ps_ret (pe_op op_adS (pv 2) (pe_ownM O_Reader__take hr (pv 0) pass0 (pa_cons (pe_glob (v := .str (S lit_LETTERS)) (by rfl) m_LETTERS ⟨_, rfl⟩) pa_nil))))) pss_nil)
      (pss_one (ps_ret (pv 2)))))), ?_⟩
  obtain ⟨⟨dx, hp⟩, sf, hl⟩ := id hR
  have h1 := tk_one wd s
  refine ⟨_, rfl, p, dx, _, rfl, hp, rd_no2 _ _ _, _, rfl, p, r, wd, s, rfl, hR, fun H1 U1 hR1 => ?_⟩
  unfold rdAim at q
  have hk : (tk wd s).1.length ≤ 1 := by
    rcases h1 with e | ⟨x, e⟩ <;> rw [e] <;> simp
  refine ⟨_, rfl, (by show 2 ≤ sizeLine; decide), fun t ht => ⟨t, _, rfl, .inr (SqT.of upd_same), rfl, rfl, _, rfl, ?_⟩⟩
  have S2 : Same H1 (upd H1 t (.tup [V.str "f", V.str "t"])) := same_new ht _
  have hR2 := hR1.same S2
  have U2 := U1.trans (S2.upto p)
  obtain ⟨⟨dx2, hp2⟩, _, _⟩ := id hR2
  show if inV (V.str (S (tk wd s).1)) [.str (S [102]), .str (S [116])] = true then _ else _
  rw [in2]
  by_cases e : (tk wd s).1 = [102] ∨ (tk wd s).1 = [116]
  · rw [if_pos e] at q
    refine iteDT e ⟨_, rfl, _, rfl, p, dx2, _, rfl, hp2, rd_no2 _ _ _, p, r, lit_SIGNS, _, rfl, hR2, fun H3 U3 hR3 => ⟨_, _, rfl, rfl, small ?_, q _ (U2.trans U3) hR3⟩⟩
    have := tk_one lit_SIGNS (tk wd s).2
    rcases this with e2 | ⟨x, e2⟩ <;> rw [e2] <;> simp <;> omega
  · rw [if_neg e] at q
    refine iteDF e ⟨_, rfl, rfl, _, rfl, ?_⟩
    by_cases e3 : (tk wd s).1 = [109]
    · rw [if_pos e3] at q
      refine iteDT (by rw [e3]; rfl) ⟨_, rfl, _, rfl, p, dx2, _, rfl, hp2, rd_no2 _ _ _, p, r, lit_LETTERS, _, rfl, hR2, fun H3 U3 hR3 => ⟨_, _, rfl, rfl, small ?_, q _ (U2.trans U3) hR3⟩⟩
      have := tk_one lit_LETTERS (tk wd s).2
      rcases this with e2 | ⟨x, e2⟩ <;> rw [e2] <;> simp <;> omega
    · rw [if_neg e3] at q
      exact iteDF (fun z => e3 (S_inj (V.str.inj z))) ⟨_, rfl, q _ U2 hR2⟩
theorem sc_read_target : FnScope ["reader", "verb"] ["reader", "verb"] (defScope s_read_target) := ⟨rfl, rfl, rfl, by decide +kernel, rfl, by decide +kernel, by decide +kernel⟩
theorem ok_rdtg (F : Fun K "read_target" "read_target" s_read_target f fd) (O_read_aim : Own P w K mg base CX0 3 "read_aim" ["reader", "wanted"] (sp_rdaim C)) (m_MOVES : mg "MOVES" = some (.str (S lit_MOVES) k1)) (m_THINGS : mg "THINGS" = some (.str (S lit_THINGS) k2)) (m_WITH_TARGET : mg "WITH_TARGET" = some (.str (S lit_WITH_TARGET) k3)) : FnOk P w K mg base CX0 4 f fd ["reader", "verb"] (sp_rdv C rdTg) := by
  refine F.ok sc_read_target (fun vs H Q E h => ?_) (fun cdv A outer s H vs Q E hr h => ?_)
  · obtain ⟨p, r, vb, s, rfl, _⟩ := h
    rfl
  obtain ⟨p, r, vb, s, rfl, hv, hR, q⟩ := h
  refine ⟨_, (pss_cons (ps_if (pt_cmpR op_eq (pv 1) pe_str (nomark _)) (pss_one (ps_ret (pe_own O_read_aim hr (by rfl) pass0 (pa_cons (pv 0) (pa_cons (pe_glob (v := .str (S lit_MOVES)) (by rfl) m_MOVES ⟨_, rfl⟩) pa_nil))))) pss_nil)
      (pss_cons (ps_if (pt_cmpR op_in1 (pv 1) (pe_glob (v := .str (S lit_WITH_TARGET)) (by rfl) m_WITH_TARGET ⟨_, rfl⟩) rfl) (pss_one (ps_ret (pe_own O_read_aim hr (by rfl) pass0 (pa_cons (pv 0) (pa_cons (pe_op op_adS (pe_glob (v := .str (S lit_MOVES)) (by rfl) m_MOVES ⟨_, rfl⟩) (pe_glob (v := .str (S lit_THINGS)) (by rfl) m_THINGS ⟨_, rfl⟩)) pa_nil))))) pss_nil)
      (pss_one (ps_ret pe_str)))), ?_⟩
  refine ⟨_, rfl, rfl, _, rfl, ?_⟩
  rcases hv with rfl | ⟨x, rfl⟩
  · exact iteDT rfl ⟨_, rfl, p, r, lit_MOVES, s, rfl, hR, q⟩
  · refine iteDF (fun z => by have := S_inj (V.str.inj z); cases this) ⟨_, rfl, x, lit_WITH_TARGET, rfl, rfl, _, rfl, ?_⟩
    unfold rdTg at q
    dsimp only at q
    by_cases e : x ∈ lit_WITH_TARGET
    · rw [if_pos e] at q
      exact iteDT e ⟨_, rfl, lit_MOVES, lit_THINGS, rfl, rfl, small (by decide), p, r, lit_MOVES ++ lit_THINGS, s, rfl, hR, q⟩
    · rw [if_neg e] at q
      exact iteDF e (q _ (Upto.refl _ _) hR)
theorem sc_read_up_to : FnScope ["reader", "end", "wanted", "typed"] ["reader", "end", "wanted"] (defScope s_read_up_to) := ⟨rfl, rfl, rfl, by decide +kernel, rfl, by decide +kernel, by decide +kernel⟩
include O_Reader__take O_Reader__take_all in
theorem ok_rdup (F : Fun K "read_up_to" "read_up_to" s_read_up_to f fd) : FnOk P w K mg base CX0 3 f fd ["reader", "end", "wanted"] (sp_rdup C) := by
  refine F.ok sc_read_up_to (fun vs H Q E h => ?_) (fun cdv A outer s H vs Q E hr h => ?_)
  · obtain ⟨p, r, e, wd, s, rfl, _⟩ := h
    rfl
  obtain ⟨p, r, e, wd, s, rfl, hR, q⟩ := h
  refine ⟨_, (pss_cons (ps_set (i := 3) sc_read_up_to.nd rfl (Or.inl rfl) (pe_ownM O_Reader__take_all hr (pv 0) pass0 (pa_cons (pv 2) pa_nil)))
      (pss_cons (ps_expr (pe_ownM O_Reader__take hr (pv 0) pass0 (pa_cons (pv 1) pa_nil)))
      (pss_one (ps_ret (pv 3))))), ?_⟩
  obtain ⟨⟨dx, hp⟩, sf, hl⟩ := id hR
  refine ⟨_, rfl, p, dx, _, rfl, hp, rd_no3 _ _ _, _, rfl, p, r, wd, s, rfl, hR, fun H1 U1 hR1 => ?_⟩
  obtain ⟨⟨dx1, hp1⟩, _, _⟩ := id hR1
  exact ⟨_, rfl, p, dx1, _, rfl, hp1, rd_no2 _ _ _, _, rfl, p, r, e, _, rfl, hR1, fun H2 U2 hR2 => ⟨_, rfl, q _ (U1.trans U2) hR2⟩⟩
end

/-! the program's read_typed, read_phrase, first -/

def rdPh (s : RS) : Ph × RS :=
  (⟨(rdSh s).1, (rdCt (rdSh s).2).1, (rdVb (rdSh s).1 (rdCt (rdSh s).2).1 (rdCt (rdSh s).2).2).1, (rdTg (rdVb (rdSh s).1 (rdCt (rdSh s).2).1 (rdCt (rdSh s).2).2).1 (rdVb (rdSh s).1 (rdCt (rdSh s).2).1 (rdCt (rdSh s).2).2).2).1, (rdTy (rdVb (rdSh s).1 (rdCt (rdSh s).2).1 (rdCt (rdSh s).2).2).1 (rdTg (rdVb (rdSh s).1 (rdCt (rdSh s).2).1 (rdCt (rdSh s).2).2).1 (rdVb (rdSh s).1 (rdCt (rdSh s).2).1 (rdCt (rdSh s).2).2).2).2).1⟩,
   (rdTy (rdVb (rdSh s).1 (rdCt (rdSh s).2).1 (rdCt (rdSh s).2).2).1 (rdTg (rdVb (rdSh s).1 (rdCt (rdSh s).2).1 (rdCt (rdSh s).2).2).1 (rdVb (rdSh s).1 (rdCt (rdSh s).2).1 (rdCt (rdSh s).2).2).2).2).2)
abbrev cNone : List Nat := [110, 111, 110, 101]
abbrev cPhr : List Nat := [112, 104, 114, 97, 115, 101]
abbrev cHlf : List Nat := [104, 97, 108, 102]
def sp_rdph (C : Addr) : Sp := fun vs H Q _ => ∃ (p : Addr) (r : List Nat) (s : RS), vs = [.ref p] ∧ RdAt C p r s H ∧ ∀ t H', Upto p H H' → RdAt C p r (rdPh s).2 H' → H' t = some (.tup (phV (rdPh s).1)) → Q (.ref t) H'
def FirV (H : Hp) (keys : List Nat) (u : Addr) : Prop :=
  if (rdPh (keys, false)).2.2 = false then ∃ v, H v = some (.tup (phV (rdPh (keys, false)).1)) ∧ H u = some (.tup [.str (S cPhr), .ref v, nV (keys.length - (rdPh (keys, false)).2.1.length)])
  else if keys.length - (rdPh (keys, false)).2.1.length = keys.length then H u = some (.tup [.str (S cHlf)]) else H u = some (.tup [.str (S cNone), nV (keys.length - (rdPh (keys, false)).2.1.length + 1)])
def sp_first : Sp := fun vs H Q _ => ∃ keys : List Nat, vs = [.str (S keys)] ∧ keys.length ≤ 1000 ∧ ∀ u H', Same H H' → FirV H' keys u → Q (.ref u) H'
section
variable {P : Program} {w : World} {K : PySem.W.Frag} {mg : Str → Option Value} {base : Heap} {f C A_ENDS : Addr} {fd : FuncData} {k1 k2 k3 k4 k5 k6 k7 k8 : Tok} {t1 t2 t3 u1 u2 u3 : Tok}
variable (O_Reader__meets : OwnM P w K mg base CX0 1 C "meets" ["self", "wanted"] (sp_meets C)) (O_Reader__take : OwnM P w K mg base CX0 2 C "take" ["self", "wanted"] (sp_take C)) (O_Reader__take_all : OwnM P w K mg base CX0 2 C "take_all" ["self", "wanted"] (sp_takeall C))
theorem sc_read_typed : FnScope ["reader", "verb"] ["reader", "verb"] (defScope s_read_typed) := ⟨rfl, rfl, rfl, by decide +kernel, rfl, by decide +kernel, by decide +kernel⟩
include O_Reader__take in
theorem ok_rdty (F : Fun K "read_typed" "read_typed" s_read_typed f fd) (O_read_up_to : Own P w K mg base CX0 3 "read_up_to" ["reader", "end", "wanted"] (sp_rdup C)) (m_SIGNS : mg "SIGNS" = some (.str (S lit_SIGNS) k1)) (m_LETTERS : mg "LETTERS" = some (.str (S lit_LETTERS) k2)) (m_ENDS : mg "ENDS" = some (.ref A_ENDS)) (DE : KDictS K w A_ENDS [([88], t1, [126], u1), ([84], t2, [126], u2), ([58], t3, [10], u3)]) : FnOk P w K mg base CX0 4 f fd ["reader", "verb"] (sp_rdv C rdTy) := by
  refine F.ok sc_read_typed (fun vs H Q E h => ?_) (fun cdv A outer s H vs Q E hr h => ?_)
  · obtain ⟨p, r, vb, s, rfl, _⟩ := h
    rfl
  obtain ⟨p, r, vb, s, rfl, hv, hR, q⟩ := h
  refine ⟨_, (pss_cons (ps_if (pt_cmpR op_in_seq (pv 1) (pe_tup (pa_cons pe_str (pa_cons pe_str pa_nil))) rfl) (pss_one (ps_ret (pe_own O_read_up_to hr (by rfl) pass0 (pa_cons (pv 0) (pa_cons (pe_sget (pe_glob (v := .ref A_ENDS) (by rfl) m_ENDS rfl) (pv 1) (fun _ _ => rfl)) (pa_cons (pe_op op_adS (pe_glob (v := .str (S lit_SIGNS)) (by rfl) m_SIGNS ⟨_, rfl⟩) pe_str) pa_nil)))))) pss_nil)
      (pss_cons (ps_if (pt_cmpR op_eq (pv 1) pe_str (nomark _)) (pss_one (ps_ret (pe_own O_read_up_to hr (by rfl) pass0 (pa_cons (pv 0) (pa_cons (pe_sget (pe_glob (v := .ref A_ENDS) (by rfl) m_ENDS rfl) (pv 1) (fun _ _ => rfl)) (pa_cons (pe_op op_adS (pe_glob (v := .str (S lit_SIGNS)) (by rfl) m_SIGNS ⟨_, rfl⟩) pe_str) pa_nil)))))) pss_nil)
      (pss_cons (ps_if (pt_cmpR op_eq (pv 1) pe_str (nomark _)) (pss_one (ps_ret (pe_ownM O_Reader__take hr (pv 0) pass0 (pa_cons (pe_glob (v := .str (S lit_SIGNS)) (by rfl) m_SIGNS ⟨_, rfl⟩) pa_nil)))) pss_nil)
      (pss_cons (ps_if (pt_cmpR op_in_seq (pv 1) (pe_tup (pa_cons pe_str (pa_cons pe_str (pa_cons pe_str pa_nil)))) rfl) (pss_one (ps_ret (pe_ownM O_Reader__take hr (pv 0) pass0 (pa_cons (pe_glob (v := .str (S lit_LETTERS)) (by rfl) m_LETTERS ⟨_, rfl⟩) pa_nil)))) pss_nil)
      (pss_cons (ps_if (pt_cmpR op_eq (pv 1) pe_str (nomark _)) (pss_one (ps_ret (pe_ownM O_Reader__take hr (pv 0) pass0 (pa_cons pe_str pa_nil)))) pss_nil)
      (pss_one (ps_ret pe_str))))))), ?_⟩
  unfold rdTy at q
  refine ⟨_, rfl, (by show 2 ≤ sizeLine; decide), fun t ht => ⟨t, _, rfl, .inr (SqT.of upd_same), rfl, rfl, _, rfl, ?_⟩⟩
  have S2 : Same H (upd H t (.tup [V.str "X", V.str "T"])) := same_new ht _
  have hR2 := hR.same S2
  have U2 := S2.upto p
  obtain ⟨⟨dx2, hp2⟩, _, _⟩ := id hR2
  show if inV (V.str (S vb)) [.str (S [88]), .str (S [84])] = true then _ else _
  rw [in2]
  by_cases e : vb = [88] ∨ vb = [84]
  · rw [if_pos e] at q
    have hs : ∃ v, sAt [([88], t1, [126], u1), ([84], t2, [126], u2), ([58], t3, [10], u3)] vb = some v ∧ v.1 = [126] := by
      rcases e with rfl | rfl
      · exact ⟨_, rfl, rfl⟩
      · exact ⟨_, rfl, rfl⟩
    obtain ⟨v, hv1, hv2⟩ := hs
    refine iteDT e ⟨_, rfl, _, rfl, A_ENDS, _, vb, v, rfl, DE, rfl, hv1, lit_SIGNS, [10], rfl, rfl, small (by decide), p, r, [126], lit_SIGNS ++ [10], s, by rw [hv2]; rfl, hR2, fun H3 U3 hR3 => q _ (U2.trans U3) hR3⟩
  rw [if_neg e] at q
  refine iteDF e ⟨_, rfl, rfl, _, rfl, ?_⟩
  by_cases e2 : vb = [58]
  · rw [if_pos e2] at q
    subst e2
    exact iteDT rfl ⟨_, rfl, _, rfl, A_ENDS, _, [58], _, rfl, DE, rfl, rfl, lit_SIGNS, [126], rfl, rfl, small (by decide), p, r, [10], lit_SIGNS ++ [126], s, rfl, hR2, fun H3 U3 hR3 => q _ (U2.trans U3) hR3⟩
  rw [if_neg e2] at q
  refine iteDF (fun z => e2 (S_inj (V.str.inj z))) ⟨_, rfl, rfl, _, rfl, ?_⟩
  by_cases e3 : vb = [82]
  · rw [if_pos e3] at q
    exact iteDT (by rw [e3]; rfl) ⟨_, rfl, p, dx2, _, rfl, hp2, rd_no2 _ _ _, p, r, lit_SIGNS, s, rfl, hR2, fun H3 U3 hR3 => q _ (U2.trans U3) hR3⟩
  rw [if_neg e3] at q
  refine iteDF (fun z => e3 (S_inj (V.str.inj z))) ⟨_, rfl, (by show 3 ≤ sizeLine; decide), fun t' ht' => ⟨t', _, rfl, .inr (SqT.of upd_same), rfl, rfl, _, rfl, ?_⟩⟩
  have S3 : Same (upd H t (.tup [V.str "X", V.str "T"])) (upd (upd H t (.tup [V.str "X", V.str "T"])) t' (.tup [V.str "M", V.str "K", V.str "@"])) := same_new ht' _
  have hR3 := hR2.same S3
  have U3 := U2.trans (S3.upto p)
  obtain ⟨⟨dx3, hp3⟩, _, _⟩ := id hR3
  show if inV (V.str (S vb)) [.str (S [77]), .str (S [75]), .str (S [64])] = true then _ else _
  rw [in3']
  by_cases e4 : vb = [77] ∨ vb = [75] ∨ vb = [64]
  · rw [if_pos e4] at q
    exact iteDT e4 ⟨_, rfl, p, dx3, _, rfl, hp3, rd_no2 _ _ _, p, r, lit_LETTERS, s, rfl, hR3, fun H4 U4 hR4 => q _ (U3.trans U4) hR4⟩
  rw [if_neg e4] at q
  refine iteDF e4 ⟨_, rfl, rfl, _, rfl, ?_⟩
  by_cases e5 : vb = [86]
  · rw [if_pos e5] at q
    exact iteDT (by rw [e5]; rfl) ⟨_, rfl, p, dx3, _, rfl, hp3, rd_no2 _ _ _, p, r, [115, 114, 98], s, rfl, hR3, fun H4 U4 hR4 => q _ (U3.trans U4) hR4⟩
  rw [if_neg e5] at q
  exact iteDF (fun z => e5 (S_inj (V.str.inj z))) (q _ U3 hR3)
theorem sc_read_phrase : FnScope ["reader", "shelf", "count", "verb", "target"] ["reader"] (defScope s_read_phrase) := ⟨rfl, rfl, rfl, by decide +kernel, rfl, by decide +kernel, by decide +kernel⟩
theorem ok_rdph (F : Fun K "read_phrase" "read_phrase" s_read_phrase f fd) (O_read_shelf : Own P w K mg base CX0 3 "read_shelf" ["reader"] (sp_rd C rdSh)) (O_read_count : Own P w K mg base CX0 3 "read_count" ["reader"] (sp_rdct C)) (O_read_verb : Own P w K mg base CX0 3 "read_verb" ["reader", "shelf", "count"] (sp_rdvb C)) (O_read_target : Own P w K mg base CX0 4 "read_target" ["reader", "verb"] (sp_rdv C rdTg)) (O_read_typed : Own P w K mg base CX0 4 "read_typed" ["reader", "verb"] (sp_rdv C rdTy)) : FnOk P w K mg base CX0 5 f fd ["reader"] (sp_rdph C) := by
  refine F.ok sc_read_phrase (fun vs H Q E h => ?_) (fun cdv A outer s H vs Q E hr h => ?_)
  · obtain ⟨p, r, s, rfl, _⟩ := h
    rfl
  obtain ⟨p, r, s, rfl, hR, q⟩ := h
  refine ⟨_, (pss_cons (ps_set (i := 1) sc_read_phrase.nd rfl (Or.inl rfl) (pe_own O_read_shelf hr (by rfl) pass0 (pa_cons (pv 0) pa_nil)))
      (pss_cons (ps_set (i := 2) sc_read_phrase.nd rfl (Or.inl rfl) (pe_own O_read_count hr (by rfl) pass0 (pa_cons (pv 0) pa_nil)))
      (pss_cons (ps_set (i := 3) sc_read_phrase.nd rfl (Or.inl rfl) (pe_own O_read_verb hr (by rfl) pass0 (pa_cons (pv 0) (pa_cons (pv 1) (pa_cons (pv 2) pa_nil)))))
      (pss_cons (ps_set (i := 4) sc_read_phrase.nd rfl (Or.inl rfl) (pe_own O_read_target hr (by rfl) pass0 (pa_cons (pv 0) (pa_cons (pv 3) pa_nil))))
      (pss_one (ps_ret (pe_tup (pa_cons (pv 1) (pa_cons (pv 2) (pa_cons (pv 3) (pa_cons (pv 4) (pa_cons (pe_own O_read_typed hr (by rfl) pass0 (pa_cons (pv 0) (pa_cons (pv 3) pa_nil))) pa_nil)))))))))))), ?_⟩
  refine ⟨_, rfl, p, r, s, rfl, hR, fun H1 U1 hR1 => ?_⟩
  refine ⟨_, rfl, p, r, _, rfl, hR1, fun H2 U2 hR2 => ?_⟩
  refine ⟨_, rfl, _, rfl, _, rfl, p, r, _, _, _, rfl, hR2, fun H3 U3 hR3 => ?_⟩
  refine ⟨_, rfl, _, rfl, p, r, _, _, rfl, rdVb_one _ _ _, hR3, fun H4 U4 hR4 => ?_⟩
  refine ⟨_, rfl, _, rfl, _, rfl, _, rfl, _, rfl, _, rfl, p, r, _, _, rfl, rdVb_one _ _ _, hR4, fun H5 U5 hR5 => ⟨(by show 5 ≤ sizeLine; decide), fun t ht => ?_⟩⟩
  exact q t _ (U1.trans (U2.trans (U3.trans (U4.trans (U5.trans ((same_new ht _).upto p)))))) (hR5.same (same_new ht _)) upd_same
theorem sc_first : FnScope ["keys", "reader", "phrase"] ["keys"] (defScope s_first) := ⟨rfl, rfl, rfl, by decide +kernel, rfl, by decide +kernel, by decide +kernel⟩
theorem ok_first (F : Fun K "first" "first" s_first f fd) (T : RdrT K C) (O_Reader : OwnMk P w K mg base CX0 1 C "Reader" ["self", "row"] (sp_rinit C)) (O_read_phrase : Own P w K mg base CX0 5 "read_phrase" ["reader"] (sp_rdph C)) (m_len : mg "len" = none) : FnOk P w K mg base CX0 6 f fd ["keys"] sp_first := by
  refine F.ok sc_first (fun vs H Q E h => ?_) (fun cdv A outer s H vs Q E hr h => ?_)
  · obtain ⟨keys, rfl, _⟩ := h
    rfl
  obtain ⟨keys, rfl, hl, q⟩ := h
  refine ⟨_, (pss_cons (ps_set (i := 1) sc_first.nd rfl (Or.inl rfl) (pe_ownMk O_Reader hr (by rfl) pass0 (pa_cons (pv 0) pa_nil)))
      (pss_cons (ps_set (i := 2) sc_first.nd rfl (Or.inl rfl) (pe_own O_read_phrase hr (by rfl) pass0 (pa_cons (pv 1) pa_nil)))
      (pss_cons (ps_if (pt_not (pt_val (pe_fld (pv 1) rfl))) (pss_one (ps_ret (pe_tup (pa_cons pe_str (pa_cons (pv 2) (pa_cons (pe_fld (pv 1) rfl) pa_nil)))))) pss_nil)
      (pss_cons (ps_if (pt_cmpR op_eq (pe_fld (pv 1) rfl) (pe_callB call_lenS (by rfl) m_len PySem.boot_len (pa_cons (pv 0) pa_nil)) (nomark _)) (pss_one (ps_ret (pe_tup (pa_cons pe_str pa_nil)))) pss_nil)
      (pss_one (ps_ret (pe_tup (pa_cons pe_str (pa_cons (pe_op op_add (pe_fld (pv 1) rfl) pe_int) pa_nil))))))))), ?_⟩
  refine ⟨_, rfl, fun x dx nx ndx nex => ⟨x, dx, keys, rfl, upd_same, hl, fun H1 U1 hR1 => ⟨rfl, ?_⟩⟩⟩
  have s0 : Same H (upd (upd H dx (.own x)) x (.ins C dx [])) := fun b o e => by
    rw [upd_ne (ne_of_none e nx), upd_ne (ne_of_none e ndx)]
    exact e
  have S1 : Same H H1 := fun b o e => U1 b o (ne_of_none e nx) (s0 b o e)
  refine ⟨_, rfl, x, keys, (keys, false), rfl, hR1, fun t H2 U2 hR2 ht => ?_⟩
  have S2 : Same H H2 := fun b o e => U2 b o (ne_of_none e nx) (S1 b o e)
  obtain ⟨⟨dx2, hp2⟩, sf2, _⟩ := id hR2
  refine ⟨_, rfl, x, C, dx2, _, _, rfl, hp2, T.cl, T.nS, rd_stuck _ _ _, _, rfl, ?_⟩
  have q' : ∀ u H', Same H H' → FirV H' keys u → Q (.ref u) H' := q
  unfold FirV at q'
  cases eb : (rdPh (keys, false)).2.2 with
  | false =>
    rw [eb] at hp2
    simp only [eb, if_true] at q'
    exact iteT ⟨_, rfl, _, rfl, x, C, dx2, _, _, rfl, hp2, T.cl, T.nA, rd_at _ _ _, (by show 3 ≤ sizeLine; decide), fun u hu => q' u _ (S2.trans (same_new hu _)) ⟨t, same_new hu _ _ _ ht, upd_same⟩⟩
  | true =>
    rw [eb] at hp2
    simp only [eb, Bool.true_eq_false, if_false] at q'
    refine iteF ⟨_, rfl, x, C, dx2, _, _, rfl, hp2, T.cl, T.nA, rd_at _ _ _, _, rfl, keys, rfl, small (by omega), rfl, _, rfl, ?_⟩
    by_cases c : keys.length - (rdPh (keys, false)).2.1.length = keys.length
    · exact iteDT (by rw [c]; rfl) ⟨(by show 1 ≤ sizeLine; decide), fun u hu => q' u _ (S2.trans (same_new hu _)) (by rw [if_pos c]; exact upd_same)⟩
    · refine iteDF (fun z => c (by have := V.int.inj z; omega)) ⟨_, rfl, x, C, dx2, _, _, rfl, hp2, T.cl, T.nA, rd_at _ _ _, _, _, rfl, rfl, (by show 2 ≤ sizeLine; decide), fun u hu => q' u _ (S2.trans (same_new hu _)) ?_⟩
      rw [if_neg c, upd_same]
      show some (HO.tup [V.str "none", V.int (((keys.length - (rdPh (keys, false)).2.1.length : Nat) : Int) + 1)]) = _
      rw [show ((keys.length - (rdPh (keys, false)).2.1.length : Nat) : Int) + 1 = ((keys.length - (rdPh (keys, false)).2.1.length + 1 : Nat) : Int) by omega]
      rfl
end

end My

set_option Elab.async false
set_option linter.all false
set_option maxRecDepth 100000
set_option maxHeartbeats 4000000
namespace My
open PySem L2

theorem keys_len {p : Ph} (h : PhOk p) : (keysOf p).length ≤ 100 := by
  obtain ⟨sh, ct, vb, tg, ty⟩ := p
  obtain ⟨p1, p2, p3, p4, p5, p6, p7⟩ := h
  dsimp only at p1 p2 p3 p4 p5 p6 p7
  have lsh : sh.length ≤ 1 := by rcases p2 with rfl | ⟨c, v, rfl, _⟩ <;> simp
  have lvb : vb.length ≤ 1 := by rcases p1 with rfl | ⟨v, _, rfl⟩ <;> simp
  have lmv : ∀ {k : List Nat}, MoveK k → k.length ≤ 2 := fun h => by rcases h with ⟨x, rfl, _⟩ | ⟨x, c, rfl, _⟩ | ⟨c, rfl, _⟩ <;> simp
  have ltg : tg.length ≤ 2 := by
    rcases p1 with rfl | ⟨v, _, rfl⟩
    · exact lmv (p4 rfl)
    · by_cases e : v ∈ litVt
      · rcases p5 v rfl e with h | ⟨x, rfl, _⟩
        · exact lmv h
        · simp
      · rw [p6 v rfl e]; simp
  have lty : ty.length ≤ 50 := by
    rcases p7 with ⟨_, h, _⟩ | ⟨_, h, _⟩ | ⟨_, c, rfl, _⟩ | ⟨_, c, rfl, _⟩ | ⟨_, c, rfl, _⟩ | ⟨_, rfl⟩
    · exact h
    · exact h
    all_goals simp
  have l1 : (if sh = [] then [] else [34] ++ sh : List Nat).length ≤ 2 := by split <;> simp <;> omega
  have l2 : (ctL ct).length ≤ 3 := by
    cases ct with
    | none => exact Nat.zero_le _
    | some n => exact digs_len n (by have := p3 n rfl; omega)
  have l3 : (if vb = [88] ∨ vb = [84] then [126] else if vb = [58] then [10] else [] : List Nat).length ≤ 1 := by
    split
    · simp
    · split <;> simp
  unfold keysOf
  dsimp only
  rw [List.length_append, List.length_append, List.length_append, List.length_append, List.length_append]
  omega

/-! a phrase's keys are read back to it -/
theorem tk_hit {wd u : List Nat} {c : Nat} (h : c ∈ wd) : tk wd (c :: u, false) = ([c], (u, false)) := by
  have e : mt wd (c :: u, false) = true := by show (true && decide (c ∈ wd)) = true; rw [decide_eq_true h]; rfl
  unfold tk
  rw [if_pos e]
  rfl
theorem mt_hit {wd u : List Nat} {c : Nat} (h : c ∈ wd) : mt wd (c :: u, false) = true := by show (true && decide (c ∈ wd)) = true; rw [decide_eq_true h]; rfl
theorem mt_no {wd u : List Nat} (h : ∀ c, u.head? = some c → ¬ c ∈ wd) : mt wd (u, false) = false := by
  cases u with
  | nil => rfl
  | cons c u => show (true && decide (c ∈ wd)) = false; rw [decide_eq_false (h c rfl)]; rfl
theorem sg_in {c : Nat} (h : Sg c) : c ∈ lit_SIGNS := (show ∀ c ∈ lit93, c ∈ lit_SIGNS by decide) c h
theorem sm_in {c : Nat} (h : Sm c) : c ∈ lit_LETTERS := by
  obtain ⟨h1, h2⟩ := h
  have : c = 97 ∨ c = 98 ∨ c = 99 ∨ c = 100 ∨ c = 101 ∨ c = 102 ∨ c = 103 ∨ c = 104 ∨ c = 105 ∨ c = 106 ∨ c = 107 ∨ c = 108 ∨ c = 109 ∨ c = 110 ∨ c = 111 ∨ c = 112 ∨ c = 113 ∨ c = 114 ∨ c = 115 ∨ c = 116 ∨ c = 117 ∨ c = 118 ∨ c = 119 ∨ c = 120 ∨ c = 121 ∨ c = 122 := by omega
  simpa using this
def Hd (l : List Nat) : Prop := ∃ c u, l = c :: u ∧ (c ∈ litV ∨ c ∈ litM)
theorem hd_no : ∀ c, (c ∈ litV ∨ c ∈ litM) → ¬ c ∈ [34] ∧ ¬ c ∈ d19 ∧ ¬ c ∈ d09 := by
  intro c h
  rcases h with h | h
  · exact (show ∀ c ∈ litV, ¬ c ∈ [34] ∧ ¬ c ∈ d19 ∧ ¬ c ∈ d09 by decide) c h
  · exact (show ∀ c ∈ litM, ¬ c ∈ [34] ∧ ¬ c ∈ d19 ∧ ¬ c ∈ d09 by decide) c h
theorem Hd.no {l : List Nat} (h : Hd l) : (∀ c, l.head? = some c → ¬ c ∈ [34]) ∧ (∀ c, l.head? = some c → ¬ c ∈ d19) ∧ (∀ c, l.head? = some c → ¬ c ∈ d09) := by
  obtain ⟨c, u, rfl, hc⟩ := h
  have z := hd_no c hc
  exact ⟨fun x hx => by cases hx; exact z.1, fun x hx => by cases hx; exact z.2.1, fun x hx => by cases hx; exact z.2.2⟩
def digOk (n : Nat) : Bool := match digs n with
  | [a] => decide (a ∈ d19) && numL [a] == n
  | [a, b] => decide (a ∈ d19) && decide (b ∈ d09) && numL [a, b] == n
  | [a, b, c] => decide (a ∈ d19) && decide (b ∈ d09) && decide (c ∈ d09) && numL [a, b, c] == n
  | _ => false
theorem digs_ok : ∀ n, n < 1000 → (n = 0 ∨ digOk n = true) := by decide +kernel
theorem rdCt_dig {n : Nat} {u : List Nat} (h1 : 1 ≤ n) (h2 : n ≤ 999) (hu : ∀ c, u.head? = some c → ¬ c ∈ d09) : rdCt (digs n ++ u, false) = (some n, (u, false)) := by
  have hk : digOk n = true := (digs_ok n (by omega)).resolve_left (by omega)
  unfold digOk at hk
  have m9 : mt d09 (u, false) = false := mt_no hu
  split at hk
  · rename_i a e
    rw [Bool.and_eq_true, decide_eq_true_eq, beq_iff_eq] at hk
    rw [e]
    show rdCt (a :: u, false) = _
    unfold rdCt
    rw [mt_hit hk.1, if_pos rfl, tk_hit hk.1]
    have e2 : ctLoop 2 [a] (u, false) = ([a], (u, false)) := by rw [ct_succ, m9, if_neg Bool.false_ne_true]
    show (some (numL (ctLoop 2 [a] (u, false)).1), (ctLoop 2 [a] (u, false)).2) = _
    rw [e2, hk.2]
  · rename_i a b e
    rw [Bool.and_eq_true, Bool.and_eq_true, decide_eq_true_eq, decide_eq_true_eq, beq_iff_eq] at hk
    obtain ⟨⟨k1, k2⟩, k3⟩ := hk
    rw [e]
    show rdCt (a :: b :: u, false) = _
    unfold rdCt
    rw [mt_hit k1, if_pos rfl, tk_hit k1]
    have e2 : ctLoop 2 [a] (b :: u, false) = ([a, b], (u, false)) := by
      rw [ct_succ, mt_hit k2, if_pos rfl, tk_hit k2]
      show ctLoop 1 [a, b] (u, false) = _
      rw [ct_succ, m9, if_neg Bool.false_ne_true]
    show (some (numL (ctLoop 2 [a] (b :: u, false)).1), (ctLoop 2 [a] (b :: u, false)).2) = _
    rw [e2, k3]
  · rename_i a b c e
    rw [Bool.and_eq_true, Bool.and_eq_true, Bool.and_eq_true, decide_eq_true_eq, decide_eq_true_eq, decide_eq_true_eq, beq_iff_eq] at hk
    obtain ⟨⟨⟨k1, k2⟩, k4⟩, k3⟩ := hk
    rw [e]
    show rdCt (a :: b :: c :: u, false) = _
    unfold rdCt
    rw [mt_hit k1, if_pos rfl, tk_hit k1]
    have e2 : ctLoop 2 [a] (b :: c :: u, false) = ([a, b, c], (u, false)) := by
      rw [ct_succ, mt_hit k2, if_pos rfl, tk_hit k2]
      show ctLoop 1 [a, b] (c :: u, false) = _
      rw [ct_succ, mt_hit k4, if_pos rfl, tk_hit k4]
      rfl
    show (some (numL (ctLoop 2 [a] (b :: c :: u, false)).1), (ctLoop 2 [a] (b :: c :: u, false)).2) = _
    rw [e2, k3]
  · cases hk
theorem rdCt_none {u : List Nat} (hu : ∀ c, u.head? = some c → ¬ c ∈ d19) : rdCt (u, false) = (none, (u, false)) := by
  unfold rdCt
  rw [mt_no hu, if_neg Bool.false_ne_true]
theorem aim_move {k u wd : List Nat} (h : MoveK k) (hw : ∀ c ∈ litM, c ∈ wd) : rdAim wd (k ++ u, false) = (k, (u, false)) := by
  unfold rdAim
  rcases h with ⟨x, rfl, hx⟩ | ⟨x, c, rfl, hx, hc⟩ | ⟨c, rfl, hc⟩
  · have hm : x ∈ wd := hw x ((show ∀ x ∈ litM12, x ∈ litM by decide) x hx)
    have n1 : ¬ (x = 102 ∨ x = 116) ∧ ¬ x = 109 := (show ∀ x ∈ litM12, ¬ (x = 102 ∨ x = 116) ∧ ¬ x = 109 by decide) x hx
    rw [show tk wd ([x] ++ u, false) = ([x], (u, false)) from tk_hit hm]
    dsimp only
    rw [if_neg (fun z => n1.1 (z.imp (fun e => (List.cons.inj e).1) (fun e => (List.cons.inj e).1))), if_neg (fun z => n1.2 (List.cons.inj z).1)]
  · have hm : x ∈ wd := hw x (by rcases hx with rfl | rfl <;> decide)
    rw [show tk wd ([x, c] ++ u, false) = ([x], (c :: u, false)) from tk_hit hm]
    dsimp only
    rw [if_pos (by rcases hx with rfl | rfl; exact .inl rfl; exact .inr rfl)]
    show ([x] ++ (tk lit_SIGNS (c :: u, false)).1, (tk lit_SIGNS (c :: u, false)).2) = _
    rw [tk_hit (sg_in hc)]
    rfl
  · have hm : 109 ∈ wd := hw 109 (by decide)
    rw [show tk wd ([109, c] ++ u, false) = ([109], (c :: u, false)) from tk_hit hm]
    dsimp only
    rw [if_neg (show ¬ (([109] : List Nat) = [102] ∨ ([109] : List Nat) = [116]) by decide), if_pos (rfl : ([109] : List Nat) = [109])]
    show ([109] ++ (tk lit_LETTERS (c :: u, false)).1, (tk lit_LETTERS (c :: u, false)).2) = _
    rw [tk_hit (sm_in hc)]
    rfl
theorem aim_targ {k u : List Nat} (h : TargK k) : rdAim (lit_MOVES ++ lit_THINGS) (k ++ u, false) = (k, (u, false)) := by
  rcases h with h | ⟨x, rfl, hx⟩
  · exact aim_move h (by decide)
  · have hm : x ∈ lit_MOVES ++ lit_THINGS := (show ∀ x ∈ litT, x ∈ lit_MOVES ++ lit_THINGS by decide) x hx
    have n1 : ¬ (x = 102 ∨ x = 116) ∧ ¬ x = 109 := (show ∀ x ∈ litT, ¬ (x = 102 ∨ x = 116) ∧ ¬ x = 109 by decide) x hx
    unfold rdAim
    rw [show tk (lit_MOVES ++ lit_THINGS) ([x] ++ u, false) = ([x], (u, false)) from tk_hit hm]
    dsimp only
    rw [if_neg (fun z => n1.1 (z.imp (fun e => (List.cons.inj e).1) (fun e => (List.cons.inj e).1))), if_neg (fun z => n1.2 (List.cons.inj z).1)]
theorem up_to {e wd r u : List Nat} {c : Nat} (he : e = [c]) (hr : ∀ x ∈ r, x ∈ wd) (hc : ¬ c ∈ wd) : rdUp e wd (r ++ c :: u, false) = (r, (u, false)) := by
  obtain ⟨a1, a2⟩ := tw_app (q := fun c => decide (c ∈ wd)) (t := r) (u := c :: u) (fun x hx => decide_eq_true (hr x hx)) (fun x hx => by cases hx; exact decide_eq_false hc)
  have et : tka wd (r ++ c :: u, false) = (r, (c :: u, false)) := by
    unfold tka
    rw [if_neg (show ¬ false = true from Bool.false_ne_true)]
    show ((r ++ c :: u).takeWhile _, ((r ++ c :: u).dropWhile _, false)) = _
    rw [a1, a2]
  unfold rdUp
  rw [et, he]
  show (r, (tk [c] (c :: u, false)).2) = _
  rw [tk_hit (List.mem_singleton.mpr rfl)]
def endL (vb : List Nat) : List Nat := if vb = [88] ∨ vb = [84] then [126] else if vb = [58] then [10] else []
theorem ty_read {vb ty u : List Nat} (h : TypedK vb ty) (hv : vb = [] ∨ ∃ x, vb = [x]) : rdTy vb (ty ++ (endL vb ++ u), false) = (ty, (u, false)) := by
  unfold rdTy endL
  rcases h with ⟨hv, _, hr⟩ | ⟨rfl, _, hr⟩ | ⟨rfl, c, rfl, hc⟩ | ⟨rfl, c, rfl, hc⟩ | ⟨hv, c, rfl, hc⟩ | ⟨hn, rfl⟩
  · rw [if_pos hv, if_pos hv]
    refine up_to rfl (fun x hx => ?_) (by decide)
    rcases hr x hx with z | rfl
    · exact List.mem_append_left _ (sg_in z)
    · exact List.mem_append_right _ (List.mem_singleton.mpr rfl)
  · rw [if_neg (by decide), if_pos rfl, if_neg (by decide), if_pos rfl]
    refine up_to rfl (fun x hx => ?_) (by decide)
    rcases hr x hx with z | rfl
    · exact List.mem_append_left _ (sg_in z)
    · exact List.mem_append_right _ (List.mem_singleton.mpr rfl)
  · rw [if_neg (by decide), if_neg (by decide), if_pos rfl, if_neg (by decide), if_neg (by decide)]
    exact tk_hit (sg_in hc)
  · rw [if_neg (by decide), if_neg (by decide), if_neg (by decide), if_neg (by decide), if_pos rfl, if_neg (by decide), if_neg (by decide)]
    exact tk_hit hc
  · have e1 : ¬ (vb = [88] ∨ vb = [84]) ∧ ¬ vb = [58] ∧ ¬ vb = [82] := by rcases hv with rfl | rfl | rfl <;> decide
    rw [if_neg e1.1, if_neg e1.2.1, if_neg e1.2.2, if_pos hv, if_neg e1.1, if_neg e1.2.1]
    exact tk_hit (sm_in hc)
  · have z : ∀ x, x ∈ [88, 84, 58, 82, 86, 77, 75, 64] → ¬ vb = [x] := fun x hx e => hn x e hx
    have e1 : ¬ (vb = [88] ∨ vb = [84]) := fun h => h.elim (z 88 (by decide)) (z 84 (by decide))
    have e2 := z 58 (by decide)
    have e3 := z 82 (by decide)
    have e4 : ¬ (vb = [77] ∨ vb = [75] ∨ vb = [64]) := fun h => h.elim (z 77 (by decide)) (fun h => h.elim (z 75 (by decide)) (z 64 (by decide)))
    rw [if_neg e1, if_neg e2, if_neg e3, if_neg e4, if_neg (z 86 (by decide)), if_neg e1, if_neg e2]
    rfl
theorem keys_is (p : Ph) (rest : List Nat) : keysOf p ++ rest = (if p.sh = [] then [] else 34 :: p.sh) ++ (ctL p.ct ++ (p.vb ++ (p.tg ++ (p.ty ++ (endL p.vb ++ rest))))) := by
  unfold keysOf endL
  split <;> simp [List.append_assoc]
theorem ph_read {p : Ph} (h : PhOk p) (rest : List Nat) : rdPh (keysOf p ++ rest, false) = (p, (rest, false)) := by
  have hv : p.vb = [] ∨ ∃ x, p.vb = [x] := h.vb.imp id (fun ⟨v, _, e⟩ => ⟨v, e⟩)
  have hHd : Hd (p.vb ++ (p.tg ++ (p.ty ++ (endL p.vb ++ rest)))) := by
    rcases h.vb with e | ⟨v, hv, e⟩
    · rw [e]
      rcases h.mv e with ⟨x, hx, hm⟩ | ⟨x, c, hx, hm, _⟩ | ⟨c, hx, _⟩
      · rw [hx]
        exact ⟨x, _, rfl, .inr ((show ∀ x ∈ litM12, x ∈ litM by decide) x hm)⟩
      · rw [hx]
        exact ⟨x, _, rfl, .inr (by rcases hm with rfl | rfl <;> decide)⟩
      · rw [hx]
        exact ⟨109, _, rfl, .inr (by decide)⟩
    · rw [e]
      exact ⟨v, _, rfl, .inl hv⟩
  obtain ⟨n34, n19, n09⟩ := hHd.no
  -- the shelf
  have eS : rdSh (keysOf p ++ rest, false) = (p.sh, (ctL p.ct ++ (p.vb ++ (p.tg ++ (p.ty ++ (endL p.vb ++ rest)))), false)) := by
    rw [keys_is]
    rcases h.sh with e | ⟨c, v, e, hc, _, _⟩
    · rw [if_pos e, e, List.nil_append]
      unfold rdSh
      rw [mt_no, if_neg Bool.false_ne_true]
      intro x hx
      cases ec : p.ct with
      | none => rw [ec] at hx; exact n34 x hx
      | some n =>
        rw [ec] at hx
        obtain ⟨h1, h2, _⟩ := h.ct n ec
        have hk : digOk n = true := (digs_ok n (by omega)).resolve_left (by omega)
        unfold digOk at hk
        have hx' : (digs n ++ (p.vb ++ (p.tg ++ (p.ty ++ (endL p.vb ++ rest))))).head? = some x := hx
        have d34 : ∀ a ∈ d19, ¬ a ∈ [34] := by decide
        split at hk
        · rename_i a e
          rw [e] at hx'
          cases hx'
          rw [Bool.and_eq_true, decide_eq_true_eq] at hk
          exact d34 _ hk.1
        · rename_i a b e
          rw [e] at hx'
          cases hx'
          rw [Bool.and_eq_true, Bool.and_eq_true, decide_eq_true_eq] at hk
          exact d34 _ hk.1.1
        · rename_i a b c e
          rw [e] at hx'
          cases hx'
          rw [Bool.and_eq_true, Bool.and_eq_true, Bool.and_eq_true, decide_eq_true_eq] at hk
          exact d34 _ hk.1.1.1
        · cases hk
    · rw [if_neg (by rw [e]; simp), e]
      unfold rdSh
      show (if mt [34] (34 :: c :: _, false) = true then tk lit_LETTERS (tk [34] (34 :: c :: _, false)).2 else _) = _
      rw [mt_hit (by decide), if_pos rfl, tk_hit (by decide)]
      exact tk_hit (sm_in hc)
  -- the count
  have eC : rdCt (ctL p.ct ++ (p.vb ++ (p.tg ++ (p.ty ++ (endL p.vb ++ rest)))), false) = (p.ct, (p.vb ++ (p.tg ++ (p.ty ++ (endL p.vb ++ rest))), false)) := by
    cases ec : p.ct with
    | none => exact rdCt_none n19
    | some n =>
      obtain ⟨h1, h2, _⟩ := h.ct n ec
      exact rdCt_dig h1 h2 n09
  -- the verb
  have eV : rdVb p.sh p.ct (p.vb ++ (p.tg ++ (p.ty ++ (endL p.vb ++ rest))), false) = (p.vb, (p.tg ++ (p.ty ++ (endL p.vb ++ rest)), false)) := by
    unfold rdVb
    rcases h.sh with e | ⟨c, v, e, hc, ev, hm⟩
    · rw [if_neg (fun z => z e)]
      rcases h.vb with e1 | ⟨v, hv, e1⟩
      · have hm : mt lit_MOVES (p.vb ++ (p.tg ++ (p.ty ++ (endL p.vb ++ rest))), false) = true := by
          rw [e1]
          rcases h.mv e1 with ⟨x, hx, hm⟩ | ⟨x, c, hx, hm, _⟩ | ⟨c, hx, _⟩
          · rw [hx]
            exact mt_hit ((show ∀ x ∈ litM12, x ∈ lit_MOVES by decide) x hm)
          · rw [hx]
            exact mt_hit (by rcases hm with rfl | rfl <;> decide)
          · rw [hx]
            exact mt_hit (by decide)
        rw [hm, if_pos rfl, e1]
        rfl
      · have hm : mt lit_MOVES (p.vb ++ (p.tg ++ (p.ty ++ (endL p.vb ++ rest))), false) = false := by
          refine mt_no fun x hx => ?_
          rw [e1] at hx
          cases hx
          exact (show ∀ v ∈ litV, ¬ v ∈ lit_MOVES by decide) _ hv
        rw [hm, if_neg Bool.false_ne_true, e1]
        cases ec : p.ct with
        | none =>
          rw [if_neg (by decide)]
          exact tk_hit ((show ∀ v ∈ litV, v ∈ lit_WITH_COUNT ++ lit_WITHOUT_COUNT by decide) v hv)
        | some n =>
          rw [if_pos (show (some n).isSome = true from rfl)]
          obtain ⟨_, _, hno⟩ := h.ct n ec
          exact tk_hit ((show ∀ v ∈ litV, ¬ v ∈ [77, 75, 86, 58] → v ∈ lit_WITH_COUNT by decide) v hv (hno v e1))
    · rw [if_pos (by rw [e]; simp), ev]
      exact tk_hit hm
  -- the target
  have eT : rdTg p.vb (p.tg ++ (p.ty ++ (endL p.vb ++ rest)), false) = (p.tg, (p.ty ++ (endL p.vb ++ rest), false)) := by
    rcases h.vb with e1 | ⟨v, hv, e1⟩
    · have hm := h.mv e1
      rw [e1]
      exact aim_move hm (by decide)
    · by_cases hm : v ∈ litVt
      · have ht := h.tg v e1 hm
        rw [e1]
        show (if v ∈ lit_WITH_TARGET then _ else _) = _
        rw [if_pos hm]
        exact aim_targ ht
      · have ht := h.no v e1 hm
        rw [e1, ht]
        show (if v ∈ lit_WITH_TARGET then _ else _) = _
        rw [if_neg hm]
        rfl
  have eY := ty_read (u := rest) h.ty hv
  unfold rdPh
  rw [eS]
  dsimp only
  rw [eC]
  dsimp only
  rw [eV]
  dsimp only
  rw [eT]
  dsimp only
  rw [eY]

/-! a part of a phrase's keys: half a phrase -/
abbrev EE : RS := ([], true)
theorem tk_st (wd u : List Nat) : tk wd (u, true) = ([], (u, true)) := rfl
theorem tk_e (wd : List Nat) : tk wd ([], false) = ([], EE) := rfl
theorem aim_st (wd u : List Nat) : rdAim wd (u, true) = ([], (u, true)) := by
  unfold rdAim
  rw [tk_st]
  dsimp only
  rw [if_neg (by decide), if_neg (by decide)]
theorem aim_e (wd : List Nat) : rdAim wd ([], false) = ([], EE) := by
  unfold rdAim
  rw [tk_e]
  dsimp only
  rw [if_neg (by decide), if_neg (by decide)]
theorem tg_st (vb : List Nat) : (rdTg vb EE).2 = EE := by
  unfold rdTg
  cases vb with
  | nil => rw [aim_st]
  | cons x l =>
    dsimp only
    split
    · rw [aim_st]
    · rfl
theorem ty_st (vb : List Nat) : (rdTy vb EE).2 = EE := by
  unfold rdTy
  split
  · rfl
  · split
    · rfl
    · split
      · rfl
      · split
        · rfl
        · split <;> rfl
theorem vb_st (sh : List Nat) (ct : Option Nat) : (rdVb sh ct EE).2 = EE := by
  unfold rdVb
  split
  · rfl
  · split
    · rfl
    · split <;> rfl
theorem vb_e (sh : List Nat) (ct : Option Nat) : (rdVb sh ct ([], false)).2 = EE := by
  unfold rdVb
  split
  · rfl
  · rw [if_neg (show ¬ mt lit_MOVES ([], false) = true by decide)]
    split <;> rfl
theorem ph_after_vb {s : RS} (h : (rdVb (rdSh s).1 (rdCt (rdSh s).2).1 (rdCt (rdSh s).2).2).2 = EE) : (rdPh s).2 = EE := by
  unfold rdPh
  dsimp only
  rw [h]
  have := tg_st (rdVb (rdSh s).1 (rdCt (rdSh s).2).1 (rdCt (rdSh s).2).2).1
  rw [this]
  exact ty_st _
theorem ph_after_ct {s : RS} (h : (rdCt (rdSh s).2).2 = ([], false)) : (rdPh s).2 = EE := ph_after_vb (by rw [h]; exact vb_e _ _)
theorem ph_after_sh {s : RS} (h : (rdSh s).2 = EE) : (rdPh s).2 = EE := by
  refine ph_after_vb ?_
  rw [h]
  exact vb_st _ _
theorem take_ge {A R : List Nat} {j : Nat} (h : A.length ≤ j) : (A ++ R).take j = A ++ R.take (j - A.length) := by
  rw [List.take_append, List.take_of_length_le h]
theorem take_lt {A R : List Nat} {j : Nat} (h : j ≤ A.length) : (A ++ R).take j = A.take j := List.take_append_of_le_length h
theorem head_take {l : List Nat} {n c : Nat} (h : (l.take n).head? = some c) : l.head? = some c := by
  cases n with
  | zero => cases h
  | succ n =>
    cases l with
    | nil => cases h
    | cons x l => exact h
theorem dig_parts {n : Nat} (h1 : 1 ≤ n) (h2 : n ≤ 999) : ∃ a bs, digs n = a :: bs ∧ a ∈ d19 ∧ (∀ b ∈ bs, b ∈ d09) ∧ bs.length ≤ 2 := by
  have hk : digOk n = true := (digs_ok n (by omega)).resolve_left (by omega)
  unfold digOk at hk
  split at hk
  · rename_i a e
    rw [Bool.and_eq_true, decide_eq_true_eq] at hk
    exact ⟨a, [], e, hk.1, (fun b hb => by cases hb), by decide⟩
  · rename_i a b e
    rw [Bool.and_eq_true, Bool.and_eq_true, decide_eq_true_eq, decide_eq_true_eq] at hk
    exact ⟨a, [b], e, hk.1.1, (fun x hx => by rw [List.mem_singleton] at hx; rw [hx]; exact hk.1.2), by show 1 ≤ 2; decide⟩
  · rename_i a b c e
    rw [Bool.and_eq_true, Bool.and_eq_true, Bool.and_eq_true, decide_eq_true_eq, decide_eq_true_eq, decide_eq_true_eq] at hk
    refine ⟨a, [b, c], e, hk.1.1.1, (fun x hx => ?_), Nat.le_refl _⟩
    have : x = b ∨ x = c := by simpa using hx
    rcases this with rfl | rfl
    · exact hk.1.1.2
    · exact hk.1.2
  · cases hk
theorem ct_part {n j : Nat} (h1 : 1 ≤ n) (h2 : n ≤ 999) (hj : j < (digs n).length) : (rdCt ((digs n).take j, false)).2 = ([], false) := by
  obtain ⟨a, bs, e, ha, hb, hl⟩ := dig_parts h1 h2
  rw [e] at hj ⊢
  cases j with
  | zero => rfl
  | succ j =>
    rw [List.take_succ_cons]
    have hj' : j < bs.length := by rw [List.length_cons] at hj; omega
    unfold rdCt
    rw [mt_hit ha, if_pos rfl, tk_hit ha]
    show (ctLoop 2 [a] (bs.take j, false)).2 = _
    match bs, j, hj', hl, hb with
    | b :: bs', 0, _, _, _ => rfl
    | [b, c], 1, _, _, hb =>
      show (ctLoop 2 [a] ([b], false)).2 = _
      rw [ct_succ, mt_hit (hb b (by simp)), if_pos rfl, tk_hit (hb b (by simp))]
      rfl
    | b :: bs', j + 2, hj', hl, _ => exact absurd (Nat.lt_of_lt_of_le hj' hl) (by omega)
theorem sh_ok {p : Ph} (h : PhOk p) {R : List Nat} (hR : ∀ c, R.head? = some c → ¬ c ∈ [34]) : rdSh ((if p.sh = [] then [] else 34 :: p.sh) ++ R, false) = (p.sh, (R, false)) := by
  rcases h.sh with e | ⟨c, v, e, hc, _, _⟩
  · rw [if_pos e, e, List.nil_append]
    unfold rdSh
    rw [mt_no hR, if_neg Bool.false_ne_true]
  · rw [if_neg (by rw [e]; simp), e]
    unfold rdSh
    show (if mt [34] (34 :: c :: R, false) = true then tk lit_LETTERS (tk [34] (34 :: c :: R, false)).2 else _) = _
    rw [mt_hit (by decide), if_pos rfl, tk_hit (by decide)]
    exact tk_hit (sm_in hc)
theorem ct_ok {p : Ph} (h : PhOk p) {R : List Nat} (n19 : ∀ c, R.head? = some c → ¬ c ∈ d19) (n09 : ∀ c, R.head? = some c → ¬ c ∈ d09) : rdCt (ctL p.ct ++ R, false) = (p.ct, (R, false)) := by
  cases ec : p.ct with
  | none => exact rdCt_none n19
  | some n =>
    obtain ⟨h1, h2, _⟩ := h.ct n ec
    exact rdCt_dig h1 h2 n09
theorem vb_ok {p : Ph} (h : PhOk p) {v : Nat} (e1 : p.vb = [v]) (hv : v ∈ litV) (R : List Nat) : rdVb p.sh p.ct (v :: R, false) = ([v], (R, false)) := by
  unfold rdVb
  rcases h.sh with e | ⟨c, v', e, hc, ev, hm⟩
  · rw [if_neg (fun z => z e)]
    have hm : mt lit_MOVES (v :: R, false) = false := by
      refine mt_no fun x hx => ?_
      cases hx
      exact (show ∀ v ∈ litV, ¬ v ∈ lit_MOVES by decide) _ hv
    rw [hm, if_neg Bool.false_ne_true]
    cases ec : p.ct with
    | none =>
      rw [if_neg (by decide)]
      exact tk_hit ((show ∀ v ∈ litV, v ∈ lit_WITH_COUNT ++ lit_WITHOUT_COUNT by decide) v hv)
    | some n =>
      rw [if_pos (show (some n).isSome = true from rfl)]
      obtain ⟨_, _, hno⟩ := h.ct n ec
      exact tk_hit ((show ∀ v ∈ litV, ¬ v ∈ [77, 75, 86, 58] → v ∈ lit_WITH_COUNT by decide) v hv (hno v e1))
  · rw [if_pos (by rw [e]; simp)]
    have : v' = v := by rw [ev] at e1; exact (List.cons.inj e1).1
    subst this
    exact tk_hit hm
theorem aim_part {k wd : List Nat} {j : Nat} (h : TargK k) (hw : ∀ c ∈ litM, c ∈ wd) (hj : j < k.length) : (rdAim wd (k.take j, false)).2 = EE := by
  cases j with
  | zero => rw [List.take_zero, aim_e]
  | succ j =>
    have two : ∀ x c : Nat, k = [x, c] → (x = 102 ∨ x = 116 ∨ x = 109) → (rdAim wd (k.take (j + 1), false)).2 = EE := fun x c e hx => by
      subst e
      have j0 : j = 0 := by simp at hj; omega
      subst j0
      have hm : x ∈ wd := hw x (by rcases hx with rfl | rfl | rfl <;> decide)
      show (rdAim wd ([x], false)).2 = EE
      unfold rdAim
      rw [show tk wd ([x], false) = ([x], ([], false)) from tk_hit hm]
      dsimp only
      rcases hx with rfl | rfl | rfl
      · rw [if_pos (.inl rfl)]
        rfl
      · rw [if_pos (.inr rfl)]
        rfl
      · rw [if_neg (by decide), if_pos rfl]
        rfl
    rcases h with (⟨x, rfl, _⟩ | ⟨x, c, e, hx, _⟩ | ⟨c, e, _⟩) | ⟨x, rfl, _⟩
    · simp at hj
    · exact two x c e (hx.imp id .inl)
    · exact two 109 c e (.inr (.inr rfl))
    · simp at hj
theorem upto_part {e wd r : List Nat} {c j : Nat} (he : e = [c]) (hr : ∀ x ∈ r, x ∈ wd) (hj : j < (r ++ [c]).length) : (rdUp e wd ((r ++ [c]).take j, false)).2 = EE := by
  have hj' : j ≤ r.length := by rw [List.length_append, List.length_singleton] at hj; omega
  rw [take_lt hj']
  obtain ⟨a1, a2⟩ := tw_app (q := fun c => decide (c ∈ wd)) (t := r.take j) (u := []) (fun x hx => decide_eq_true (hr x (List.mem_of_mem_take hx))) (fun x hx => by cases hx)
  rw [List.append_nil] at a1 a2
  have et : tka wd (r.take j, false) = (r.take j, ([], false)) := by
    unfold tka
    rw [if_neg (show ¬ false = true from Bool.false_ne_true)]
    show ((r.take j).takeWhile _, ((r.take j).dropWhile _, false)) = _
    rw [a1, a2]
  unfold rdUp
  rw [et, he]
  rfl
theorem ty_part {vb ty : List Nat} {j : Nat} (h : TypedK vb ty) (hj : j < (ty ++ endL vb).length) : (rdTy vb ((ty ++ endL vb).take j, false)).2 = EE := by
  unfold endL at hj ⊢
  unfold rdTy
  rcases h with ⟨hv, _, hr⟩ | ⟨rfl, _, hr⟩ | ⟨rfl, c, rfl, hc⟩ | ⟨rfl, c, rfl, hc⟩ | ⟨hv, c, rfl, hc⟩ | ⟨hn, rfl⟩
  · rw [if_pos hv] at hj ⊢
    rw [if_pos hv]
    refine upto_part rfl (fun x hx => ?_) hj
    rcases hr x hx with z | rfl
    · exact List.mem_append_left _ (sg_in z)
    · exact List.mem_append_right _ (List.mem_singleton.mpr rfl)
  · rw [if_neg (by decide), if_pos rfl] at hj ⊢
    rw [if_neg (by decide), if_pos rfl]
    refine upto_part rfl (fun x hx => ?_) hj
    rcases hr x hx with z | rfl
    · exact List.mem_append_left _ (sg_in z)
    · exact List.mem_append_right _ (List.mem_singleton.mpr rfl)
  · rw [if_neg (by decide), if_neg (by decide)] at hj
    have j0 : j = 0 := by simp at hj; omega
    subst j0
    rfl
  · rw [if_neg (by decide), if_neg (by decide)] at hj
    have j0 : j = 0 := by simp at hj; omega
    subst j0
    rfl
  · have e1 : ¬ (vb = [88] ∨ vb = [84]) ∧ ¬ vb = [58] ∧ ¬ vb = [82] := by rcases hv with rfl | rfl | rfl <;> decide
    rw [if_neg e1.1, if_neg e1.2.1] at hj
    have j0 : j = 0 := by simp at hj; omega
    subst j0
    rw [if_neg e1.1, if_neg e1.2.1, if_neg e1.2.2, if_pos hv]
    rfl
  · have z : ∀ x, x ∈ [88, 84, 58, 82, 86, 77, 75, 64] → ¬ vb = [x] := fun x hx e => hn x e hx
    rw [if_neg (fun h => h.elim (z 88 (by decide)) (z 84 (by decide))), if_neg (z 58 (by decide))] at hj
    simp at hj
theorem ph_half {p : Ph} (h : PhOk p) {j : Nat} (hj : j < (keysOf p).length) : (rdPh ((keysOf p).take j, false)).2 = EE := by
  have hk := keys_is p []
  rw [List.append_nil, List.append_nil] at hk
  rw [hk] at hj ⊢
  have hHd : Hd (p.vb ++ (p.tg ++ (p.ty ++ endL p.vb))) := by
    rcases h.vb with e | ⟨v, hv, e⟩
    · rw [e]
      rcases h.mv e with ⟨x, hx, hm⟩ | ⟨x, c, hx, hm, _⟩ | ⟨c, hx, _⟩
      · rw [hx]
        exact ⟨x, _, rfl, .inr ((show ∀ x ∈ litM12, x ∈ litM by decide) x hm)⟩
      · rw [hx]
        exact ⟨x, _, rfl, .inr (by rcases hm with rfl | rfl <;> decide)⟩
      · rw [hx]
        exact ⟨109, _, rfl, .inr (by decide)⟩
    · rw [e]
      exact ⟨v, _, rfl, .inl hv⟩
  obtain ⟨n34, n19, n09⟩ := hHd.no
  have n34' : ∀ c, (ctL p.ct ++ (p.vb ++ (p.tg ++ (p.ty ++ endL p.vb)))).head? = some c → ¬ c ∈ [34] := by
    intro x hx
    cases ec : p.ct with
    | none => rw [ec] at hx; exact n34 x hx
    | some n =>
      rw [ec] at hx
      obtain ⟨h1, h2, _⟩ := h.ct n ec
      obtain ⟨a, bs, e, ha, _⟩ := dig_parts h1 h2
      have hx' : (digs n ++ (p.vb ++ (p.tg ++ (p.ty ++ endL p.vb)))).head? = some x := hx
      rw [e] at hx'
      cases hx'
      exact (show ∀ a ∈ d19, ¬ a ∈ [34] by decide) _ ha
  by_cases c1 : j < (if p.sh = [] then [] else 34 :: p.sh : List Nat).length
  · rw [take_lt (Nat.le_of_lt c1)]
    rcases h.sh with e | ⟨c, v, e, hc, _, _⟩
    · rw [if_pos e] at c1
      exact absurd c1 (Nat.not_lt_zero _)
    · rw [if_neg (by rw [e]; simp), e] at c1 ⊢
      match j, c1 with
      | 0, _ => exact ph_after_ct rfl
      | 1, _ => exact ph_after_sh rfl
  rw [take_ge (Nat.le_of_not_lt c1)]
  rw [List.length_append] at hj
  generalize (if p.sh = [] then [] else 34 :: p.sh : List Nat).length = lA at hj c1 ⊢
  obtain ⟨j1, hj1⟩ : ∃ j1, j1 = j - lA := ⟨_, rfl⟩
  rw [← hj1]
  have hj1' : j1 < (ctL p.ct ++ (p.vb ++ (p.tg ++ (p.ty ++ endL p.vb)))).length := by omega
  have eS := sh_ok h (R := (ctL p.ct ++ (p.vb ++ (p.tg ++ (p.ty ++ endL p.vb)))).take j1) (fun c hc => n34' c (head_take hc))
  by_cases c2 : j1 < (ctL p.ct).length
  · refine ph_after_ct ?_
    rw [eS, take_lt (Nat.le_of_lt c2)]
    cases ec : p.ct with
    | none => rw [ec] at c2; exact absurd c2 (Nat.not_lt_zero _)
    | some n =>
      rw [ec] at c2
      obtain ⟨h1, h2, _⟩ := h.ct n ec
      exact ct_part h1 h2 c2
  rw [take_ge (Nat.le_of_not_lt c2)] at eS ⊢
  rw [List.length_append] at hj1'
  generalize (ctL p.ct).length = lB at hj1' c2 eS ⊢
  obtain ⟨j2, hj2⟩ : ∃ j2, j2 = j1 - lB := ⟨_, rfl⟩
  rw [← hj2] at eS ⊢
  have hj2' : j2 < (p.vb ++ (p.tg ++ (p.ty ++ endL p.vb))).length := by omega
  have eC := ct_ok h (R := (p.vb ++ (p.tg ++ (p.ty ++ endL p.vb))).take j2) (fun c hc => n19 c (head_take hc)) (fun c hc => n09 c (head_take hc))
  cases j2 with
  | zero =>
    refine ph_after_ct ?_
    rw [eS]
    dsimp only
    rw [eC]
    rfl
  | succ j2 =>
    rcases h.vb with e1 | ⟨v, hv, e1⟩
    · have hty : p.ty = [] ∧ endL p.vb = [] := by
        rw [e1]
        rcases h.ty with ⟨hv, _⟩ | ⟨hv, _⟩ | ⟨hv, _⟩ | ⟨hv, _⟩ | ⟨hv, _⟩ | ⟨_, hr⟩
        · rw [e1] at hv; rcases hv with z | z <;> cases z
        · rw [e1] at hv; cases hv
        · rw [e1] at hv; cases hv
        · rw [e1] at hv; cases hv
        · rw [e1] at hv; rcases hv with z | z | z <;> cases z
        · exact ⟨hr, rfl⟩
      rw [hty.1, hty.2, e1, List.nil_append, List.append_nil, List.append_nil] at eS eC hj2' ⊢
      have hm : mt lit_MOVES (p.tg.take (j2 + 1), false) = true := by
        rcases h.mv e1 with ⟨x, hx, hm⟩ | ⟨x, c, hx, hm, _⟩ | ⟨c, hx, _⟩
        · rw [hx, List.take_succ_cons]
          exact mt_hit ((show ∀ x ∈ litM12, x ∈ lit_MOVES by decide) x hm)
        · rw [hx, List.take_succ_cons]
          exact mt_hit (by rcases hm with rfl | rfl <;> decide)
        · rw [hx, List.take_succ_cons]
          exact mt_hit (by decide)
      have hsh : p.sh = [] := by
        rcases h.sh with e | ⟨c, v, _, _, ev, _⟩
        · exact e
        · rw [e1] at ev; cases ev
      have eV : rdVb p.sh p.ct (p.tg.take (j2 + 1), false) = ([], (p.tg.take (j2 + 1), false)) := by
        unfold rdVb
        rw [if_neg (fun z => z hsh), hm, if_pos rfl]
      have eT := aim_part (wd := lit_MOVES) (.inl (h.mv e1)) (by decide) hj2'
      unfold rdPh
      rw [eS]
      dsimp only
      rw [eC]
      dsimp only
      rw [eV]
      dsimp only
      rw [show (rdTg [] (p.tg.take (j2 + 1), false)).2 = EE from eT]
      exact ty_st _
    · rw [e1] at hj2'
      have hj3 : j2 < (p.tg ++ (p.ty ++ endL [v])).length := by
        have : j2 + 1 < ([v] ++ (p.tg ++ (p.ty ++ endL [v]))).length := hj2'
        rw [List.length_append] at this
        simp only [List.length_singleton] at this
        omega
      rw [e1] at eS eC ⊢
      rw [show ([v] ++ (p.tg ++ (p.ty ++ endL [v]))).take (j2 + 1) = v :: (p.tg ++ (p.ty ++ endL [v])).take j2 from rfl] at eS eC ⊢
      have eV := vb_ok h e1 hv ((p.tg ++ (p.ty ++ endL [v])).take j2)
      have hty := h.ty
      rw [e1] at hty
      unfold rdPh
      rw [eS]
      dsimp only
      rw [eC]
      dsimp only
      rw [eV]
      dsimp only
      by_cases hm : v ∈ litVt
      · have ht := h.tg v e1 hm
        by_cases c3 : j2 < p.tg.length
        · rw [take_lt (Nat.le_of_lt c3)]
          have : (rdTg [v] (p.tg.take j2, false)).2 = EE := by
            show (if v ∈ lit_WITH_TARGET then rdAim (lit_MOVES ++ lit_THINGS) (p.tg.take j2, false) else _).2 = EE
            rw [if_pos hm]
            exact aim_part ht (by decide) c3
          rw [this]
          exact ty_st _
        · rw [take_ge (Nat.le_of_not_lt c3)]
          have : rdTg [v] (p.tg ++ (p.ty ++ endL [v]).take (j2 - p.tg.length), false) = (p.tg, ((p.ty ++ endL [v]).take (j2 - p.tg.length), false)) := by
            show (if v ∈ lit_WITH_TARGET then rdAim (lit_MOVES ++ lit_THINGS) _ else _) = _
            rw [if_pos hm]
            exact aim_targ ht
          rw [this]
          exact ty_part hty (by rw [List.length_append] at hj3; omega)
      · have ht := h.no v e1 hm
        rw [ht, List.nil_append] at hj3 ⊢
        have : rdTg [v] ((p.ty ++ endL [v]).take j2, false) = ([], ((p.ty ++ endL [v]).take j2, false)) := by
          show (if v ∈ lit_WITH_TARGET then _ else _) = _
          rw [if_neg hm]
        rw [this]
        exact ty_part hty hj3

/-! the wrong rows of keys -/
abbrev bads : List (List Nat) := [[48], [113], [117], [66], [126], [10], [32], [53, 77], [51, 126], [67, 113], [67, 10], [109, 53], [86, 120], [49, 50, 51, 52], [82, 10], [34, 65], [34, 97, 71], [34, 97, 51, 104], [49, 50, 58], [102, 126]]
theorem bad_stuck (rest : List Nat) : ∀ b ∈ bads, ∃ x, b = b.take (b.length - 1) ++ [x] ∧ (rdPh (b ++ rest, false)).2 = (x :: rest, true) := by
  intro b hb
  simp only [bads, List.mem_cons, List.not_mem_nil, or_false] at hb
  rcases hb with rfl | rfl | rfl | rfl | rfl | rfl | rfl | rfl | rfl | rfl | rfl | rfl | rfl | rfl | rfl | rfl | rfl | rfl | rfl | rfl
  all_goals exact ⟨_, rfl, rfl⟩
end My

set_option Elab.async false
set_option linter.all false
set_option maxRecDepth 100000
set_option maxHeartbeats 4000000
namespace My
open PySem L2




def sp_badby : Sp := fun vs H Q _ => ∃ c : Int, vs = [.int c] ∧ ∀ b H', b ∈ bads → Same H H' → Q (.str (S b)) H'
def sp_lwhole : Sp := fun vs H Q _ => ∃ i : Int, vs = [.int i] ∧ Q (.bl true) H
def DueV (H : Hp) (u : Addr) (it : Option (List Nat ⊕ Ph)) : Prop := match it with
  | none => H u = some (.tup [.str (S cHlf)])
  | some (.inl b) => H u = some (.tup [.str (S cNone), nV b.length])
  | some (.inr p) => ∃ t, H t = some (.tup (phV p)) ∧ H u = some (.tup [.str (S cPhr), .ref t, nV (keysOf p).length])
theorem DueV.same {H H' : Hp} {u : Addr} {it : Option (List Nat ⊕ Ph)} (h : DueV H u it) (q : Same H H') : DueV H' u it := by
  match it, h with
  | none, h => exact q _ _ h
  | some (.inl b), h => exact q _ _ h
  | some (.inr p), ⟨t, h1, h2⟩ => exact ⟨t, q _ _ h1, q _ _ h2⟩
def sp_told46 : Sp := fun vs H Q _ => ∃ (u v : Addr) (it : Option (List Nat ⊕ Ph)), vs = [.ref u, .ref v] ∧ DueV H u it ∧ DueV H v it ∧ Q (.bl true) H
theorem phV_fl (p : Ph) : (phV p).all flatV = true ∧ eqs (phV p) (phV p) = true := by
  have hf : ∀ x ∈ phV p, flatV x = true := fun x hx => by
    unfold phV at hx
    simp only [List.mem_cons, List.not_mem_nil, or_false] at hx
    rcases hx with rfl | rfl | rfl | rfl | rfl
    · rfl
    · cases p.ct <;> rfl
    · rfl
    · rfl
    · rfl
  have ha : (phV p).all flatV = true := List.all_eq_true.mpr hf
  exact ⟨ha, eqs_self ha (fun x hx => eqV_self (hf x hx))⟩
section
variable {P : Program} {w : World} {K : PySem.W.Frag} {mg : Str → Option Value} {base : Heap} {f : Addr} {fd : FuncData}
theorem sc__law_whole : FnScope ["_law_found"] ["_law_found"] (defScope s__law_whole) := ⟨rfl, rfl, rfl, by decide +kernel, rfl, by decide +kernel, by decide +kernel⟩
theorem ok_lwhole (F : Fun K "_law_whole" "_law_whole" s__law_whole f fd) (m_isinstance : mg "isinstance" = none) (m_int : mg "int" = none) (m_bool : mg "bool" = none) : FnOk P w K mg base CX0 1 f fd ["_law_found"] sp_lwhole := by
  refine F.ok sc__law_whole (fun vs H Q E h => ?_) (fun cdv A outer s H vs Q E hr h => ?_)
  · obtain ⟨x, rfl, _⟩ := h
    rfl
  obtain ⟨x, rfl, q⟩ := h
  refine ⟨_, (pss_one (ps_ret (pe_and (pe_callB call_isi (by rfl) m_isinstance boot_isi (pa_cons (pv 0) (pa_cons (pe_bltn (v := .ty "int") (by rfl) m_int boot_int rfl) pa_nil))) (pe_one (pe_not (pe_callB call_isi (by rfl) m_isinstance boot_isi (pa_cons (pv 0) (pa_cons (pe_bltn (v := .ty "bool") (by rfl) m_bool boot_bool rfl) pa_nil)))))))), ?_⟩
  refine ⟨_, rfl, _, _, _, _, rfl, ⟨_, .inl rfl⟩, .int x, kit_ii, _, rfl, iteT ?_⟩
  exact ⟨_, rfl, _, _, _, _, rfl, ⟨_, .inl rfl⟩, .int x, kit_ib, _, rfl, q⟩
theorem sc__law_bad_by : FnScope ["_law_cell", "_law_some"] ["_law_cell"] (defScope s__law_bad_by) := ⟨rfl, rfl, rfl, by decide +kernel, rfl, by decide +kernel, by decide +kernel⟩
abbrev st46 : Stmt := (defBody s__law_bad_by).getD 0 (.Pass ⟨0, 0, 0, 0⟩)
abbrev tg46 : List Expr := match st46 with | .Assign t _ _ => t | _ => []
abbrev vl46 : Expr := match st46 with | .Assign _ v _ => v | _ => .Constant .none 0 ⟨0, 0, 0, 0⟩
abbrev pp46 : Pos := match st46 with | .Assign _ _ p => p | _ => ⟨0, 0, 0, 0⟩
@[irreducible] def es46 : List Expr := match vl46 with | .List es _ => es | _ => []
@[irreducible] def ps46 : Pos := match vl46 with | .List _ p => p | _ => ⟨0, 0, 0, 0⟩
def vs46 : List Str := ["0", "q", "u", "B", "~", "\n", " ", "5M", "3~", "Cq", "C\n", "m5", "Vx", "1234", "R\n"]
theorem e46 : es46.map strC = vs46.map some := by kernel_rfl
theorem b46 : defBody s__law_bad_by = [.Assign tg46 (.List es46 ps46) pp46, (defBody s__law_bad_by).getD 1 (.Pass ⟨0, 0, 0, 0⟩), (defBody s__law_bad_by).getD 2 (.Pass ⟨0, 0, 0, 0⟩)] := by kernel_rfl
theorem vs46_is : vs46.map V.str ++ [V.str "\"A", V.str "\"aG", V.str "\"a3h", V.str "12:", V.str "f~"] = bads.map fun b => V.str (S b) := by kernel_rfl
theorem bad_at (c : Int) : ∃ b, b ∈ bads ∧ atI (bads.map fun b => V.str (S b)) (c % 20) = some (.str (S b)) := by
  have k0 : 0 ≤ c % 20 := Int.emod_nonneg _ (by decide)
  have k1 : c % 20 < 20 := Int.emod_lt_of_pos _ (by decide)
  obtain ⟨j, hj⟩ : ∃ j : Nat, c % 20 = (j : Int) := ⟨_, (Int.toNat_of_nonneg k0).symm⟩
  rw [hj] at k1 ⊢
  have hlen : j < bads.length := by show j < 20; omega
  have e : bads[j]? = some bads[j] := List.getElem?_eq_getElem hlen
  exact ⟨_, List.mem_of_getElem? e, atI_nat (by rw [List.getElem?_map, e]; rfl)⟩
theorem ok_badby (F : Fun K "_law_bad_by" "_law_bad_by" s__law_bad_by f fd) : FnOk P w K mg base CX0 1 f fd ["_law_cell"] sp_badby := by
  refine F.ok sc__law_bad_by (fun vs H Q E h => ?_) (fun cdv A outer s H vs Q E hr h => ?_)
  · obtain ⟨c, rfl, _⟩ := h
    rfl
  obtain ⟨c, rfl, q⟩ := h
  rw [b46]
  refine ⟨_, (pss_cons (ps_set (i := 1) sc__law_bad_by.nd rfl (Or.inl rfl) (pe_lstS e46))
      (pss_cons (ps_set (i := 1) sc__law_bad_by.nd rfl (Or.inl rfl) (pe_op op_cat (pv 1) (pe_lst (pa_cons pe_str (pa_cons pe_str (pa_cons pe_str (pa_cons pe_str (pa_cons pe_str pa_nil))))))))
      (pss_one (ps_ret (pe_ix ix_list (pv 1) (pe_op op_mod (pv 0) pe_int) (fun _ _ => rfl)))))), ?_⟩
  refine ⟨(by show 15 ≤ sizeLine; decide), fun L hL => ?_⟩
  refine ⟨_, rfl, (by show 5 ≤ sizeLine; decide), fun L2 hL2 => ?_⟩
  have S1 := same_new hL (.lst (vs46.map V.str))
  have S2 := same_new hL2 (.lst [V.str "\"A", V.str "\"aG", V.str "\"a3h", V.str "12:", V.str "f~"])
  refine ⟨L, L2, _, _, rfl, rfl, S2 _ _ upd_same, upd_same, (by show 20 ≤ sizeLine; decide), fun G hG => ?_⟩
  obtain ⟨b, hb, hat⟩ := bad_at c
  refine ⟨_, rfl, _, rfl, _, _, rfl, rfl, (by show (0 : Int) < 20; decide), G, _, _, _, rfl, rfl, SqL.of upd_same, ?_, q b _ hb ((S1.trans S2).trans (same_new hG _))⟩
  rw [vs46_is]
  exact hat
theorem sc__law_told : FnScope ["_law_found", "_law_due"] ["_law_found", "_law_due"] (defScope s__law_told) := ⟨rfl, rfl, rfl, by decide +kernel, rfl, by decide +kernel, by decide +kernel⟩
theorem ok_told46 (F : Fun K "_law_told" "_law_told" s__law_told f fd) (O__law_whole : Own P w K mg base CX0 1 "_law_whole" ["_law_found"] sp_lwhole) (m_isinstance : mg "isinstance" = none) (m_tuple : mg "tuple" = none) : FnOk P w K mg base CX0 2 f fd ["_law_found", "_law_due"] sp_told46 := by
  refine F.ok sc__law_told (fun vs H Q E h => ?_) (fun cdv A outer s H vs Q E hr h => ?_)
  · obtain ⟨u, v, it, rfl, _⟩ := h
    rfl
  obtain ⟨u, v, it, rfl, hu, hv, q⟩ := h
  refine ⟨_, (pss_cons (ps_if (PW.pt (pw_or (pt_not (pt_val (pe_callB call_isi (by rfl) m_isinstance boot_isi (pa_cons (pv 0) (pa_cons (pe_bltn (v := .ty "tuple") (by rfl) m_tuple boot_tuple rfl) pa_nil))))) (pw_or1 (pt_cmpR (op_neS hr.u1) (pv 0) (pv 1) (nomark _))))) (pss_one (ps_ret pe_bl)) pss_nil)
      (pss_cons (ps_if (PW.pt (pw_and (pt_cmpR op_eq (pe_ix ix_tup (pv 0) pe_int (fun _ _ => rfl)) pe_str (nomark _)) (pw_and (pt_cmpR op_notN (pe_ix ix_tup (pe_ix ix_tup (pv 0) pe_int (fun _ _ => rfl)) pe_int (fun _ _ => rfl)) pe_non (nomark _)) (pw_and1 (pt_not (pt_val (pe_own O__law_whole hr (by rfl) pass0 (pa_cons (pe_ix ix_tup (pe_ix ix_tup (pv 0) pe_int (fun _ _ => rfl)) pe_int (fun _ _ => rfl)) pa_nil)))))))) (pss_one (ps_ret pe_bl)) pss_nil)
      (pss_one (ps_ret (pe_or (pe_cmpR op_eq (pe_ix ix_tup (pv 0) pe_int (fun _ _ => rfl)) pe_str (nomark _)) (pe_one (pe_own O__law_whole hr (by rfl) pass0 (pa_cons (pe_ix ix_tup (pv 0) (pe_un un_neg pe_int) (fun _ _ => rfl)) pa_nil)))))))), ?_⟩
  match it, hu, hv with
  | none, hu, hv =>
    have hu' : H u = some (.tup [.str (S cHlf)]) := hu
    have hv' : H v = some (.tup [.str (S cHlf)]) := hv
    refine ⟨_, rfl, _, _, _, _, rfl, ⟨_, .inl rfl⟩, .tup hu', kit_tt, _, rfl, iteF ?_⟩
    refine ⟨_, rfl, _, rfl, u, v, _, _, rfl, rfl, .inr ⟨SqT.of hu', SqT.of hv'⟩, rfl, (fun j a b ea eb => ?_), _, rfl, iteF ?_⟩
    · match j, ea, eb with
      | 0, ea, eb => cases ea; cases eb; exact .inl ⟨rfl, rfl, eqV_self rfl⟩
    refine ⟨_, rfl, u, _, _, _, rfl, rfl, SqT.of hu', rfl, rfl, _, rfl, iteDF (fun z => absurd (S_inj (V.str.inj z)) (by decide)) (iteF ?_)⟩
    exact ⟨_, rfl, u, _, _, _, rfl, rfl, SqT.of hu', rfl, rfl, _, rfl, iteDT rfl q⟩
  | some (.inl b), hu, hv =>
    have hu' : H u = some (.tup [.str (S cNone), nV b.length]) := hu
    have hv' : H v = some (.tup [.str (S cNone), nV b.length]) := hv
    refine ⟨_, rfl, _, _, _, _, rfl, ⟨_, .inl rfl⟩, .tup hu', kit_tt, _, rfl, iteF ?_⟩
    refine ⟨_, rfl, _, rfl, u, v, _, _, rfl, rfl, .inr ⟨SqT.of hu', SqT.of hv'⟩, rfl, (fun j a b ea eb => ?_), _, rfl, iteF ?_⟩
    · match j, ea, eb with
      | 0, ea, eb => cases ea; cases eb; exact .inl ⟨rfl, rfl, eqV_self rfl⟩
      | 1, ea, eb => cases ea; cases eb; exact .inl ⟨rfl, rfl, eqV_self rfl⟩
    refine ⟨_, rfl, u, _, _, _, rfl, rfl, SqT.of hu', rfl, rfl, _, rfl, iteDF (fun z => absurd (S_inj (V.str.inj z)) (by decide)) (iteF ?_)⟩
    exact ⟨_, rfl, u, _, _, _, rfl, rfl, SqT.of hu', rfl, rfl, _, rfl, iteDF (fun z => absurd (S_inj (V.str.inj z)) (by decide)) ⟨_, rfl, _, rfl, u, _, _, _, rfl, rfl, SqT.of hu', rfl, _, rfl, q⟩⟩
  | some (.inr p), ⟨t, ht, hu⟩, ⟨t', ht', hv⟩ =>
    refine ⟨_, rfl, _, _, _, _, rfl, ⟨_, .inl rfl⟩, .tup hu, kit_tt, _, rfl, iteF ?_⟩
    refine ⟨_, rfl, _, rfl, u, v, _, _, rfl, rfl, .inr ⟨SqT.of hu, SqT.of hv⟩, rfl, (fun j a b ea eb => ?_), _, rfl, iteF ?_⟩
    · match j, ea, eb with
      | 0, ea, eb => cases ea; cases eb; exact .inl ⟨rfl, rfl, eqV_self rfl⟩
      | 1, ea, eb => cases ea; cases eb; exact .inr ⟨t, t', phV p, rfl, rfl, .inr ⟨SqT.of ht, SqT.of ht'⟩, (phV_fl p).1, (phV_fl p).2⟩
      | 2, ea, eb => cases ea; cases eb; exact .inl ⟨rfl, rfl, eqV_self rfl⟩
    have htt : H t = some (.tup [.str (S p.sh), optV p.ct, .str (S p.vb), .str (S p.tg), .str (S p.ty)]) := ht
    refine ⟨_, rfl, u, _, _, _, rfl, rfl, SqT.of hu, rfl, rfl, _, rfl, iteDT rfl ⟨_, rfl, u, _, _, _, rfl, rfl, SqT.of hu, rfl, t, _, _, _, rfl, rfl, SqT.of htt, rfl, rfl, _, rfl, ?_⟩⟩
    cases hc : p.ct with
    | none =>
      refine iteF (iteF ?_)
      exact ⟨_, rfl, u, _, _, _, rfl, rfl, SqT.of hu, rfl, rfl, _, rfl, iteDF (fun z => absurd (S_inj (V.str.inj z)) (by decide)) ⟨_, rfl, _, rfl, u, _, _, _, rfl, rfl, SqT.of hu, rfl, _, rfl, q⟩⟩
    | some n =>
      rw [hc] at htt
      refine iteT ⟨_, rfl, u, _, _, _, rfl, rfl, SqT.of hu, rfl, t, _, _, _, rfl, rfl, SqT.of htt, rfl, (n : Int), rfl, _, rfl, iteF ?_⟩
      exact ⟨_, rfl, u, _, _, _, rfl, rfl, SqT.of hu, rfl, rfl, _, rfl, iteDF (fun z => absurd (S_inj (V.str.inj z)) (by decide)) ⟨_, rfl, _, rfl, u, _, _, _, rfl, rfl, SqT.of hu, rfl, _, rfl, q⟩⟩
end
end My

set_option Elab.async false
set_option linter.all false
set_option maxRecDepth 100000
set_option maxHeartbeats 4000000
namespace My
open PySem L2




abbrev Item := List Nat ⊕ Ph
def ik : Item → List Nat
  | .inl b => b
  | .inr p => keysOf p
def IkOk : Item → Prop
  | .inl b => b ∈ bads
  | .inr p => PhOk p
def allK (its : List Item) : List Nat := (its.map ik).flatten
theorem bads_len : ∀ b ∈ bads, 1 ≤ b.length ∧ b.length ≤ 4 := by decide
theorem keys_pos {p : Ph} (h : PhOk p) : 0 < (keysOf p).length := by
  have hk := keys_is p []
  rw [List.append_nil, List.append_nil] at hk
  rw [hk, List.length_append, List.length_append, List.length_append, List.length_append]
  rcases h.vb with e | ⟨v, _, e⟩
  · rcases h.mv e with ⟨x, hx, _⟩ | ⟨x, c, hx, _⟩ | ⟨c, hx, _⟩ <;> rw [hx] <;> simp <;> omega
  · rw [e]
    simp
    omega
theorem first_it {H : Hp} {u : Addr} {it : Item} {rest : List Nat} (h : IkOk it) (hF : FirV H (ik it ++ rest) u) : DueV H u (some it) := by
  match it, h with
  | .inl b, h =>
    obtain ⟨x, e, hs⟩ := bad_stuck rest b h
    have hF' : FirV H (b ++ rest) u := hF
    unfold FirV at hF'
    rw [hs] at hF'
    have hb := (bads_len b h).1
    have e1 : (b ++ rest).length - (x :: rest).length = b.length - 1 := by rw [List.length_append, List.length_cons]; omega
    simp only [Bool.true_eq_false, if_false] at hF'
    rw [e1, if_neg (by rw [List.length_append]; omega)] at hF'
    show H u = some (.tup [.str (S cNone), nV b.length])
    rw [hF', show b.length - 1 + 1 = b.length by omega]
  | .inr p, h =>
    have hF' : FirV H (keysOf p ++ rest) u := hF
    unfold FirV at hF'
    rw [ph_read h rest] at hF'
    simp only [if_true] at hF'
    obtain ⟨v, h1, h2⟩ := hF'
    refine ⟨v, h1, ?_⟩
    rw [h2, show (keysOf p ++ rest).length - rest.length = (keysOf p).length by rw [List.length_append]; omega]
theorem first_hf {H : Hp} {u : Addr} {p : Ph} {j : Nat} (h : PhOk p) (hj : j < (keysOf p).length) (hF : FirV H ((keysOf p).take j) u) : DueV H u none := by
  unfold FirV at hF
  rw [ph_half h hj] at hF
  simp only [Bool.true_eq_false, if_false, List.length_nil, Nat.sub_zero, if_true] at hF
  exact hF
def DuesV (H : Hp) (D : Addr) (its : List Item) : Prop := ∃ as : List Addr, H D = some (.lst (as.map V.ref)) ∧ as.length = its.length ∧ ∀ (i : Nat) (a : Addr) (it : Item), as[i]? = some a → its[i]? = some it → DueV H a (some it)
theorem DueV.updL {H : Hp} {D a : Addr} {it : Option Item} {xs : List V} {o : HO} (h : DueV H a it) (hD : H D = some (.lst xs)) : DueV (upd H D o) a it := by
  have ne : ∀ {b : Addr} {ys : List V}, H b = some (.tup ys) → b ≠ D := fun hb e => by rw [e, hD] at hb; cases hb
  match it, h with
  | none, h => show upd H D o a = _; rw [L2.upd_ne (ne h)]; exact h
  | some (.inl b), h => show upd H D o a = _; rw [L2.upd_ne (ne h)]; exact h
  | some (.inr p), ⟨t, h1, h2⟩ => exact ⟨t, by rw [L2.upd_ne (ne h1)]; exact h1, by rw [L2.upd_ne (ne h2)]; exact h2⟩
theorem DuesV.same {H H' : Hp} {D : Addr} {its : List Item} (h : DuesV H D its) (s : Same H H') : DuesV H' D its := by
  obtain ⟨as, h1, h2, h3⟩ := h
  exact ⟨as, s _ _ h1, h2, fun i a it e1 e2 => (h3 i a it e1 e2).same s⟩
theorem DuesV.snoc {H : Hp} {D a : Addr} {its : List Item} {it : Item} {xs : List V} (h : DuesV H D its) (hD : H D = some (.lst xs)) (ha : DueV H a (some it)) : DuesV (upd H D (.lst (xs ++ [.ref a]))) D (its ++ [it]) := by
  obtain ⟨as, h1, h2, h3⟩ := h
  rw [h1] at hD
  cases hD
  refine ⟨as ++ [a], ?_, ?_, fun i b r e1 e2 => ?_⟩
  · rw [upd_same, List.map_append]
    rfl
  · rw [List.length_append, List.length_append, h2]
    rfl
  · by_cases hi : i < as.length
    · rw [List.getElem?_append_left hi] at e1
      rw [List.getElem?_append_left (by omega)] at e2
      exact (h3 i b r e1 e2).updL h1
    · rw [List.getElem?_append_right (by omega)] at e1
      rw [List.getElem?_append_right (by omega), ← h2] at e2
      by_cases z : i - as.length = 0
      · rw [z] at e1 e2
        cases e1
        cases e2
        exact ha.updL h1
      · obtain ⟨n, hn⟩ : ∃ n, i - as.length = n + 1 := ⟨i - as.length - 1, by omega⟩
        rw [hn] at e1
        cases e1
theorem allK_snoc (its : List Item) (it : Item) : allK (its ++ [it]) = allK its ++ ik it := by
  unfold allK
  rw [List.map_append, List.flatten_append]
  simp
section
variable {P : Program} {w : World} {K : PySem.W.Frag} {mg : Str → Option Value} {base : Heap} {f : Addr} {fd : FuncData}
theorem sc_law : FnScope ["_law_script", "_law_dues", "_law_keys_here", "_law_k", "_law_phrase_here", "_law_number_here", "_law_bad", "_law_cell", "_law_last", "_law_due"] ["_law_script"] (defScope s_law) := ⟨rfl, rfl, rfl, by decide +kernel, rfl, by decide +kernel, by decide +kernel⟩
theorem ok_law (F : Fun K "law" "law" s_law f fd) (O__law_cell_at : Own P w K mg base CX0 1 "_law_cell_at" ["_law_script", "_law_k"] (sp_cell46 K)) (O__law_number : Own P w K mg base CX0 1 "_law_number" ["_law_cell", "_law_k"] sp_num46) (O__law_phrase : Own P w K mg base CX0 4 "_law_phrase" ["_law_cell"] sp_phr46) (O__law_keys : Own P w K mg base CX0 1 "_law_keys" ["_law_phrase_here"] sp_kys) (O__law_bad_by : Own P w K mg base CX0 1 "_law_bad_by" ["_law_cell"] sp_badby) (O__law_told : Own P w K mg base CX0 2 "_law_told" ["_law_found", "_law_due"] sp_told46) (O_first : Own P w K mg base CX0 6 "first" ["keys"] sp_first) (m_len : mg "len" = none) (m_min : mg "min" = none) (m_range : mg "range" = none) : FnOk P w K mg base CX0 21 f fd ["_law_script"] (sp_law K) := by
  refine F.ok sc_law (fun vs H Q E h => ?_) (fun cdv A outer s H vs Q E hr h => ?_)
  · obtain ⟨a, ns, rfl, _⟩ := h
    rfl
  obtain ⟨a, ns, rfl, hS, h63, q⟩ := h
  refine ⟨_, (pss_cons (ps_set (i := 1) sc_law.nd rfl (Or.inl rfl) (pe_lst pa_nil))
      (pss_cons (ps_set (i := 2) sc_law.nd rfl (Or.inl rfl) pe_str)
      (pss_cons (ps_for PassesOwn.never rfl (pi_range1 (by rfl) m_range (pa_cons (pe_op op_add (pe_callB (call_min2 (by rfl)) (by rfl) m_min boot_min (pa_cons (pe_callB call_len_seq (by rfl) m_len PySem.boot_len (pa_cons (pv 0) pa_nil)) (pa_cons pe_int pa_nil))) pe_int) pa_nil)) (pg_name (i := 3) sc_law.nd rfl (Or.inl rfl)) (pss_cons (ps_if (pt_cmpR op_gt (pe_callB call_lenS (by rfl) m_len PySem.boot_len (pa_cons (pv 2) pa_nil)) pe_int (nomark _)) (pss_one ps_break) pss_nil)
      (pss_cons (ps_set (i := 4) sc_law.nd rfl (Or.inl rfl) (pe_own O__law_phrase hr (by rfl) pass0 (pa_cons (pe_own O__law_cell_at hr (by rfl) pass0 (pa_cons (pv 0) (pa_cons (pv 3) pa_nil))) pa_nil)))
      (pss_cons (ps_set (i := 5) sc_law.nd rfl (Or.inl rfl) (pe_own O__law_number hr (by rfl) pass0 (pa_cons (pe_own O__law_cell_at hr (by rfl) pass0 (pa_cons (pv 0) (pa_cons (pv 3) pa_nil))) (pa_cons pe_int pa_nil))))
      (pss_one (ps_if (pt_cmpR op_eq (pe_op op_mod (pv 5) pe_int) pe_int (nomark _)) (pss_cons (ps_set (i := 6) sc_law.nd rfl (Or.inl rfl) (pe_own O__law_bad_by hr (by rfl) pass0 (pa_cons (pe_op op_fdiv (pv 5) pe_int) pa_nil)))
      (pss_cons (ps_set (i := 2) sc_law.nd rfl (Or.inl rfl) (pe_op op_adS (pv 2) (pv 6)))
      (pss_one (ps_expr (pe_bm PySem.F.plainAttrs_list PySem.F.slot_list_append PySem.F.type_list_append mt_append (pv 1) (pa_cons (pe_tup (pa_cons pe_str (pa_cons (pe_callB call_lenS (by rfl) m_len PySem.boot_len (pa_cons (pv 6) pa_nil)) pa_nil))) pa_nil)))))) (pss_cons (ps_set (i := 2) sc_law.nd rfl (Or.inl rfl) (pe_op op_adS (pv 2) (pe_own O__law_keys hr (by rfl) pass0 (pa_cons (pv 4) pa_nil))))
      (pss_one (ps_expr (pe_bm PySem.F.plainAttrs_list PySem.F.slot_list_append PySem.F.type_list_append mt_append (pv 1) (pa_cons (pe_tup (pa_cons pe_str (pa_cons (pv 4) (pa_cons (pe_callB call_lenS (by rfl) m_len PySem.boot_len (pa_cons (pe_own O__law_keys hr (by rfl) pass0 (pa_cons (pv 4) pa_nil)) pa_nil)) pa_nil)))) pa_nil)))))))))))
      (pss_cons (ps_set (i := 7) sc_law.nd rfl (Or.inl rfl) (pe_own O__law_cell_at hr (by rfl) pass0 (pa_cons (pv 0) (pa_cons pe_int pa_nil))))
      (pss_cons (ps_set (i := 8) sc_law.nd rfl (Or.inl rfl) (pe_own O__law_keys hr (by rfl) pass0 (pa_cons (pe_own O__law_phrase hr (by rfl) pass0 (pa_cons (pv 7) pa_nil)) pa_nil)))
      (pss_cons (ps_set (i := 2) sc_law.nd rfl (Or.inl rfl) (pe_op op_adS (pv 2) (pe_slice sl_str (pv 8) po_none (po_some (pe_op op_mod (pe_own O__law_number hr (by rfl) pass0 (pa_cons (pv 7) (pa_cons pe_int pa_nil))) (pe_callB call_lenS (by rfl) m_len PySem.boot_len (pa_cons (pv 8) pa_nil)))))))
      (pss_cons (ps_for PassesOwn.never rfl (pi_list (pv 1)) (pg_name (i := 9) sc_law.nd rfl (Or.inl rfl)) (pss_cons (ps_if (pt_not (pt_val (pe_own O__law_told hr (by rfl) pass0 (pa_cons (pe_own O_first hr (by rfl) pass0 (pa_cons (pv 2) pa_nil)) (pa_cons (pv 9) pa_nil))))) (pss_one (ps_ret pe_bl)) pss_nil)
      (pss_one (ps_set (i := 2) sc_law.nd rfl (Or.inl rfl) (pe_slice sl_str (pv 2) (po_some (pe_ix ix_tup (pv 9) (pe_un un_neg pe_int) (fun _ _ => rfl))) po_none)))))
      (pss_one (ps_ret (pe_own O__law_told hr (by rfl) pass0 (pa_cons (pe_own O_first hr (by rfl) pass0 (pa_cons (pv 2) pa_nil)) (pa_cons (pe_tup (pa_cons pe_str pa_nil)) pa_nil)))))))))))), ?_⟩
  have big : ∀ {n : Nat}, n ≤ 1000 → n ≤ sizeLine := fun h => Nat.le_trans (show _ ≤ 1000000 by omega) (small (Nat.le_refl _))
  refine ⟨Nat.zero_le _, fun D hD => ?_⟩
  refine gname_go (seq_at (gname_go (seq_at (seq_to (fun σ H' => Same H H' ∧ ∃ (its : List Item) (x3 x4 x5 x6 : Option V), DuesV H' D its ∧ (∀ it ∈ its, IkOk it) ∧ (allK its).length ≤ 480 ∧ σ = [some (.ref a), some (.ref D), some (.str (S (allK its))), x3, x4, x5, x6, none, none, none]) (fun nx fin => ?_) ?_))))
  · have hz : 0 ≤ (if (61 : Int) < (((ns.map V.int).length : Nat) : Int) then (61 : Int) else (((ns.map V.int).length : Nat) : Int)) + 1 ∧ (if (61 : Int) < (((ns.map V.int).length : Nat) : Int) then (61 : Int) else (((ns.map V.int).length : Nat) : Int)) + 1 ≤ 62 := by split <;> omega
    refine ⟨_, rfl, a, _, rfl, .inl ((same_new hD _).seq hS), _, _, rfl, _, _, rfl, rfl, _, rfl, by have := hz.1; omega, by have := hz.2; omega, ?_⟩
    refine for_range (fun i σ H' => Same H H' ∧ ∃ (its : List Item) (x3 x4 x5 x6 : Option V), DuesV H' D its ∧ its.length ≤ i ∧ (∀ it ∈ its, IkOk it) ∧ (allK its).length ≤ 480 ∧ σ = [some (.ref a), some (.ref D), some (.str (S (allK its))), x3, x4, x5, x6, none, none, none]) ⟨same_new hD _, [], none, none, none, none, ⟨[], upd_same, rfl, (fun i a it z => by cases z)⟩, Nat.le_refl _, (fun it h => by cases h), Nat.zero_le _, rfl⟩ ?_ ?_
    · rintro i σ H1 hi ⟨S1, its, x3, x4, x5, x6, hT, hil, hok, hlen, rfl⟩
      have hi' : i < 62 := by
        have h1 := hz.2
        have : i < ((if (61 : Int) < (((ns.map V.int).length : Nat) : Int) then (61 : Int) else (((ns.map V.int).length : Nat) : Int)) + 1).toNat := hi
        omega
      rw [Int.zero_add]
      refine ⟨_, rfl, allK its, rfl, big (by omega), _, _, rfl, rfl, _, rfl, ?_⟩
      by_cases z : (((allK its).length : Nat) : Int) > 380
      · exact iteDT z (fin _ _ ⟨S1, its, _, _, _, _, hT, hok, hlen, rfl⟩)
      refine iteDF z ⟨_, rfl, _, rfl, a, ns, i, rfl, S1.seq hS, by omega, fun c => ⟨c, rfl, fun p t H2 S2 hp ht => ?_⟩⟩
      have S12 := S1.trans S2
      refine ⟨_, rfl, _, rfl, a, ns, i, rfl, S12.seq hS, by omega, fun c2 => ⟨c2, 4, rfl, by decide, fun m hm => ?_⟩⟩
      have hT2 := hT.same S2
      have lenD : ∀ {xs : List V} {H' : Hp}, DuesV H' D its → H' D = some (.lst xs) → xs.length < sizeLine := fun h hx => by
        obtain ⟨as, h1, h2, _⟩ := h
        rw [h1] at hx
        cases hx
        rw [List.length_map, h2]
        exact Nat.lt_of_lt_of_le (show _ < 1000000 by omega) (small (Nat.le_refl _))
      refine ⟨_, rfl, _, _, rfl, rfl, (by show (0 : Int) < 4; decide), rfl, _, rfl, ite2 (fun _ => ?_) (fun _ => ?_)⟩
      · refine ⟨_, rfl, _, _, rfl, rfl, ⟨by decide, by decide⟩, _, rfl, fun b H3 hb S3 => ?_⟩
        have hbl := bads_len b hb
        have hT3 := hT2.same S3
        obtain ⟨as3, hx3, _, _⟩ := id hT3
        refine ⟨_, rfl, _, rfl, allK its, b, rfl, rfl, big (by omega), ?_⟩
        refine ⟨_, rfl, .inl ⟨rfl, _, SqL.of hx3⟩, _, rfl, b, rfl, big (by omega), (by show 2 ≤ sizeLine; decide), fun u hu => ?_⟩
        have S4 := same_new hu (.tup [V.str "none", V.int ((b.length : Nat) : Int)])
        refine ⟨D, _, _, rfl, rfl, S4 _ _ hx3, lenD hT3 hx3, same_upd ((S12.trans S3).trans S4) hD, its ++ [.inl b], some (.int (i : Int)), some (.ref t), some (.int m), some (.str (S b)), DuesV.snoc (it := .inl b) (hT3.same S4) (S4 _ _ hx3) (show upd H3 u (.tup [V.str "none", V.int ((b.length : Nat) : Int)]) u = _ from upd_same), ?_, fun it hit => ?_, ?_, ?_⟩
        · rw [List.length_append]
          show its.length + 1 ≤ i + 1
          omega
        · rcases List.mem_append.mp hit with y | y
          · exact hok it y
          · rw [List.mem_singleton] at y
            subst y
            exact hb
        · rw [allK_snoc, List.length_append]
          show (allK its).length + b.length ≤ 480
          omega
        · rw [allK_snoc]
          rfl
      · refine ⟨_, rfl, _, rfl, t, p, rfl, ht, hp, fun H3 S3 => ?_⟩
        have hkl := keys_len hp
        refine ⟨allK its, keysOf p, rfl, rfl, big (by omega), ?_⟩
        have hT3 := hT2.same S3
        obtain ⟨as3, hx3, _, _⟩ := id hT3
        have ht3 := S3 _ _ ht
        refine ⟨_, rfl, .inl ⟨rfl, _, SqL.of hx3⟩, _, rfl, _, rfl, t, p, rfl, ht3, hp, fun H4 S4 => ⟨keysOf p, rfl, big (by omega), (by show 3 ≤ sizeLine; decide), fun u hu => ?_⟩⟩
        have S5 := same_new hu (.tup [V.str "phrase", .ref t, V.int (((keysOf p).length : Nat) : Int)])
        have S45 := S4.trans S5
        refine ⟨D, _, _, rfl, rfl, S45 _ _ hx3, lenD hT3 hx3, same_upd ((S12.trans S3).trans S45) hD, its ++ [.inr p], some (.int (i : Int)), some (.ref t), some (.int m), x6, DuesV.snoc (it := .inr p) (hT3.same S45) (S45 _ _ hx3) (show ∃ t', _ ∧ _ from ⟨t, S45 _ _ ht3, upd_same⟩), ?_, fun it hit => ?_, ?_, ?_⟩
        · rw [List.length_append]
          show its.length + 1 ≤ i + 1
          omega
        · rcases List.mem_append.mp hit with y | y
          · exact hok it y
          · rw [List.mem_singleton] at y
            subst y
            exact hp
        · rw [allK_snoc, List.length_append]
          show (allK its).length + (keysOf p).length ≤ 480
          omega
        · rw [allK_snoc]
          rfl
    · rintro σ H1 ⟨S1, its, x3, x4, x5, x6, hT, _, hok, hlen, rfl⟩
      exact fin _ _ ⟨S1, its, _, _, _, _, hT, hok, hlen, rfl⟩
  rintro σ H1 ⟨S1, its, x3, x4, x5, x6, hT, hok, hlen, rfl⟩
  refine ⟨_, rfl, a, ns, 62, rfl, S1.seq hS, by decide, fun c => ?_⟩
  refine ⟨_, rfl, c, rfl, fun p t H2 S2 hp ht => ⟨t, p, rfl, ht, hp, fun H3 S3 => ?_⟩⟩
  have hkl := keys_len hp
  have hkp := keys_pos hp
  refine ⟨_, rfl, _, rfl, _, rfl, c, 5, rfl, by decide, fun m hm => ⟨_, rfl, keysOf p, rfl, big (by omega), _, _, rfl, rfl, (by show (0 : Int) < (((keysOf p).length : Nat) : Int); omega), _, rfl, keysOf p, rfl, big (by omega), ?_⟩⟩
  have j0 : 0 ≤ m % (((keysOf p).length : Nat) : Int) := Int.emod_nonneg _ (by omega)
  have j1 : m % (((keysOf p).length : Nat) : Int) < (((keysOf p).length : Nat) : Int) := Int.emod_lt_of_pos _ (by omega)
  obtain ⟨j, hj⟩ : ∃ j : Nat, m % (((keysOf p).length : Nat) : Int) = (j : Int) := ⟨_, (Int.toNat_of_nonneg j0).symm⟩
  rw [hj] at j1
  have hjl : j < (keysOf p).length := by omega
  have ecut : cutL (keysOf p) none (some (m % (((keysOf p).length : Nat) : Int))) = (keysOf p).take j := by rw [hj]; exact cutL_m _ _
  refine ⟨allK its, (keysOf p).take j, rfl, ?_, ?_, ?_⟩
  · rw [← ecut]
  · exact big (by rw [List.length_take]; omega)
  have S13 := (S1.trans S2).trans S3
  have hT3 := hT.same (S2.trans S3)
  obtain ⟨as, hx, hal, hat⟩ := id hT3
  refine gname_go (seq_at (seq_to (fun σ H' => Same H3 H' ∧ ∃ y3 y4 y5 y6 y7 y8 y9 : Option V, σ = [some (.ref a), some (.ref D), some (.str (S ((keysOf p).take j))), y3, y4, y5, y6, y7, y8, y9]) (fun nx fin => ?_) ?_))
  · refine ⟨_, rfl, D, rfl, ⟨_, SqL.of hx⟩, ?_⟩
    refine for_list (xs := as.map V.ref) (fun i σ H' => Same H3 H' ∧ ∃ y3 y4 y5 y6 y7 y8 y9 : Option V, σ = [some (.ref a), some (.ref D), some (.str (S (allK (its.drop i) ++ (keysOf p).take j))), y3, y4, y5, y6, y7, y8, y9]) ⟨Same.refl _, _, _, _, _, _, _, _, rfl⟩ (fun i σ H' _ h => h.1.seq (SqL.of hx)) ?_ ?_
    · rintro i v σ H' hv ⟨SS, y3, y4, y5, y6, y7, y8, y9, rfl⟩
      rw [List.getElem?_map] at hv
      cases ea : as[i]? with
      | none => rw [ea] at hv; cases hv
      | some d =>
        rw [ea] at hv
        cases hv
        have hi : i < its.length := by rw [← hal]; exact (List.getElem?_eq_some_iff.mp ea).1
        have ei : its[i]? = some its[i] := List.getElem?_eq_getElem hi
        have hd := (hat i d _ ea ei).same SS
        have hok' := hok _ (List.getElem_mem hi)
        have edrop : its.drop i = its[i] :: its.drop (i + 1) := List.drop_eq_getElem_cons hi
        generalize its[i] = it at ei hd hok' edrop
        have eall : allK (its.drop i) = ik it ++ allK (its.drop (i + 1)) := by rw [edrop]; rfl
        have hsub : (allK (its.drop i)).length ≤ (allK its).length := by
          have : allK its = allK (its.take i) ++ allK (its.drop i) := by
            unfold allK
            rw [← List.flatten_append, ← List.map_append, List.take_append_drop]
          rw [this, List.length_append]
          omega
        rw [eall, List.append_assoc]
        have hl2 : (ik it ++ (allK (its.drop (i + 1)) ++ (keysOf p).take j)).length ≤ 1000 := by
          rw [← List.append_assoc, ← eall, List.length_append, List.length_take]
          omega
        refine ⟨_, rfl, _, rfl, hl2, fun u H4 S4 hF => ⟨_, rfl, u, d, some it, rfl, first_it hok' hF, hd.same S4, _, rfl, iteF ?_⟩⟩
        have hd4 := hd.same S4
        obtain ⟨xs, hxs, hlast⟩ : ∃ xs, H4 d = some (.tup xs) ∧ atI xs (-1) = some (nV (ik it).length) := by
          match it, hd4 with
          | .inl b, h => exact ⟨_, h, rfl⟩
          | .inr p', ⟨t', _, h⟩ => exact ⟨_, h, rfl⟩
        refine ⟨_, rfl, _, rfl, _, rfl, d, _, _, _, rfl, rfl, SqT.of hxs, hlast, ((ik it).length : Int), rfl, _, rfl, big hl2, ?_⟩
        refine ⟨SS.trans S4, y3, y4, y5, y6, y7, y8, some (.ref d), ?_⟩
        have ec : cutL (ik it ++ (allK (its.drop (i + 1)) ++ (keysOf p).take j)) (some (((ik it).length : Nat) : Int)) none = allK (its.drop (i + 1)) ++ (keysOf p).take j := by
          rw [cutL_n]
          exact List.drop_left
        rw [ec]
        rfl
    · rintro σ H' ⟨SS, y3, y4, y5, y6, y7, y8, y9, rfl⟩
      refine fin _ _ ⟨SS, y3, y4, y5, y6, y7, y8, y9, ?_⟩
      rw [List.length_map, hal, List.drop_length]
      rfl
  rintro σ H4 ⟨S4, y3, y4, y5, y6, y7, y8, y9, rfl⟩
  refine ⟨_, rfl, (keysOf p).take j, rfl, by rw [List.length_take]; omega, fun u H5 S5 hF => ⟨(by show 1 ≤ sizeLine; decide), fun v hv => ?_⟩⟩
  have S6 := same_new hv (.tup [V.str "half"])
  exact ⟨u, v, none, rfl, (first_hf hp hjl hF).same S6, (show upd H5 v (.tup [V.str "half"]) v = _ from upd_same), q _⟩
end
end My

set_option Elab.async false
set_option linter.all false
set_option maxRecDepth 100000
set_option maxHeartbeats 4000000
namespace My
open PySem L2

theorem len0 {α : Type} {us : List α} (h : us.length = 0) : us = [] := List.length_eq_zero_iff.mp h
theorem len1 {α : Type} {us : List α} (h : us.length = 1) : ∃ a, us = [a] := List.length_eq_one_iff.mp h
theorem len2 {α : Type} {us : List α} (h : us.length = 2) : ∃ a b, us = [a, b] := by
  cases us with
  | nil => cases h
  | cons a r => obtain ⟨b, rfl⟩ := len1 (Nat.succ.inj h); exact ⟨a, b, rfl⟩
theorem len3 {α : Type} {us : List α} (h : us.length = 3) : ∃ a b c, us = [a, b, c] := by
  cases us with
  | nil => cases h
  | cons a r => obtain ⟨b, c, rfl⟩ := len2 (Nat.succ.inj h); exact ⟨a, b, c, rfl⟩
theorem len4 {α : Type} {us : List α} (h : us.length = 4) : ∃ a b c d, us = [a, b, c, d] := by
  cases us with
  | nil => cases h
  | cons a r => obtain ⟨b, c, d, rfl⟩ := len3 (Nat.succ.inj h); exact ⟨a, b, c, d, rfl⟩
theorem len5 {α : Type} {us : List α} (h : us.length = 5) : ∃ a b c d e, us = [a, b, c, d, e] := by
  cases us with
  | nil => cases h
  | cons a r => obtain ⟨b, c, d, e, rfl⟩ := len4 (Nat.succ.inj h); exact ⟨a, b, c, d, e, rfl⟩

theorem all_mk {l : PySem.W.OpenLaw} {w : World} {K : PySem.W.Frag} {h : Heap} {mg : Str → Option Value} {fa : Addr} (X : K.In h) (G : h.Ns mainGlobals mg) (hfa : mg "law" = some (.ref fa))
    {f_read_shelf : Addr} {od_read_shelf an_read_shelf : Option Addr} {sl_read_shelf : Array (Option Value)} {oc_read_shelf kV_read_shelf dc_read_shelf pm_read_shelf cd_read_shelf ct_read_shelf : Value}
    (a_read_shelf : PySem.W.nsIn K mainGlobals "read_shelf" = some (some (.ref f_read_shelf))) (l_read_shelf : K.lookup f_read_shelf = some ⟨oc_read_shelf, od_read_shelf, .func (PySem.W.fnOf "read_shelf" "read_shelf" (defArgs s_read_shelf) (defBody s_read_shelf) (defScope s_read_shelf) .none kV_read_shelf dc_read_shelf pm_read_shelf an_read_shelf cd_read_shelf ct_read_shelf), sl_read_shelf⟩) (c_read_shelf : PySem.W.codeIn K cd_read_shelf "read_shelf" = true) (k_read_shelf : PySem.W.keepIn K (.ref f_read_shelf) = true)
    {f_read_count : Addr} {od_read_count an_read_count : Option Addr} {sl_read_count : Array (Option Value)} {oc_read_count kV_read_count dc_read_count pm_read_count cd_read_count ct_read_count : Value}
    (a_read_count : PySem.W.nsIn K mainGlobals "read_count" = some (some (.ref f_read_count))) (l_read_count : K.lookup f_read_count = some ⟨oc_read_count, od_read_count, .func (PySem.W.fnOf "read_count" "read_count" (defArgs s_read_count) (defBody s_read_count) (defScope s_read_count) .none kV_read_count dc_read_count pm_read_count an_read_count cd_read_count ct_read_count), sl_read_count⟩) (c_read_count : PySem.W.codeIn K cd_read_count "read_count" = true) (k_read_count : PySem.W.keepIn K (.ref f_read_count) = true)
    {f_read_verb : Addr} {od_read_verb an_read_verb : Option Addr} {sl_read_verb : Array (Option Value)} {oc_read_verb kV_read_verb dc_read_verb pm_read_verb cd_read_verb ct_read_verb : Value}
    (a_read_verb : PySem.W.nsIn K mainGlobals "read_verb" = some (some (.ref f_read_verb))) (l_read_verb : K.lookup f_read_verb = some ⟨oc_read_verb, od_read_verb, .func (PySem.W.fnOf "read_verb" "read_verb" (defArgs s_read_verb) (defBody s_read_verb) (defScope s_read_verb) .none kV_read_verb dc_read_verb pm_read_verb an_read_verb cd_read_verb ct_read_verb), sl_read_verb⟩) (c_read_verb : PySem.W.codeIn K cd_read_verb "read_verb" = true) (k_read_verb : PySem.W.keepIn K (.ref f_read_verb) = true)
    {f_read_aim : Addr} {od_read_aim an_read_aim : Option Addr} {sl_read_aim : Array (Option Value)} {oc_read_aim kV_read_aim dc_read_aim pm_read_aim cd_read_aim ct_read_aim : Value}
    (a_read_aim : PySem.W.nsIn K mainGlobals "read_aim" = some (some (.ref f_read_aim))) (l_read_aim : K.lookup f_read_aim = some ⟨oc_read_aim, od_read_aim, .func (PySem.W.fnOf "read_aim" "read_aim" (defArgs s_read_aim) (defBody s_read_aim) (defScope s_read_aim) .none kV_read_aim dc_read_aim pm_read_aim an_read_aim cd_read_aim ct_read_aim), sl_read_aim⟩) (c_read_aim : PySem.W.codeIn K cd_read_aim "read_aim" = true) (k_read_aim : PySem.W.keepIn K (.ref f_read_aim) = true)
    {f_read_target : Addr} {od_read_target an_read_target : Option Addr} {sl_read_target : Array (Option Value)} {oc_read_target kV_read_target dc_read_target pm_read_target cd_read_target ct_read_target : Value}
    (a_read_target : PySem.W.nsIn K mainGlobals "read_target" = some (some (.ref f_read_target))) (l_read_target : K.lookup f_read_target = some ⟨oc_read_target, od_read_target, .func (PySem.W.fnOf "read_target" "read_target" (defArgs s_read_target) (defBody s_read_target) (defScope s_read_target) .none kV_read_target dc_read_target pm_read_target an_read_target cd_read_target ct_read_target), sl_read_target⟩) (c_read_target : PySem.W.codeIn K cd_read_target "read_target" = true) (k_read_target : PySem.W.keepIn K (.ref f_read_target) = true)
    {f_read_up_to : Addr} {od_read_up_to an_read_up_to : Option Addr} {sl_read_up_to : Array (Option Value)} {oc_read_up_to kV_read_up_to dc_read_up_to pm_read_up_to cd_read_up_to ct_read_up_to : Value}
    (a_read_up_to : PySem.W.nsIn K mainGlobals "read_up_to" = some (some (.ref f_read_up_to))) (l_read_up_to : K.lookup f_read_up_to = some ⟨oc_read_up_to, od_read_up_to, .func (PySem.W.fnOf "read_up_to" "read_up_to" (defArgs s_read_up_to) (defBody s_read_up_to) (defScope s_read_up_to) .none kV_read_up_to dc_read_up_to pm_read_up_to an_read_up_to cd_read_up_to ct_read_up_to), sl_read_up_to⟩) (c_read_up_to : PySem.W.codeIn K cd_read_up_to "read_up_to" = true) (k_read_up_to : PySem.W.keepIn K (.ref f_read_up_to) = true)
    {f_read_typed : Addr} {od_read_typed an_read_typed : Option Addr} {sl_read_typed : Array (Option Value)} {oc_read_typed kV_read_typed dc_read_typed pm_read_typed cd_read_typed ct_read_typed : Value}
    (a_read_typed : PySem.W.nsIn K mainGlobals "read_typed" = some (some (.ref f_read_typed))) (l_read_typed : K.lookup f_read_typed = some ⟨oc_read_typed, od_read_typed, .func (PySem.W.fnOf "read_typed" "read_typed" (defArgs s_read_typed) (defBody s_read_typed) (defScope s_read_typed) .none kV_read_typed dc_read_typed pm_read_typed an_read_typed cd_read_typed ct_read_typed), sl_read_typed⟩) (c_read_typed : PySem.W.codeIn K cd_read_typed "read_typed" = true) (k_read_typed : PySem.W.keepIn K (.ref f_read_typed) = true)
    {f_read_phrase : Addr} {od_read_phrase an_read_phrase : Option Addr} {sl_read_phrase : Array (Option Value)} {oc_read_phrase kV_read_phrase dc_read_phrase pm_read_phrase cd_read_phrase ct_read_phrase : Value}
    (a_read_phrase : PySem.W.nsIn K mainGlobals "read_phrase" = some (some (.ref f_read_phrase))) (l_read_phrase : K.lookup f_read_phrase = some ⟨oc_read_phrase, od_read_phrase, .func (PySem.W.fnOf "read_phrase" "read_phrase" (defArgs s_read_phrase) (defBody s_read_phrase) (defScope s_read_phrase) .none kV_read_phrase dc_read_phrase pm_read_phrase an_read_phrase cd_read_phrase ct_read_phrase), sl_read_phrase⟩) (c_read_phrase : PySem.W.codeIn K cd_read_phrase "read_phrase" = true) (k_read_phrase : PySem.W.keepIn K (.ref f_read_phrase) = true)
    {f_first : Addr} {od_first an_first : Option Addr} {sl_first : Array (Option Value)} {oc_first kV_first dc_first pm_first cd_first ct_first : Value}
    (a_first : PySem.W.nsIn K mainGlobals "first" = some (some (.ref f_first))) (l_first : K.lookup f_first = some ⟨oc_first, od_first, .func (PySem.W.fnOf "first" "first" (defArgs s_first) (defBody s_first) (defScope s_first) .none kV_first dc_first pm_first an_first cd_first ct_first), sl_first⟩) (c_first : PySem.W.codeIn K cd_first "first" = true) (k_first : PySem.W.keepIn K (.ref f_first) = true)
    {f__law_cell_at : Addr} {od__law_cell_at an__law_cell_at : Option Addr} {sl__law_cell_at : Array (Option Value)} {oc__law_cell_at kV__law_cell_at dc__law_cell_at pm__law_cell_at cd__law_cell_at ct__law_cell_at : Value}
    (a__law_cell_at : PySem.W.nsIn K mainGlobals "_law_cell_at" = some (some (.ref f__law_cell_at))) (l__law_cell_at : K.lookup f__law_cell_at = some ⟨oc__law_cell_at, od__law_cell_at, .func (PySem.W.fnOf "_law_cell_at" "_law_cell_at" (defArgs s__law_cell_at) (defBody s__law_cell_at) (defScope s__law_cell_at) .none kV__law_cell_at dc__law_cell_at pm__law_cell_at an__law_cell_at cd__law_cell_at ct__law_cell_at), sl__law_cell_at⟩) (c__law_cell_at : PySem.W.codeIn K cd__law_cell_at "_law_cell_at" = true) (k__law_cell_at : PySem.W.keepIn K (.ref f__law_cell_at) = true)
    {f__law_number : Addr} {od__law_number an__law_number : Option Addr} {sl__law_number : Array (Option Value)} {oc__law_number kV__law_number dc__law_number pm__law_number cd__law_number ct__law_number : Value}
    (a__law_number : PySem.W.nsIn K mainGlobals "_law_number" = some (some (.ref f__law_number))) (l__law_number : K.lookup f__law_number = some ⟨oc__law_number, od__law_number, .func (PySem.W.fnOf "_law_number" "_law_number" (defArgs s__law_number) (defBody s__law_number) (defScope s__law_number) .none kV__law_number dc__law_number pm__law_number an__law_number cd__law_number ct__law_number), sl__law_number⟩) (c__law_number : PySem.W.codeIn K cd__law_number "_law_number" = true) (k__law_number : PySem.W.keepIn K (.ref f__law_number) = true)
    {f__law_whole : Addr} {od__law_whole an__law_whole : Option Addr} {sl__law_whole : Array (Option Value)} {oc__law_whole kV__law_whole dc__law_whole pm__law_whole cd__law_whole ct__law_whole : Value}
    (a__law_whole : PySem.W.nsIn K mainGlobals "_law_whole" = some (some (.ref f__law_whole))) (l__law_whole : K.lookup f__law_whole = some ⟨oc__law_whole, od__law_whole, .func (PySem.W.fnOf "_law_whole" "_law_whole" (defArgs s__law_whole) (defBody s__law_whole) (defScope s__law_whole) .none kV__law_whole dc__law_whole pm__law_whole an__law_whole cd__law_whole ct__law_whole), sl__law_whole⟩) (c__law_whole : PySem.W.codeIn K cd__law_whole "_law_whole" = true) (k__law_whole : PySem.W.keepIn K (.ref f__law_whole) = true)
    {f__law_sign_by : Addr} {od__law_sign_by an__law_sign_by : Option Addr} {sl__law_sign_by : Array (Option Value)} {oc__law_sign_by kV__law_sign_by dc__law_sign_by pm__law_sign_by cd__law_sign_by ct__law_sign_by : Value}
    (a__law_sign_by : PySem.W.nsIn K mainGlobals "_law_sign_by" = some (some (.ref f__law_sign_by))) (l__law_sign_by : K.lookup f__law_sign_by = some ⟨oc__law_sign_by, od__law_sign_by, .func (PySem.W.fnOf "_law_sign_by" "_law_sign_by" (defArgs s__law_sign_by) (defBody s__law_sign_by) (defScope s__law_sign_by) .none kV__law_sign_by dc__law_sign_by pm__law_sign_by an__law_sign_by cd__law_sign_by ct__law_sign_by), sl__law_sign_by⟩) (c__law_sign_by : PySem.W.codeIn K cd__law_sign_by "_law_sign_by" = true) (k__law_sign_by : PySem.W.keepIn K (.ref f__law_sign_by) = true)
    {f__law_letter_by : Addr} {od__law_letter_by an__law_letter_by : Option Addr} {sl__law_letter_by : Array (Option Value)} {oc__law_letter_by kV__law_letter_by dc__law_letter_by pm__law_letter_by cd__law_letter_by ct__law_letter_by : Value}
    (a__law_letter_by : PySem.W.nsIn K mainGlobals "_law_letter_by" = some (some (.ref f__law_letter_by))) (l__law_letter_by : K.lookup f__law_letter_by = some ⟨oc__law_letter_by, od__law_letter_by, .func (PySem.W.fnOf "_law_letter_by" "_law_letter_by" (defArgs s__law_letter_by) (defBody s__law_letter_by) (defScope s__law_letter_by) .none kV__law_letter_by dc__law_letter_by pm__law_letter_by an__law_letter_by cd__law_letter_by ct__law_letter_by), sl__law_letter_by⟩) (c__law_letter_by : PySem.W.codeIn K cd__law_letter_by "_law_letter_by" = true) (k__law_letter_by : PySem.W.keepIn K (.ref f__law_letter_by) = true)
    {f__law_count_by : Addr} {od__law_count_by an__law_count_by : Option Addr} {sl__law_count_by : Array (Option Value)} {oc__law_count_by kV__law_count_by dc__law_count_by pm__law_count_by cd__law_count_by ct__law_count_by : Value}
    (a__law_count_by : PySem.W.nsIn K mainGlobals "_law_count_by" = some (some (.ref f__law_count_by))) (l__law_count_by : K.lookup f__law_count_by = some ⟨oc__law_count_by, od__law_count_by, .func (PySem.W.fnOf "_law_count_by" "_law_count_by" (defArgs s__law_count_by) (defBody s__law_count_by) (defScope s__law_count_by) .none kV__law_count_by dc__law_count_by pm__law_count_by an__law_count_by cd__law_count_by ct__law_count_by), sl__law_count_by⟩) (c__law_count_by : PySem.W.codeIn K cd__law_count_by "_law_count_by" = true) (k__law_count_by : PySem.W.keepIn K (.ref f__law_count_by) = true)
    {f__law_move_by : Addr} {od__law_move_by an__law_move_by : Option Addr} {sl__law_move_by : Array (Option Value)} {oc__law_move_by kV__law_move_by dc__law_move_by pm__law_move_by cd__law_move_by ct__law_move_by : Value}
    (a__law_move_by : PySem.W.nsIn K mainGlobals "_law_move_by" = some (some (.ref f__law_move_by))) (l__law_move_by : K.lookup f__law_move_by = some ⟨oc__law_move_by, od__law_move_by, .func (PySem.W.fnOf "_law_move_by" "_law_move_by" (defArgs s__law_move_by) (defBody s__law_move_by) (defScope s__law_move_by) .none kV__law_move_by dc__law_move_by pm__law_move_by an__law_move_by cd__law_move_by ct__law_move_by), sl__law_move_by⟩) (c__law_move_by : PySem.W.codeIn K cd__law_move_by "_law_move_by" = true) (k__law_move_by : PySem.W.keepIn K (.ref f__law_move_by) = true)
    {f__law_target_by : Addr} {od__law_target_by an__law_target_by : Option Addr} {sl__law_target_by : Array (Option Value)} {oc__law_target_by kV__law_target_by dc__law_target_by pm__law_target_by cd__law_target_by ct__law_target_by : Value}
    (a__law_target_by : PySem.W.nsIn K mainGlobals "_law_target_by" = some (some (.ref f__law_target_by))) (l__law_target_by : K.lookup f__law_target_by = some ⟨oc__law_target_by, od__law_target_by, .func (PySem.W.fnOf "_law_target_by" "_law_target_by" (defArgs s__law_target_by) (defBody s__law_target_by) (defScope s__law_target_by) .none kV__law_target_by dc__law_target_by pm__law_target_by an__law_target_by cd__law_target_by ct__law_target_by), sl__law_target_by⟩) (c__law_target_by : PySem.W.codeIn K cd__law_target_by "_law_target_by" = true) (k__law_target_by : PySem.W.keepIn K (.ref f__law_target_by) = true)
    {f__law_run_by : Addr} {od__law_run_by an__law_run_by : Option Addr} {sl__law_run_by : Array (Option Value)} {oc__law_run_by kV__law_run_by dc__law_run_by pm__law_run_by cd__law_run_by ct__law_run_by : Value}
    (a__law_run_by : PySem.W.nsIn K mainGlobals "_law_run_by" = some (some (.ref f__law_run_by))) (l__law_run_by : K.lookup f__law_run_by = some ⟨oc__law_run_by, od__law_run_by, .func (PySem.W.fnOf "_law_run_by" "_law_run_by" (defArgs s__law_run_by) (defBody s__law_run_by) (defScope s__law_run_by) .none kV__law_run_by dc__law_run_by pm__law_run_by an__law_run_by cd__law_run_by ct__law_run_by), sl__law_run_by⟩) (c__law_run_by : PySem.W.codeIn K cd__law_run_by "_law_run_by" = true) (k__law_run_by : PySem.W.keepIn K (.ref f__law_run_by) = true)
    {f__law_typed_by : Addr} {od__law_typed_by an__law_typed_by : Option Addr} {sl__law_typed_by : Array (Option Value)} {oc__law_typed_by kV__law_typed_by dc__law_typed_by pm__law_typed_by cd__law_typed_by ct__law_typed_by : Value}
    (a__law_typed_by : PySem.W.nsIn K mainGlobals "_law_typed_by" = some (some (.ref f__law_typed_by))) (l__law_typed_by : K.lookup f__law_typed_by = some ⟨oc__law_typed_by, od__law_typed_by, .func (PySem.W.fnOf "_law_typed_by" "_law_typed_by" (defArgs s__law_typed_by) (defBody s__law_typed_by) (defScope s__law_typed_by) .none kV__law_typed_by dc__law_typed_by pm__law_typed_by an__law_typed_by cd__law_typed_by ct__law_typed_by), sl__law_typed_by⟩) (c__law_typed_by : PySem.W.codeIn K cd__law_typed_by "_law_typed_by" = true) (k__law_typed_by : PySem.W.keepIn K (.ref f__law_typed_by) = true)
    {f__law_phrase : Addr} {od__law_phrase an__law_phrase : Option Addr} {sl__law_phrase : Array (Option Value)} {oc__law_phrase kV__law_phrase dc__law_phrase pm__law_phrase cd__law_phrase ct__law_phrase : Value}
    (a__law_phrase : PySem.W.nsIn K mainGlobals "_law_phrase" = some (some (.ref f__law_phrase))) (l__law_phrase : K.lookup f__law_phrase = some ⟨oc__law_phrase, od__law_phrase, .func (PySem.W.fnOf "_law_phrase" "_law_phrase" (defArgs s__law_phrase) (defBody s__law_phrase) (defScope s__law_phrase) .none kV__law_phrase dc__law_phrase pm__law_phrase an__law_phrase cd__law_phrase ct__law_phrase), sl__law_phrase⟩) (c__law_phrase : PySem.W.codeIn K cd__law_phrase "_law_phrase" = true) (k__law_phrase : PySem.W.keepIn K (.ref f__law_phrase) = true)
    {f__law_keys : Addr} {od__law_keys an__law_keys : Option Addr} {sl__law_keys : Array (Option Value)} {oc__law_keys kV__law_keys dc__law_keys pm__law_keys cd__law_keys ct__law_keys : Value}
    (a__law_keys : PySem.W.nsIn K mainGlobals "_law_keys" = some (some (.ref f__law_keys))) (l__law_keys : K.lookup f__law_keys = some ⟨oc__law_keys, od__law_keys, .func (PySem.W.fnOf "_law_keys" "_law_keys" (defArgs s__law_keys) (defBody s__law_keys) (defScope s__law_keys) .none kV__law_keys dc__law_keys pm__law_keys an__law_keys cd__law_keys ct__law_keys), sl__law_keys⟩) (c__law_keys : PySem.W.codeIn K cd__law_keys "_law_keys" = true) (k__law_keys : PySem.W.keepIn K (.ref f__law_keys) = true)
    {f__law_bad_by : Addr} {od__law_bad_by an__law_bad_by : Option Addr} {sl__law_bad_by : Array (Option Value)} {oc__law_bad_by kV__law_bad_by dc__law_bad_by pm__law_bad_by cd__law_bad_by ct__law_bad_by : Value}
    (a__law_bad_by : PySem.W.nsIn K mainGlobals "_law_bad_by" = some (some (.ref f__law_bad_by))) (l__law_bad_by : K.lookup f__law_bad_by = some ⟨oc__law_bad_by, od__law_bad_by, .func (PySem.W.fnOf "_law_bad_by" "_law_bad_by" (defArgs s__law_bad_by) (defBody s__law_bad_by) (defScope s__law_bad_by) .none kV__law_bad_by dc__law_bad_by pm__law_bad_by an__law_bad_by cd__law_bad_by ct__law_bad_by), sl__law_bad_by⟩) (c__law_bad_by : PySem.W.codeIn K cd__law_bad_by "_law_bad_by" = true) (k__law_bad_by : PySem.W.keepIn K (.ref f__law_bad_by) = true)
    {f__law_told : Addr} {od__law_told an__law_told : Option Addr} {sl__law_told : Array (Option Value)} {oc__law_told kV__law_told dc__law_told pm__law_told cd__law_told ct__law_told : Value}
    (a__law_told : PySem.W.nsIn K mainGlobals "_law_told" = some (some (.ref f__law_told))) (l__law_told : K.lookup f__law_told = some ⟨oc__law_told, od__law_told, .func (PySem.W.fnOf "_law_told" "_law_told" (defArgs s__law_told) (defBody s__law_told) (defScope s__law_told) .none kV__law_told dc__law_told pm__law_told an__law_told cd__law_told ct__law_told), sl__law_told⟩) (c__law_told : PySem.W.codeIn K cd__law_told "_law_told" = true) (k__law_told : PySem.W.keepIn K (.ref f__law_told) = true)
    {f_law : Addr} {od_law an_law : Option Addr} {sl_law : Array (Option Value)} {oc_law kV_law dc_law pm_law cd_law ct_law : Value}
    (a_law : PySem.W.nsIn K mainGlobals "law" = some (some (.ref f_law))) (l_law : K.lookup f_law = some ⟨oc_law, od_law, .func (PySem.W.fnOf "law" "law" (defArgs s_law) (defBody s_law) (defScope s_law) .none kV_law dc_law pm_law an_law cd_law ct_law), sl_law⟩) (c_law : PySem.W.codeIn K cd_law "law" = true) (k_law : PySem.W.keepIn K (.ref f_law) = true)
    {tk_SIGNS : Tok} (g_SIGNS : PySem.W.nsIn K mainGlobals "SIGNS" = some (some (.str (S lit_SIGNS) tk_SIGNS)))
    {tk_LETTERS : Tok} (g_LETTERS : PySem.W.nsIn K mainGlobals "LETTERS" = some (some (.str (S lit_LETTERS) tk_LETTERS)))
    {tk_MOVES : Tok} (g_MOVES : PySem.W.nsIn K mainGlobals "MOVES" = some (some (.str (S lit_MOVES) tk_MOVES)))
    {tk_THINGS : Tok} (g_THINGS : PySem.W.nsIn K mainGlobals "THINGS" = some (some (.str (S lit_THINGS) tk_THINGS)))
    {tk_WITH_SHELF : Tok} (g_WITH_SHELF : PySem.W.nsIn K mainGlobals "WITH_SHELF" = some (some (.str (S lit_WITH_SHELF) tk_WITH_SHELF)))
    {tk_WITH_COUNT : Tok} (g_WITH_COUNT : PySem.W.nsIn K mainGlobals "WITH_COUNT" = some (some (.str (S lit_WITH_COUNT) tk_WITH_COUNT)))
    {tk_WITHOUT_COUNT : Tok} (g_WITHOUT_COUNT : PySem.W.nsIn K mainGlobals "WITHOUT_COUNT" = some (some (.str (S lit_WITHOUT_COUNT) tk_WITHOUT_COUNT)))
    {tk_WITH_TARGET : Tok} (g_WITH_TARGET : PySem.W.nsIn K mainGlobals "WITH_TARGET" = some (some (.str (S lit_WITH_TARGET) tk_WITH_TARGET)))
    {A_ENDS : Addr} {ep_ENDS : Nat} {t_ENDS_0 u_ENDS_0 : Tok} {t_ENDS_1 u_ENDS_1 : Tok} {t_ENDS_2 u_ENDS_2 : Tok} (g_ENDS : PySem.W.nsIn K mainGlobals "ENDS" = some (some (.ref A_ENDS)))
    (d_ENDS : K.lookup A_ENDS = some { cls := .type "dict", dict := none, data := .dict #[{ hash := PyData.keyHash w.params (S [88]), key := .str (S [88]) t_ENDS_0, val := .str (S [126]) u_ENDS_0 }, { hash := PyData.keyHash w.params (S [84]), key := .str (S [84]) t_ENDS_1, val := .str (S [126]) u_ENDS_1 }, { hash := PyData.keyHash w.params (S [58]), key := .str (S [58]) t_ENDS_2, val := .str (S [10]) u_ENDS_2 }] ep_ENDS, slots := #[] }) (y_ENDS : (A_ENDS == sysModules) = false)
    {C_Reader : Addr} (aC_Reader : PySem.W.nsIn K mainGlobals "Reader" = some (some (.ref C_Reader)))
    (pg_Reader : PySem.W.plainGet K C_Reader Str.empty = true) (hd_Reader : PySem.W.hasDictIn K C_Reader = true) (po_Reader : PySem.W.plainOver K C_Reader = true) (sa_Reader : PySem.W.findIn K (.ref C_Reader) "__setattr__" = some (some (.builtin "object.__setattr__"))) (mk_Reader : PySem.W.makesIn K C_Reader = true) (kc_Reader : PySem.W.keepIn K (.ref C_Reader) = true)
    (n_Reader_row : PySem.W.findIn K (.ref C_Reader) "row" = some none) (n_Reader_at : PySem.W.findIn K (.ref C_Reader) "at" = some none) (n_Reader_stuck : PySem.W.findIn K (.ref C_Reader) "stuck" = some none)
    {f_Reader__init : Addr} {od_Reader__init an_Reader__init : Option Addr} {sl_Reader__init : Array (Option Value)} {oc_Reader__init kV_Reader__init dc_Reader__init pm_Reader__init cd_Reader__init ct_Reader__init : Value} (a_Reader__init : PySem.W.findIn K (.ref C_Reader) "__init__" = some (some (.ref f_Reader__init))) (i_Reader__init : PySem.W.isFn K (.ref f_Reader__init) = true) (l_Reader__init : K.lookup f_Reader__init = some ⟨oc_Reader__init, od_Reader__init, .func (PySem.W.fnOf "__init__" "Reader.__init__" (defArgs s_Reader__init) (defBody s_Reader__init) (defScope s_Reader__init) .none kV_Reader__init dc_Reader__init pm_Reader__init an_Reader__init cd_Reader__init ct_Reader__init), sl_Reader__init⟩) (c_Reader__init : PySem.W.codeIn K cd_Reader__init "Reader.__init__" = true) (k_Reader__init : PySem.W.keepIn K (.ref f_Reader__init) = true)
    {f_Reader__meets : Addr} {od_Reader__meets an_Reader__meets : Option Addr} {sl_Reader__meets : Array (Option Value)} {oc_Reader__meets kV_Reader__meets dc_Reader__meets pm_Reader__meets cd_Reader__meets ct_Reader__meets : Value} (a_Reader__meets : PySem.W.findIn K (.ref C_Reader) "meets" = some (some (.ref f_Reader__meets))) (i_Reader__meets : PySem.W.isFn K (.ref f_Reader__meets) = true) (l_Reader__meets : K.lookup f_Reader__meets = some ⟨oc_Reader__meets, od_Reader__meets, .func (PySem.W.fnOf "meets" "Reader.meets" (defArgs s_Reader__meets) (defBody s_Reader__meets) (defScope s_Reader__meets) .none kV_Reader__meets dc_Reader__meets pm_Reader__meets an_Reader__meets cd_Reader__meets ct_Reader__meets), sl_Reader__meets⟩) (c_Reader__meets : PySem.W.codeIn K cd_Reader__meets "Reader.meets" = true) (k_Reader__meets : PySem.W.keepIn K (.ref f_Reader__meets) = true)
    {f_Reader__take : Addr} {od_Reader__take an_Reader__take : Option Addr} {sl_Reader__take : Array (Option Value)} {oc_Reader__take kV_Reader__take dc_Reader__take pm_Reader__take cd_Reader__take ct_Reader__take : Value} (a_Reader__take : PySem.W.findIn K (.ref C_Reader) "take" = some (some (.ref f_Reader__take))) (i_Reader__take : PySem.W.isFn K (.ref f_Reader__take) = true) (l_Reader__take : K.lookup f_Reader__take = some ⟨oc_Reader__take, od_Reader__take, .func (PySem.W.fnOf "take" "Reader.take" (defArgs s_Reader__take) (defBody s_Reader__take) (defScope s_Reader__take) .none kV_Reader__take dc_Reader__take pm_Reader__take an_Reader__take cd_Reader__take ct_Reader__take), sl_Reader__take⟩) (c_Reader__take : PySem.W.codeIn K cd_Reader__take "Reader.take" = true) (k_Reader__take : PySem.W.keepIn K (.ref f_Reader__take) = true)
    {f_Reader__take_all : Addr} {od_Reader__take_all an_Reader__take_all : Option Addr} {sl_Reader__take_all : Array (Option Value)} {oc_Reader__take_all kV_Reader__take_all dc_Reader__take_all pm_Reader__take_all cd_Reader__take_all ct_Reader__take_all : Value} (a_Reader__take_all : PySem.W.findIn K (.ref C_Reader) "take_all" = some (some (.ref f_Reader__take_all))) (i_Reader__take_all : PySem.W.isFn K (.ref f_Reader__take_all) = true) (l_Reader__take_all : K.lookup f_Reader__take_all = some ⟨oc_Reader__take_all, od_Reader__take_all, .func (PySem.W.fnOf "take_all" "Reader.take_all" (defArgs s_Reader__take_all) (defBody s_Reader__take_all) (defScope s_Reader__take_all) .none kV_Reader__take_all dc_Reader__take_all pm_Reader__take_all an_Reader__take_all cd_Reader__take_all ct_Reader__take_all), sl_Reader__take_all⟩) (c_Reader__take_all : PySem.W.codeIn K cd_Reader__take_all "Reader.take_all" = true) (k_Reader__take_all : PySem.W.keepIn K (.ref f_Reader__take_all) = true)
    (z_len : PySem.W.nsIn K mainGlobals "len" = some none) (z_range : PySem.W.nsIn K mainGlobals "range" = some none) (z_min : PySem.W.nsIn K mainGlobals "min" = some none) (z_isinstance : PySem.W.nsIn K mainGlobals "isinstance" = some none) (z_int : PySem.W.nsIn K mainGlobals "int" = some none) (z_bool : PySem.W.nsIn K mainGlobals "bool" = some none) (z_str : PySem.W.nsIn K mainGlobals "str" = some none) (z_tuple : PySem.W.nsIn K mainGlobals "tuple" = some none) :
    ∃ fd : FuncData, (∀ (s : Shared) (v : Value), BindsTo s fd ⟨[v], []⟩ [("_law_script", v)]) ∧ ∀ base : Heap, K.In base → base.Ns mainGlobals mg → FnOk l.prog w K mg base CX0 21 fa fd ["_law_script"] (sp_law K) := by
  have e := hfa.symm.trans (PySem.W.mg_of X G a_law)
  cases e
  have F_read_shelf := fun_mk (st := s_read_shelf) l_read_shelf c_read_shelf k_read_shelf
  have b_read_shelf := F_read_shelf.binds (ps := ["reader"]) fun _ _ _ _ _ _ us hl => (by obtain ⟨_, rfl⟩ := len1 hl; rfl)
  have F_read_count := fun_mk (st := s_read_count) l_read_count c_read_count k_read_count
  have b_read_count := F_read_count.binds (ps := ["reader"]) fun _ _ _ _ _ _ us hl => (by obtain ⟨_, rfl⟩ := len1 hl; rfl)
  have F_read_verb := fun_mk (st := s_read_verb) l_read_verb c_read_verb k_read_verb
  have b_read_verb := F_read_verb.binds (ps := ["reader", "shelf", "count"]) fun _ _ _ _ _ _ us hl => (by obtain ⟨_, _, _, rfl⟩ := len3 hl; rfl)
  have F_read_aim := fun_mk (st := s_read_aim) l_read_aim c_read_aim k_read_aim
  have b_read_aim := F_read_aim.binds (ps := ["reader", "wanted"]) fun _ _ _ _ _ _ us hl => (by obtain ⟨_, _, rfl⟩ := len2 hl; rfl)
  have F_read_target := fun_mk (st := s_read_target) l_read_target c_read_target k_read_target
  have b_read_target := F_read_target.binds (ps := ["reader", "verb"]) fun _ _ _ _ _ _ us hl => (by obtain ⟨_, _, rfl⟩ := len2 hl; rfl)
  have F_read_up_to := fun_mk (st := s_read_up_to) l_read_up_to c_read_up_to k_read_up_to
  have b_read_up_to := F_read_up_to.binds (ps := ["reader", "end", "wanted"]) fun _ _ _ _ _ _ us hl => (by obtain ⟨_, _, _, rfl⟩ := len3 hl; rfl)
  have F_read_typed := fun_mk (st := s_read_typed) l_read_typed c_read_typed k_read_typed
  have b_read_typed := F_read_typed.binds (ps := ["reader", "verb"]) fun _ _ _ _ _ _ us hl => (by obtain ⟨_, _, rfl⟩ := len2 hl; rfl)
  have F_read_phrase := fun_mk (st := s_read_phrase) l_read_phrase c_read_phrase k_read_phrase
  have b_read_phrase := F_read_phrase.binds (ps := ["reader"]) fun _ _ _ _ _ _ us hl => (by obtain ⟨_, rfl⟩ := len1 hl; rfl)
  have F_first := fun_mk (st := s_first) l_first c_first k_first
  have b_first := F_first.binds (ps := ["keys"]) fun _ _ _ _ _ _ us hl => (by obtain ⟨_, rfl⟩ := len1 hl; rfl)
  have F__law_cell_at := fun_mk (st := s__law_cell_at) l__law_cell_at c__law_cell_at k__law_cell_at
  have b__law_cell_at := F__law_cell_at.binds (ps := ["_law_script", "_law_k"]) fun _ _ _ _ _ _ us hl => (by obtain ⟨_, _, rfl⟩ := len2 hl; rfl)
  have F__law_number := fun_mk (st := s__law_number) l__law_number c__law_number k__law_number
  have b__law_number := F__law_number.binds (ps := ["_law_cell", "_law_k"]) fun _ _ _ _ _ _ us hl => (by obtain ⟨_, _, rfl⟩ := len2 hl; rfl)
  have F__law_whole := fun_mk (st := s__law_whole) l__law_whole c__law_whole k__law_whole
  have b__law_whole := F__law_whole.binds (ps := ["_law_found"]) fun _ _ _ _ _ _ us hl => (by obtain ⟨_, rfl⟩ := len1 hl; rfl)
  have F__law_sign_by := fun_mk (st := s__law_sign_by) l__law_sign_by c__law_sign_by k__law_sign_by
  have b__law_sign_by := F__law_sign_by.binds (ps := ["_law_cell"]) fun _ _ _ _ _ _ us hl => (by obtain ⟨_, rfl⟩ := len1 hl; rfl)
  have F__law_letter_by := fun_mk (st := s__law_letter_by) l__law_letter_by c__law_letter_by k__law_letter_by
  have b__law_letter_by := F__law_letter_by.binds (ps := ["_law_cell"]) fun _ _ _ _ _ _ us hl => (by obtain ⟨_, rfl⟩ := len1 hl; rfl)
  have F__law_count_by := fun_mk (st := s__law_count_by) l__law_count_by c__law_count_by k__law_count_by
  have b__law_count_by := F__law_count_by.binds (ps := ["_law_cell"]) fun _ _ _ _ _ _ us hl => (by obtain ⟨_, rfl⟩ := len1 hl; rfl)
  have F__law_move_by := fun_mk (st := s__law_move_by) l__law_move_by c__law_move_by k__law_move_by
  have b__law_move_by := F__law_move_by.binds (ps := ["_law_cell"]) fun _ _ _ _ _ _ us hl => (by obtain ⟨_, rfl⟩ := len1 hl; rfl)
  have F__law_target_by := fun_mk (st := s__law_target_by) l__law_target_by c__law_target_by k__law_target_by
  have b__law_target_by := F__law_target_by.binds (ps := ["_law_cell"]) fun _ _ _ _ _ _ us hl => (by obtain ⟨_, rfl⟩ := len1 hl; rfl)
  have F__law_run_by := fun_mk (st := s__law_run_by) l__law_run_by c__law_run_by k__law_run_by
  have b__law_run_by := F__law_run_by.binds (ps := ["_law_cell", "_law_beside"]) fun _ _ _ _ _ _ us hl => (by obtain ⟨_, _, rfl⟩ := len2 hl; rfl)
  have F__law_typed_by := fun_mk (st := s__law_typed_by) l__law_typed_by c__law_typed_by k__law_typed_by
  have b__law_typed_by := F__law_typed_by.binds (ps := ["_law_verb", "_law_cell"]) fun _ _ _ _ _ _ us hl => (by obtain ⟨_, _, rfl⟩ := len2 hl; rfl)
  have F__law_phrase := fun_mk (st := s__law_phrase) l__law_phrase c__law_phrase k__law_phrase
  have b__law_phrase := F__law_phrase.binds (ps := ["_law_cell"]) fun _ _ _ _ _ _ us hl => (by obtain ⟨_, rfl⟩ := len1 hl; rfl)
  have F__law_keys := fun_mk (st := s__law_keys) l__law_keys c__law_keys k__law_keys
  have b__law_keys := F__law_keys.binds (ps := ["_law_phrase_here"]) fun _ _ _ _ _ _ us hl => (by obtain ⟨_, rfl⟩ := len1 hl; rfl)
  have F__law_bad_by := fun_mk (st := s__law_bad_by) l__law_bad_by c__law_bad_by k__law_bad_by
  have b__law_bad_by := F__law_bad_by.binds (ps := ["_law_cell"]) fun _ _ _ _ _ _ us hl => (by obtain ⟨_, rfl⟩ := len1 hl; rfl)
  have F__law_told := fun_mk (st := s__law_told) l__law_told c__law_told k__law_told
  have b__law_told := F__law_told.binds (ps := ["_law_found", "_law_due"]) fun _ _ _ _ _ _ us hl => (by obtain ⟨_, _, rfl⟩ := len2 hl; rfl)
  have F_law := fun_mk (st := s_law) l_law c_law k_law
  have b_law := F_law.binds (ps := ["_law_script"]) fun _ _ _ _ _ _ us hl => (by obtain ⟨_, rfl⟩ := len1 hl; rfl)
  have F_Reader__init := fun_mk (st := s_Reader__init) l_Reader__init c_Reader__init k_Reader__init
  have b_Reader__init := F_Reader__init.binds (ps := ["self", "row"]) fun _ _ _ _ _ _ us hl => (by obtain ⟨_, _, rfl⟩ := len2 hl; rfl)
  have F_Reader__meets := fun_mk (st := s_Reader__meets) l_Reader__meets c_Reader__meets k_Reader__meets
  have b_Reader__meets := F_Reader__meets.binds (ps := ["self", "wanted"]) fun _ _ _ _ _ _ us hl => (by obtain ⟨_, _, rfl⟩ := len2 hl; rfl)
  have F_Reader__take := fun_mk (st := s_Reader__take) l_Reader__take c_Reader__take k_Reader__take
  have b_Reader__take := F_Reader__take.binds (ps := ["self", "wanted"]) fun _ _ _ _ _ _ us hl => (by obtain ⟨_, _, rfl⟩ := len2 hl; rfl)
  have F_Reader__take_all := fun_mk (st := s_Reader__take_all) l_Reader__take_all c_Reader__take_all k_Reader__take_all
  have b_Reader__take_all := F_Reader__take_all.binds (ps := ["self", "wanted"]) fun _ _ _ _ _ _ us hl => (by obtain ⟨_, _, rfl⟩ := len2 hl; rfl)
  have cl_Reader : Cls K C_Reader := ⟨pg_Reader, hd_Reader, po_Reader, sa_Reader⟩
  have m := fun (x : Str) (z : PySem.W.nsIn K mainGlobals x = some none) => PySem.W.mg_none_of X G z
  have ml := m _ z_len
  have mr := m _ z_range
  refine ⟨PySem.W.fnOf "law" "law" (defArgs s_law) (defBody s_law) (defScope s_law) .none kV_law dc_law pm_law an_law cd_law ct_law, fun s v => .of_eq rfl, fun base _ _ => ?_⟩
  have TR : RdrT K C_Reader := ⟨cl_Reader, n_Reader_row, n_Reader_at, n_Reader_stuck⟩
  have Orm : OwnM l.prog w K mg base CX0 1 C_Reader "meets" ["self", "wanted"] (sp_meets C_Reader) := ⟨_, _, cl_Reader, ⟨a_Reader__meets, i_Reader__meets, k_Reader__meets⟩, ok_meets F_Reader__meets TR ml, b_Reader__meets⟩
  have Ort : OwnM l.prog w K mg base CX0 2 C_Reader "take" ["self", "wanted"] (sp_take C_Reader) := ⟨_, _, cl_Reader, ⟨a_Reader__take, i_Reader__take, k_Reader__take⟩, ok_take F_Reader__take TR Orm, b_Reader__take⟩
  have Ora : OwnM l.prog w K mg base CX0 2 C_Reader "take_all" ["self", "wanted"] (sp_takeall C_Reader) := ⟨_, _, cl_Reader, ⟨a_Reader__take_all, i_Reader__take_all, k_Reader__take_all⟩, ok_takeall F_Reader__take_all TR Orm, b_Reader__take_all⟩
  have Ork : OwnMk l.prog w K mg base CX0 1 C_Reader "Reader" ["self", "row"] (sp_rinit C_Reader) := ⟨_, _, ⟨mk_Reader, a_Reader__init, i_Reader__init, kc_Reader⟩, ok_rinit F_Reader__init TR, b_Reader__init, PySem.W.mg_of X G aC_Reader⟩
  have DE : KDictS K w A_ENDS [([88], t_ENDS_0, [126], u_ENDS_0), ([84], t_ENDS_1, [126], u_ENDS_1), ([58], t_ENDS_2, [10], u_ENDS_2)] := ⟨⟨_, d_ENDS⟩, y_ENDS⟩
  have Ors : Own l.prog w K mg base CX0 3 "read_shelf" ["reader"] (sp_rd C_Reader rdSh) := ⟨_, _, ok_rdsh Orm Ort F_read_shelf (PySem.W.mg_of X G g_LETTERS), b_read_shelf, k_read_shelf, PySem.W.mg_of X G a_read_shelf⟩
  have Orc : Own l.prog w K mg base CX0 3 "read_count" ["reader"] (sp_rdct C_Reader) := ⟨_, _, ok_rdct Orm Ort F_read_count ml (m _ z_int), b_read_count, k_read_count, PySem.W.mg_of X G a_read_count⟩
  have Orv : Own l.prog w K mg base CX0 3 "read_verb" ["reader", "shelf", "count"] (sp_rdvb C_Reader) := ⟨_, _, ok_rdvb Orm Ort F_read_verb (PySem.W.mg_of X G g_MOVES) (PySem.W.mg_of X G g_WITH_SHELF) (PySem.W.mg_of X G g_WITH_COUNT) (PySem.W.mg_of X G g_WITHOUT_COUNT), b_read_verb, k_read_verb, PySem.W.mg_of X G a_read_verb⟩
  have Ori : Own l.prog w K mg base CX0 3 "read_aim" ["reader", "wanted"] (sp_rdaim C_Reader) := ⟨_, _, ok_rdaim Ort F_read_aim (PySem.W.mg_of X G g_SIGNS) (PySem.W.mg_of X G g_LETTERS), b_read_aim, k_read_aim, PySem.W.mg_of X G a_read_aim⟩
  have Org : Own l.prog w K mg base CX0 4 "read_target" ["reader", "verb"] (sp_rdv C_Reader rdTg) := ⟨_, _, ok_rdtg F_read_target Ori (PySem.W.mg_of X G g_MOVES) (PySem.W.mg_of X G g_THINGS) (PySem.W.mg_of X G g_WITH_TARGET), b_read_target, k_read_target, PySem.W.mg_of X G a_read_target⟩
  have Oru : Own l.prog w K mg base CX0 3 "read_up_to" ["reader", "end", "wanted"] (sp_rdup C_Reader) := ⟨_, _, ok_rdup Ort Ora F_read_up_to, b_read_up_to, k_read_up_to, PySem.W.mg_of X G a_read_up_to⟩
  have Ory : Own l.prog w K mg base CX0 4 "read_typed" ["reader", "verb"] (sp_rdv C_Reader rdTy) := ⟨_, _, ok_rdty Ort F_read_typed Oru (PySem.W.mg_of X G g_SIGNS) (PySem.W.mg_of X G g_LETTERS) (PySem.W.mg_of X G g_ENDS) DE, b_read_typed, k_read_typed, PySem.W.mg_of X G a_read_typed⟩
  have Orp : Own l.prog w K mg base CX0 5 "read_phrase" ["reader"] (sp_rdph C_Reader) := ⟨_, _, ok_rdph F_read_phrase Ors Orc Orv Org Ory, b_read_phrase, k_read_phrase, PySem.W.mg_of X G a_read_phrase⟩
  have Ffi := ok_first (P := l.prog) (w := w) (mg := mg) (base := base) F_first TR Ork Orp ml

  have Ofi : Own l.prog w K mg base CX0 6 "first" ["keys"] sp_first := ⟨_, _, Ffi, b_first, k_first, PySem.W.mg_of X G a_first⟩
  have Oce : Own l.prog w K mg base CX0 1 "_law_cell_at" ["_law_script", "_law_k"] (sp_cell46 K) := ⟨_, _, ok_cell46 F__law_cell_at ml, b__law_cell_at, k__law_cell_at, PySem.W.mg_of X G a__law_cell_at⟩
  have Onu : Own l.prog w K mg base CX0 1 "_law_number" ["_law_cell", "_law_k"] sp_num46 := ⟨_, _, ok_num46 F__law_number mr (m _ z_int), b__law_number, k__law_number, PySem.W.mg_of X G a__law_number⟩
  have Osg : Own l.prog w K mg base CX0 1 "_law_sign_by" ["_law_cell"] sp_sgby := ⟨_, _, ok_sgby F__law_sign_by , b__law_sign_by, k__law_sign_by, PySem.W.mg_of X G a__law_sign_by⟩
  have Osm : Own l.prog w K mg base CX0 1 "_law_letter_by" ["_law_cell"] sp_smby := ⟨_, _, ok_smby F__law_letter_by , b__law_letter_by, k__law_letter_by, PySem.W.mg_of X G a__law_letter_by⟩
  have Oct : Own l.prog w K mg base CX0 1 "_law_count_by" ["_law_cell"] sp_ctby := ⟨_, _, ok_ctby F__law_count_by , b__law_count_by, k__law_count_by, PySem.W.mg_of X G a__law_count_by⟩
  have Omv : Own l.prog w K mg base CX0 2 "_law_move_by" ["_law_cell"] sp_mvby := ⟨_, _, ok_mvby F__law_move_by Osm Osg, b__law_move_by, k__law_move_by, PySem.W.mg_of X G a__law_move_by⟩
  have Otg : Own l.prog w K mg base CX0 3 "_law_target_by" ["_law_cell"] sp_tgby := ⟨_, _, ok_tgby F__law_target_by Omv, b__law_target_by, k__law_target_by, PySem.W.mg_of X G a__law_target_by⟩
  have Orn : Own l.prog w K mg base CX0 2 "_law_run_by" ["_law_cell", "_law_beside"] sp_rnby46 := ⟨_, _, ok_rnby46 F__law_run_by Onu Osg mr, b__law_run_by, k__law_run_by, PySem.W.mg_of X G a__law_run_by⟩
  have Oty : Own l.prog w K mg base CX0 3 "_law_typed_by" ["_law_verb", "_law_cell"] sp_tyby := ⟨_, _, ok_tyby46 F__law_typed_by Onu Orn Osg Osm, b__law_typed_by, k__law_typed_by, PySem.W.mg_of X G a__law_typed_by⟩
  have Oph : Own l.prog w K mg base CX0 4 "_law_phrase" ["_law_cell"] sp_phr46 := ⟨_, _, ok_phr46 F__law_phrase Onu Osm Oct Omv Otg Oty, b__law_phrase, k__law_phrase, PySem.W.mg_of X G a__law_phrase⟩
  have Oky : Own l.prog w K mg base CX0 1 "_law_keys" ["_law_phrase_here"] sp_kys := ⟨_, _, ok_kys F__law_keys (m _ z_str), b__law_keys, k__law_keys, PySem.W.mg_of X G a__law_keys⟩
  have Olw : Own l.prog w K mg base CX0 1 "_law_whole" ["_law_found"] sp_lwhole := ⟨_, _, ok_lwhole F__law_whole (m _ z_isinstance) (m _ z_int) (m _ z_bool), b__law_whole, k__law_whole, PySem.W.mg_of X G a__law_whole⟩
  exact ok_law F_law Oce Onu Oph Oky ⟨_, _, ok_badby F__law_bad_by , b__law_bad_by, k__law_bad_by, PySem.W.mg_of X G a__law_bad_by⟩ ⟨_, _, ok_told46 F__law_told Olw (m _ z_isinstance) (m _ z_tuple), b__law_told, k__law_told, PySem.W.mg_of X G a__law_told⟩ Ofi ml (m _ z_min) mr
theorem walk {l : PySem.W.OpenLaw} {q : Program} {loose : List Str} {XP : (Str → Option Value) → Heap → Prop} {YP : World → Heap → Prop} {d : DefRec} {K : Params → PySem.W.Frag} (hn : l.most = some 63) (hdf : d.params.defaults = [])
    (hY : ∀ (w : World) (h : Heap), YP w h → (K w.params).In h)
    (F : ∀ (w : World) (mg : Str → Option Value) (fa : Addr) (h : Heap), (K w.params).In h → h.Ns mainGlobals mg → mg d.name = some (.ref fa) →
      ∃ fd : FuncData, (∀ (s : Shared) (u : Value), BindsTo s fd ⟨[u], []⟩ [("_law_script", u)]) ∧ ∀ base : Heap, (K w.params).In base → base.Ns mainGlobals mg → FnOk l.prog w (K w.params) mg base CX0 21 fa fd ["_law_script"] (sp_law (K w.params))) :
    PySem.W.WalkO q loose XP YP l.row.toRowW d [] (fun f vs => PySem.call f vs) :=
  L2.walk_of (n := 63) (k := 21) (x := "_law_script") (CX := fun _ => CX0) (sp := fun w => sp_law (K w.params)) hn (by decide) hdf ⟨rfl, by decide, by decide⟩ hY F (fun _ _ a ns hl _ hS => ⟨a, ns, rfl, hS, hl, fun _ => rfl⟩) fun _ _ _ _ _ z => z
end My
open PySem PySem.W PyProof.Rows
def PySem.W.Fast.tw17807042310637554720 : Nat := 0
def PySem.W.Fast.tw11911042797115123840 : Nat := 0
def PySem.W.Fast.tw2427707810294496448 : Nat := 0
def PySem.W.Fast.tw12720687906123066688 : Nat := 0
def PySem.W.Fast.tw16609032349770741440 : Nat := 0
def PySem.W.Fast.tw10227389337121459968 : Nat := 0
def PySem.W.Fast.tw13662881201260755840 : Nat := 0
def PySem.W.Fast.tw5932623623656033152 : Nat := 0
def PySem.W.Fast.tw5681765413791986592 : Nat := 0
def PySem.W.Fast.tw12662174868532416448 : Nat := 0
def PySem.W.Fast.tw6364874172184360065 : Nat := 0
def PySem.W.Fast.tw8593445869604684961 : Nat := 0
def PySem.W.Fast.tw17318994169987068129 : Nat := 0
def PySem.W.Fast.tw11140273744066070209 : Nat := 0
def PySem.W.Fast.tw2090116893381108449 : Nat := 0
def PySem.W.Fast.tw1254728193827869409 : Nat := 0
def PySem.W.Fast.tw15263853839403142017 : Nat := 0
def PySem.W.Fast.tw17745212749372079202 : Nat := 0
def PySem.W.Fast.tw12980713585658341730 : Nat := 0
def PySem.W.Fast.tw13372066863038320002 : Nat := 0
def PySem.W.Fast.tw7796860506740429666 : Nat := 0
def PySem.W.Fast.tw4732408974374661123 : Nat := 0
def PySem.W.Fast.tw434530428614224899 : Nat := 0
def PySem.W.Fast.tw589742581463512099 : Nat := 0
def PySem.W.Fast.tw9945213532310886499 : Nat := 0
def PySem.W.Fast.tw928273997979157731 : Nat := 0
def PySem.W.Fast.tw122051299467025027 : Nat := 0
def PySem.W.Fast.tw6233825056206875331 : Nat := 0
def PySem.W.Fast.tw11522050340979749667 : Nat := 0
def PySem.W.Fast.tw4430508575377350467 : Nat := 0
def PySem.W.Fast.tw15702498487249748996 : Nat := 0
def PySem.W.Fast.tw14368070059260372004 : Nat := 0
def PySem.W.Fast.tw16565556186005972036 : Nat := 0
def PySem.W.Fast.tw10905764443686867204 : Nat := 0
def PySem.W.Fast.tw14931141955352464964 : Nat := 0
def PySem.W.Fast.tw17460573750131364484 : Nat := 0
def PySem.W.Fast.tw9270973388515627780 : Nat := 0
def PySem.W.Fast.tw5144557002139897828 : Nat := 0
def PySem.W.Fast.tw11214308027680886949 : Nat := 0
def PySem.W.Fast.tw6892973423072312517 : Nat := 0
def PySem.W.Fast.tw14924438330186382917 : Nat := 0
def PySem.W.Fast.tw7653850758441487013 : Nat := 0
def PySem.W.Fast.tw15758714035057580709 : Nat := 0
def PySem.W.Fast.tw10320027788797575270 : Nat := 0
def PySem.W.Fast.tw3864632434353440902 : Nat := 0
def PySem.W.Fast.tw11123357219770878310 : Nat := 0
def PySem.W.Fast.tw16771372323440900582 : Nat := 0
def PySem.W.Fast.tw18068937224189754150 : Nat := 0
def PySem.W.Fast.tw18228293962741404550 : Nat := 0
def PySem.W.Fast.tw4337294884203108326 : Nat := 0
def PySem.W.Fast.tw14687107133031642279 : Nat := 0
def PySem.W.Fast.tw9200499936675162311 : Nat := 0
def PySem.W.Fast.tw7562139204552215815 : Nat := 0
def PySem.W.Fast.tw13403815901533464071 : Nat := 0
def PySem.W.Fast.tw6684720466878594759 : Nat := 0
def PySem.W.Fast.tw616365557610921703 : Nat := 0
def PySem.W.Fast.tw9463134038133344999 : Nat := 0
def PySem.W.Fast.tw14878597092428208903 : Nat := 0
def PySem.W.Fast.tw5681855543155889192 : Nat := 0
def PySem.W.Fast.tw13840584154495658152 : Nat := 0
def PySem.W.Fast.tw546661778177951944 : Nat := 0
def PySem.W.Fast.tw18309196518009935144 : Nat := 0
def PySem.W.Fast.tw6692855446974659976 : Nat := 0
def PySem.W.Fast.tw10298477899487584840 : Nat := 0
def PySem.W.Fast.tw18333467425129345640 : Nat := 0
def PySem.W.Fast.tw8786964636987558536 : Nat := 0
def PySem.W.Fast.tw12170283848051883688 : Nat := 0
def PySem.W.Fast.tw7037308011944457896 : Nat := 0
def PySem.W.Fast.tw2688394530492875464 : Nat := 0
def PySem.W.Fast.tw10398290308009444072 : Nat := 0
def PySem.W.Fast.tw8459412702421614376 : Nat := 0
def PySem.W.Fast.tw2019617846276343817 : Nat := 0
def PySem.W.Fast.tw16825757920054045833 : Nat := 0
def PySem.W.Fast.tw14608174516837939529 : Nat := 0
def PySem.W.Fast.tw1355800167983820329 : Nat := 0
def PySem.W.Fast.tw6329930098155060137 : Nat := 0
def PySem.W.Fast.tw14992105127664099370 : Nat := 0
def PySem.W.Fast.tw17013048221116743914 : Nat := 0
def PySem.W.Fast.tw16410048985312160042 : Nat := 0
def PySem.W.Fast.tw6615811510535624234 : Nat := 0
def PySem.W.Fast.tw5111258893335048810 : Nat := 0
def PySem.W.Fast.tw12099453678760190666 : Nat := 0
def PySem.W.Fast.tw885912804960431882 : Nat := 0
def PySem.W.Fast.tw15067807607529775914 : Nat := 0
def PySem.W.Fast.tw3661882816471373706 : Nat := 0
def PySem.W.Fast.tw9777157864827762859 : Nat := 0
def PySem.W.Fast.tw9128852254757219531 : Nat := 0
def PySem.W.Fast.tw710926802324176491 : Nat := 0
def PySem.W.Fast.tw2863402636963116971 : Nat := 0
def PySem.W.Fast.tw17811950810358718636 : Nat := 0
def PySem.W.Fast.tw18021681746273915084 : Nat := 0
def PySem.W.Fast.tw8681226370769659404 : Nat := 0
def PySem.W.Fast.tw7404011074054854220 : Nat := 0
def PySem.W.Fast.tw9283538931916993260 : Nat := 0
def PySem.W.Fast.tw13067446998834139948 : Nat := 0
def PySem.W.Fast.tw3303930565754904460 : Nat := 0
def PySem.W.Fast.tw8849474486336516109 : Nat := 0
def PySem.W.Fast.tw6223850627055076397 : Nat := 0
def PySem.W.Fast.tw16054183813024399501 : Nat := 0
def PySem.W.Fast.tw6021075073617450189 : Nat := 0
def PySem.W.Fast.tw17854346486145371437 : Nat := 0
def PySem.W.Fast.tw8060092902443753997 : Nat := 0
def PySem.W.Fast.tw6239149969316052621 : Nat := 0
def PySem.W.Fast.tw10122017357808520973 : Nat := 0
def PySem.W.Fast.tw7586049393536414541 : Nat := 0
def PySem.W.Fast.tw11793778267655044045 : Nat := 0
def PySem.W.Fast.tw12366552156088854702 : Nat := 0
def PySem.W.Fast.tw2446273826174361870 : Nat := 0
def PySem.W.Fast.tw8880391903178981838 : Nat := 0
def PySem.W.Fast.tw2017014764981968718 : Nat := 0
def PySem.W.Fast.tw13563023086981088174 : Nat := 0
def PySem.W.Fast.tw12667683071495068622 : Nat := 0
def PySem.W.Fast.tw1933868060077583823 : Nat := 0
def PySem.W.Fast.tw8637031530969767439 : Nat := 0
def PySem.W.Fast.tw6573467062502144783 : Nat := 0
def PySem.W.Fast.tw10341481177210409807 : Nat := 0
def PySem.W.Fast.tw9285304122975511439 : Nat := 0
def PySem.W.Fast.tw16311713915243650224 : Nat := 0
def PySem.W.Fast.tw8966000307079608528 : Nat := 0
def PySem.W.Fast.tw11192030930480088336 : Nat := 0
def PySem.W.Fast.tw12718970725468986736 : Nat := 0
def PySem.W.Fast.tw953090885099161681 : Nat := 0
def PySem.W.Fast.tw1212316115346093745 : Nat := 0
def PySem.W.Fast.tw12120973001287969810 : Nat := 0
def PySem.W.Fast.tw2143811909818407026 : Nat := 0
def PySem.W.Fast.tw11415411380241174930 : Nat := 0
def PySem.W.Fast.tw18121560041786810834 : Nat := 0
def PySem.W.Fast.tw15121968025245512434 : Nat := 0
def PySem.W.Fast.tw16126563555832396658 : Nat := 0
def PySem.W.Fast.tw11620466193641898930 : Nat := 0
def PySem.W.Fast.tw16822390569246407666 : Nat := 0
def PySem.W.Fast.tw924729347362822195 : Nat := 0
def PySem.W.Fast.tw2665231282723297459 : Nat := 0
def PySem.W.Fast.tw4508625420016219475 : Nat := 0
def PySem.W.Fast.tw14574612911399702867 : Nat := 0
def PySem.W.Fast.tw15117809535718660627 : Nat := 0
def PySem.W.Fast.tw9634330589473581587 : Nat := 0
def PySem.W.Fast.tw11702467816507527795 : Nat := 0
def PySem.W.Fast.tw16875579258847881875 : Nat := 0
def PySem.W.Fast.tw4064876836887767987 : Nat := 0
def PySem.W.Fast.tw15947262566765185140 : Nat := 0
def PySem.W.Fast.tw15610969449595638228 : Nat := 0
def PySem.W.Fast.tw16729839170065100276 : Nat := 0
def PySem.W.Fast.tw15455955123792422772 : Nat := 0
def PySem.W.Fast.tw6669840826681583476 : Nat := 0
def PySem.W.Fast.tw14379024035066146772 : Nat := 0
def PySem.W.Fast.tw10399020279909282965 : Nat := 0
def PySem.W.Fast.tw10614281618398621205 : Nat := 0
def PySem.W.Fast.tw7915528801248966421 : Nat := 0
def PySem.W.Fast.tw1775831615122726709 : Nat := 0
def PySem.W.Fast.tw8547251639293296469 : Nat := 0
def PySem.W.Fast.tw7984014325183980726 : Nat := 0
def PySem.W.Fast.tw10178259260730281302 : Nat := 0
def PySem.W.Fast.tw17554213541524012438 : Nat := 0
def PySem.W.Fast.tw16423968780736342454 : Nat := 0
def PySem.W.Fast.tw5836121179105389110 : Nat := 0
def PySem.W.Fast.tw10456435051729496790 : Nat := 0
def PySem.W.Fast.tw15276304936106723158 : Nat := 0
def PySem.W.Fast.tw9289284327724791638 : Nat := 0
def PySem.W.Fast.tw17073525772080132950 : Nat := 0
def PySem.W.Fast.tw15764358232540646390 : Nat := 0
def PySem.W.Fast.tw287565086583306295 : Nat := 0
def PySem.W.Fast.tw17275517856266490999 : Nat := 0
def PySem.W.Fast.tw2981257363792166007 : Nat := 0
def PySem.W.Fast.tw6296239001722163575 : Nat := 0
def PySem.W.Fast.tw3110331973003077399 : Nat := 0
def PySem.W.Fast.tw4088345988481290488 : Nat := 0
def PySem.W.Fast.tw11084761721880415800 : Nat := 0
def PySem.W.Fast.tw1257325687448352408 : Nat := 0
def PySem.W.Fast.tw5353798502659623832 : Nat := 0
def PySem.W.Fast.tw6671790384077158392 : Nat := 0
def PySem.W.Fast.tw15993401201427016793 : Nat := 0
def PySem.W.Fast.tw4501742032473213049 : Nat := 0
def PySem.W.Fast.tw10755331234401781945 : Nat := 0
def PySem.W.Fast.tw5865744896757856441 : Nat := 0
def PySem.W.Fast.tw3251010300807747865 : Nat := 0
def PySem.W.Fast.tw5934802527288116505 : Nat := 0
def PySem.W.Fast.tw18229904694689351993 : Nat := 0
def PySem.W.Fast.tw5010626577691052633 : Nat := 0
def PySem.W.Fast.tw5075928190686696153 : Nat := 0
def PySem.W.Fast.tw18292822657278420985 : Nat := 0
def PySem.W.Fast.tw1078530230831992922 : Nat := 0
def PySem.W.Fast.tw9563924353355467866 : Nat := 0
def PySem.W.Fast.tw14181169802890118362 : Nat := 0
def PySem.W.Fast.tw5967718550766237178 : Nat := 0
def PySem.W.Fast.tw7695763486357377530 : Nat := 0
def PySem.W.Fast.tw13038004604948851258 : Nat := 0
def PySem.W.Fast.tw3540402944862446170 : Nat := 0
def PySem.W.Fast.tw11084264631975234234 : Nat := 0
def PySem.W.Fast.tw1659421734312296475 : Nat := 0
def PySem.W.Fast.tw5300054380664709147 : Nat := 0
def PySem.W.Fast.tw15816528837200749691 : Nat := 0
def PySem.W.Fast.tw10334474925827234939 : Nat := 0
def PySem.W.Fast.tw1163001778833516763 : Nat := 0
def PySem.W.Fast.tw13118887769166757115 : Nat := 0
def PySem.W.Fast.tw6910230639529644283 : Nat := 0
def PySem.W.Fast.tw15462195932171889979 : Nat := 0
def PySem.W.Fast.tw7478034903144576379 : Nat := 0
def PySem.W.Fast.tw8466035829148341659 : Nat := 0
def PySem.W.Fast.tw4433958724850393563 : Nat := 0
def PySem.W.Fast.tw5197292686217681499 : Nat := 0
def PySem.W.Fast.tw17732764200615597787 : Nat := 0
def PySem.W.Fast.tw17214985659308004251 : Nat := 0
def PySem.W.Fast.tw11625733844708952027 : Nat := 0
def PySem.W.Fast.tw7769564870520788028 : Nat := 0
def PySem.W.Fast.tw6711371647903921404 : Nat := 0
def PySem.W.Fast.tw6998080617342364 : Nat := 0
def PySem.W.Fast.tw10963720470778880732 : Nat := 0
def PySem.W.Fast.tw12370326020889578460 : Nat := 0
def PySem.W.Fast.tw9157474176996027388 : Nat := 0
def PySem.W.Fast.tw15829032442372717917 : Nat := 0
def PySem.W.Fast.tw18132938555407349277 : Nat := 0
def PySem.W.Fast.tw11633087920369056349 : Nat := 0
def PySem.W.Fast.tw6586183963606640253 : Nat := 0
def PySem.W.Fast.tw7351739513236269725 : Nat := 0
def PySem.W.Fast.tw11957730589158699901 : Nat := 0
def PySem.W.Fast.tw5034868839364498333 : Nat := 0
def PySem.W.Fast.tw8391648482514726813 : Nat := 0
def PySem.W.Fast.tw6903296128403058621 : Nat := 0
def PySem.W.Fast.tw3648324808806018110 : Nat := 0
def PySem.W.Fast.tw8333019638480971006 : Nat := 0
def PySem.W.Fast.tw11417519451959389598 : Nat := 0
def PySem.W.Fast.tw7949529766805346782 : Nat := 0
def PySem.W.Fast.tw9032973540392442494 : Nat := 0
def PySem.W.Fast.tw14643384585517160190 : Nat := 0
def PySem.W.Fast.tw14745107873488739166 : Nat := 0
def PySem.W.Fast.tw11322071750744003550 : Nat := 0
def PySem.W.Fast.tw5524093553530887551 : Nat := 0
def PySem.W.Fast.tw3368158751672916479 : Nat := 0
def PySem.W.Fast.tw6888541669986983615 : Nat := 0
set_option maxRecDepth 100000 in
set_option maxHeartbeats 0 in
theorem PySem.Challenge.cw_modehand_k46_whole_rows_of_keys_holds : PySem.Challenge.rw_modehand_k46_whole_rows_of_keys.Holds := by
  w_on; o_law; k_head; (case hw => w_witness2)
  k_fill
  refine My.walk (l := PySem.Challenge.rw_modehand_k46_whole_rows_of_keys) rfl rfl (fun w h Y => PySem.W.kIn_of Y) ?F
  case F =>
    intro w mg fa h KX G hmg
    refine' My.all_mk KX G hmg ?a_read_shelf ?l_read_shelf ?c_read_shelf ?k_read_shelf ?a_read_count ?l_read_count ?c_read_count ?k_read_count ?a_read_verb ?l_read_verb ?c_read_verb ?k_read_verb ?a_read_aim ?l_read_aim ?c_read_aim ?k_read_aim ?a_read_target ?l_read_target ?c_read_target ?k_read_target ?a_read_up_to ?l_read_up_to ?c_read_up_to ?k_read_up_to ?a_read_typed ?l_read_typed ?c_read_typed ?k_read_typed ?a_read_phrase ?l_read_phrase ?c_read_phrase ?k_read_phrase ?a_first ?l_first ?c_first ?k_first ?a__law_cell_at ?l__law_cell_at ?c__law_cell_at ?k__law_cell_at ?a__law_number ?l__law_number ?c__law_number ?k__law_number ?a__law_whole ?l__law_whole ?c__law_whole ?k__law_whole ?a__law_sign_by ?l__law_sign_by ?c__law_sign_by ?k__law_sign_by ?a__law_letter_by ?l__law_letter_by ?c__law_letter_by ?k__law_letter_by ?a__law_count_by ?l__law_count_by ?c__law_count_by ?k__law_count_by ?a__law_move_by ?l__law_move_by ?c__law_move_by ?k__law_move_by ?a__law_target_by ?l__law_target_by ?c__law_target_by ?k__law_target_by ?a__law_run_by ?l__law_run_by ?c__law_run_by ?k__law_run_by ?a__law_typed_by ?l__law_typed_by ?c__law_typed_by ?k__law_typed_by ?a__law_phrase ?l__law_phrase ?c__law_phrase ?k__law_phrase ?a__law_keys ?l__law_keys ?c__law_keys ?k__law_keys ?a__law_bad_by ?l__law_bad_by ?c__law_bad_by ?k__law_bad_by ?a__law_told ?l__law_told ?c__law_told ?k__law_told ?a_law ?l_law ?c_law ?k_law ?g_SIGNS ?g_LETTERS ?g_MOVES ?g_THINGS ?g_WITH_SHELF ?g_WITH_COUNT ?g_WITHOUT_COUNT ?g_WITH_TARGET ?g_ENDS ?d_ENDS ?y_ENDS ?aC_Reader ?pg_Reader ?hd_Reader ?po_Reader ?sa_Reader ?mk_Reader ?kc_Reader ?n_Reader_row ?n_Reader_at ?n_Reader_stuck ?a_Reader__init ?i_Reader__init ?l_Reader__init ?c_Reader__init ?k_Reader__init ?a_Reader__meets ?i_Reader__meets ?l_Reader__meets ?c_Reader__meets ?k_Reader__meets ?a_Reader__take ?i_Reader__take ?l_Reader__take ?c_Reader__take ?k_Reader__take ?a_Reader__take_all ?i_Reader__take_all ?l_Reader__take_all ?c_Reader__take_all ?k_Reader__take_all ?z_len ?z_range ?z_min ?z_isinstance ?z_int ?z_bool ?z_str ?z_tuple
    (case a_read_shelf => k_is); (case l_read_shelf => k_is); (case c_read_shelf => k_is); (case k_read_shelf => k_is)
    (case a_read_count => k_is); (case l_read_count => k_is); (case c_read_count => k_is); (case k_read_count => k_is)
    (case a_read_verb => k_is); (case l_read_verb => k_is); (case c_read_verb => k_is); (case k_read_verb => k_is)
    (case a_read_aim => k_is); (case l_read_aim => k_is); (case c_read_aim => k_is); (case k_read_aim => k_is)
    (case a_read_target => k_is); (case l_read_target => k_is); (case c_read_target => k_is); (case k_read_target => k_is)
    (case a_read_up_to => k_is); (case l_read_up_to => k_is); (case c_read_up_to => k_is); (case k_read_up_to => k_is)
    (case a_read_typed => k_is); (case l_read_typed => k_is); (case c_read_typed => k_is); (case k_read_typed => k_is)
    (case a_read_phrase => k_is); (case l_read_phrase => k_is); (case c_read_phrase => k_is); (case k_read_phrase => k_is)
    (case a_first => k_is); (case l_first => k_is); (case c_first => k_is); (case k_first => k_is)
    (case a__law_cell_at => k_is); (case l__law_cell_at => k_is); (case c__law_cell_at => k_is); (case k__law_cell_at => k_is)
    (case a__law_number => k_is); (case l__law_number => k_is); (case c__law_number => k_is); (case k__law_number => k_is)
    (case a__law_whole => k_is); (case l__law_whole => k_is); (case c__law_whole => k_is); (case k__law_whole => k_is)
    (case a__law_sign_by => k_is); (case l__law_sign_by => k_is); (case c__law_sign_by => k_is); (case k__law_sign_by => k_is)
    (case a__law_letter_by => k_is); (case l__law_letter_by => k_is); (case c__law_letter_by => k_is); (case k__law_letter_by => k_is)
    (case a__law_count_by => k_is); (case l__law_count_by => k_is); (case c__law_count_by => k_is); (case k__law_count_by => k_is)
    (case a__law_move_by => k_is); (case l__law_move_by => k_is); (case c__law_move_by => k_is); (case k__law_move_by => k_is)
    (case a__law_target_by => k_is); (case l__law_target_by => k_is); (case c__law_target_by => k_is); (case k__law_target_by => k_is)
    (case a__law_run_by => k_is); (case l__law_run_by => k_is); (case c__law_run_by => k_is); (case k__law_run_by => k_is)
    (case a__law_typed_by => k_is); (case l__law_typed_by => k_is); (case c__law_typed_by => k_is); (case k__law_typed_by => k_is)
    (case a__law_phrase => k_is); (case l__law_phrase => k_is); (case c__law_phrase => k_is); (case k__law_phrase => k_is)
    (case a__law_keys => k_is); (case l__law_keys => k_is); (case c__law_keys => k_is); (case k__law_keys => k_is)
    (case a__law_bad_by => k_is); (case l__law_bad_by => k_is); (case c__law_bad_by => k_is); (case k__law_bad_by => k_is)
    (case a__law_told => k_is); (case l__law_told => k_is); (case c__law_told => k_is); (case k__law_told => k_is)
    (case a_law => k_is); (case l_law => k_is); (case c_law => k_is); (case k_law => k_is)
    (case g_SIGNS => k_is); (case g_LETTERS => k_is); (case g_MOVES => k_is); (case g_THINGS => k_is); (case g_WITH_SHELF => k_is); (case g_WITH_COUNT => k_is); (case g_WITHOUT_COUNT => k_is); (case g_WITH_TARGET => k_is); (case g_ENDS => k_is); (case d_ENDS => k_is); (case aC_Reader => k_is); (case pg_Reader => k_is); (case hd_Reader => k_is); (case po_Reader => k_is); (case sa_Reader => k_is); (case mk_Reader => k_is); (case kc_Reader => k_is); (case n_Reader_row => k_is); (case n_Reader_at => k_is); (case n_Reader_stuck => k_is); (case a_Reader__init => k_is); (case i_Reader__init => k_is); (case l_Reader__init => k_is); (case c_Reader__init => k_is); (case k_Reader__init => k_is); (case a_Reader__meets => k_is); (case i_Reader__meets => k_is); (case l_Reader__meets => k_is); (case c_Reader__meets => k_is); (case k_Reader__meets => k_is); (case a_Reader__take => k_is); (case i_Reader__take => k_is); (case l_Reader__take => k_is); (case c_Reader__take => k_is); (case k_Reader__take => k_is); (case a_Reader__take_all => k_is); (case i_Reader__take_all => k_is); (case l_Reader__take_all => k_is); (case c_Reader__take_all => k_is); (case k_Reader__take_all => k_is); (case z_len => k_is); (case z_range => k_is); (case z_min => k_is); (case z_isinstance => k_is); (case z_int => k_is); (case z_bool => k_is); (case z_str => k_is); (case z_tuple => k_is)
    (case y_ENDS => rfl)
#print axioms PySem.Challenge.cw_modehand_k46_whole_rows_of_keys_holds

