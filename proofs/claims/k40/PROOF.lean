import PyProof.Rows.All
import Wide.All
import OpenK.AllK
import Wide.FinOn
import Lean
import PyProof.EqAt
import PyProof.EqKinds
import PyProof.TupleCall
import PyProof.EnumMake
import PyProof.Draws
import PyProof.InstStoreFacts
import PyProof.ExcArgs
import PyProof.ExcBaseAll.ValueError
import KE.KDictLaws
import OpenK.KOwn
import PyProof.ListRange
import PyProof.AttrMissHeap
import PyProof.MinMaxWalk
import PyProof.WalksMore
import PyProof.NeKinds
import KE.KDictList
import KE.KDictSum
import KE.KEqDict
import PyProof.DictItems
import KE.KPairComp
import PyProof.EqAt
import PyProof.NeKinds
import PyProof.MeetsSeq3
import KE.KLam
import KE.KMinKey
import KE.KNestM
import PyProof.MinMaxWalk
import PyProof.Rows.CallKw2
import PySem.Challenge.RW_spoolhall_k40_levels
set_option Elab.async false
set_option linter.all false
set_option maxRecDepth 100000
/-! THE HAND LAYER, for ints, bools, texts, own classes, LISTS and tuples (index, slices, in, append, pop ..), calls, loops. Paste it whole ahead of your own text; what your proof does not reach may be deleted. -/
namespace L2
open PySem PySem.Spec PyProof.Rows

/-- a key: an int or a str -/
abbrev Key := Sum Int Str
def keyIs : Key → Value → Bool
  | .inl k, v => Value.isInt k v
  | .inr x, v => Value.isStrOf x v
def keyH (w : World) : Key → Int
  | .inl k => hashInt k
  | .inr x => hashStr w x
theorem keyIs_shape : ∀ {k : Key} {v : Value}, keyIs k v = true → (∃ i t, k = Sum.inl i ∧ v = Value.int i t) ∨ (∃ x t, k = Sum.inr x ∧ v = Value.str x t)
  | .inl i, v, h => by
    obtain ⟨t, e⟩ := Value.isInt_shape (k := i) (v := v) h
    exact .inl ⟨i, t, rfl, e⟩
  | .inr x, v, h => by
    obtain ⟨t, e⟩ := Value.isStrOf_shape (x := x) (v := v) h
    exact .inr ⟨x, t, rfl, e⟩
theorem key_ll (a b : Int) : decide ((Sum.inl a : Key) = Sum.inl b) = (a == b) := by
  by_cases e : a = b
  · subst e; simp
  · have h : ¬ (Sum.inl a : Key) = Sum.inl b := fun q => e (Sum.inl.inj q)
    rw [decide_eq_false h]
    exact (beq_eq_false_iff_ne.mpr e).symm
theorem key_rr (a b : Str) : decide ((Sum.inr a : Key) = Sum.inr b) = decide (a = b) := by
  by_cases e : a = b
  · subst e; simp
  · have h : ¬ (Sum.inr a : Key) = Sum.inr b := fun q => e (Sum.inr.inj q)
    rw [decide_eq_false h, decide_eq_false e]
theorem key_lr (a : Int) (b : Str) : decide ((Sum.inl a : Key) = Sum.inr b) = false := decide_eq_false (fun q => nomatch q)
theorem key_rl (a : Str) (b : Int) : decide ((Sum.inr a : Key) = Sum.inl b) = false := decide_eq_false (fun q => nomatch q)

def mixKind (prog : Program) (w : World) : PySem.KeyKind prog w Key where
  is := keyIs
  hash := keyH w
  inj := fun v a b ha hb => by
    rcases keyIs_shape ha with ⟨i, t, rfl, rfl⟩ | ⟨x, t, rfl, rfl⟩
    · rcases keyIs_shape hb with ⟨j, u, rfl, e⟩ | ⟨y, u, rfl, e⟩
      · injection e with e1 _; rw [e1]
      · exact nomatch e
    · rcases keyIs_shape hb with ⟨j, u, rfl, e⟩ | ⟨y, u, rfl, e⟩
      · exact nomatch e
      · injection e with e1 _; rw [e1]
  byValue := fun k v h => by
    rcases keyIs_shape h with ⟨i, t, rfl, rfl⟩ | ⟨x, t, rfl, rfl⟩ <;> rfl
  pyHash := fun hv h => by
    rcases keyIs_shape hv with ⟨i, t, rfl, rfl⟩ | ⟨x, t, rfl, rfl⟩
    · exact wpAny_pyHash_int h
    · exact wpAny_pyHash_str h
  eqBool := fun hu hv h => by
    rcases keyIs_shape hu with ⟨i, t, rfl, rfl⟩ | ⟨x, t, rfl, rfl⟩
    · rcases keyIs_shape hv with ⟨j, u, rfl, rfl⟩ | ⟨y, u, rfl, rfl⟩
      · rw [key_ll] at h; exact wpAny_eqBool_int h
      · rw [key_lr] at h; exact SeqAt.EqAt.int_str i t y u _ _ _ _ h
    · rcases keyIs_shape hv with ⟨j, u, rfl, rfl⟩ | ⟨y, u, rfl, rfl⟩
      · rw [key_rl] at h; exact SeqAt.EqAt.str_int x t j u _ _ _ _ h
      · rw [key_rr] at h; exact wpAny_eqBool_str h
  «strs» := fun k x t v h => by
    rcases keyIs_shape h with ⟨i, u, rfl, e⟩ | ⟨y, u, rfl, e⟩
    · exact nomatch e
    · injection e with e1 _
      subst e1
      cases v <;> rfl

end L2

namespace L2
open PySem PySem.Spec PyProof.Rows

/-- a value, without the heap -/
inductive V where
  | non | bl (b : Bool) | int (i : Int) | str (x : Str) | byt (b : Array UInt8) | flt (b : UInt64) | ref (a : Addr) | ty (n : String)
  deriving DecidableEq

def RelV : V → Value → Prop
  | .non, u => u = Value.none
  | .bl b, u => u = Value.bool b
  | .int i, u => ∃ t, u = Value.int i t
  | .str x, u => ∃ t, u = Value.str x t
  | .byt b, u => ∃ t, u = Value.bytes b t
  | .flt b, u => ∃ t, u = Value.float b t
  | .ref a, u => u = Value.ref a
  | .ty n, u => u = Value.type n

abbrev Vals : List V → List Value → Prop := Paired RelV
theorem Vals.length {xs : List V} {us : List Value} (r : Vals xs us) : xs.length = us.length := Paired.length r
theorem Vals.get : ∀ {xs : List V} {us : List Value} {i : Nat} {x : V}, Vals xs us → xs[i]? = some x → ∃ u, us[i]? = some u ∧ RelV x u
  | _, _, _, _, .nil, e => by simp at e
  | _, _, 0, _, .cons r _, e => by simp at e; subst e; exact ⟨_, rfl, r⟩
  | _, _, i + 1, x, .cons _ t, e => by
    obtain ⟨u, h1, h2⟩ := Vals.get (i := i) (x := x) t (by simpa using e)
    exact ⟨u, by simpa using h1, h2⟩
theorem Vals.set {x : V} {u : Value} (r : RelV x u) : ∀ {xs : List V} {us : List Value} (i : Nat), Vals xs us → Vals (xs.set i x) (us.set i u)
  | _, _, _, .nil => .nil
  | _, _, 0, .cons _ t => .cons r t
  | _, _, i + 1, .cons q t => .cons q (Vals.set r i t)
theorem Vals.append : ∀ {xs ys : List V} {us ws : List Value}, Vals xs us → Vals ys ws → Vals (xs ++ ys) (us ++ ws)
  | _, _, _, _, .nil, s => s
  | _, _, _, _, .cons r t, s => .cons r (Vals.append t s)
theorem Vals.take : ∀ {xs : List V} {us : List Value} (n : Nat), Vals xs us → Vals (xs.take n) (us.take n)
  | _, _, 0, _ => .nil
  | _, _, _ + 1, .nil => .nil
  | _, _, n + 1, .cons r t => .cons r (Vals.take n t)
theorem Vals.drop : ∀ {xs : List V} {us : List Value} (n : Nat), Vals xs us → Vals (xs.drop n) (us.drop n)
  | _, _, 0, r => r
  | _, _, _ + 1, .nil => .nil
  | _, _, n + 1, .cons _ t => Vals.drop n t
def RelO : Option V → Option Value → Prop
  | some v, some u => RelV v u
  | none, none => True
  | _, _ => False
def KV {κ : Type} : List (κ × V) → List (κ × Value) → Prop := Paired fun (p : κ × V) (q : κ × Value) => p.1 = q.1 ∧ RelV p.2 q.2

/-- a key of a dict (00_mix): an int or a text -/
def kV : Key → V
  | .inl i => .int i
  | .inr x => .str x

/-- what stands at a tracked address -/
inductive HO where
  /-- a list -/
  | lst (xs : List V)
  /-- a tuple (never changes) -/
  | tup (xs : List V)
  /-- a dict whose keys are ints and texts; one whose keys are tuples of ints and texts (the empty one is both) -/
  | dK (kvs : List (Key × V)) | dT (kvs : List (List Key × V))
  /-- a set of ints: its members, its size -/
  | set (S : Int → Bool) (n : Nat)
  /-- an instance of the class at C, its dict at dx, its attributes -/
  | ins (C dx : Addr) (fs : List (Str × V))
  /-- the dict of the instance at x -/
  | own (x : Addr)
  /-- the dict of an exception -/
  | xd (fs : List (Str × V))
  /-- a bound method, f of x -/
  | met (f x : Addr)
  /-- a range object lo, lo + 1, .. below hi -/
  | rng (lo hi : Int)
  /-- a thing that is known to the object (the script; a dict while a loop walks it): read, never written while it is so -/
  | frz (o : Obj) (u : HO)
  /-- a code object's table -/
  | tbl (ps : Array Value)
  /-- any other thing, by what is true of its one object (a def of one's own: SetO a S n := HO.ext fun h => ..) -/
  | ext (φ : Heap → Prop)

abbrev Hp := Addr → Option HO
def upd (H : Hp) (a : Addr) (o : HO) : Hp := fun b => if b = a then some o else H b
theorem upd_same {H : Hp} {a : Addr} {o : HO} : upd H a o a = some o := by unfold upd; rw [if_pos rfl]
theorem upd_ne {H : Hp} {a b : Addr} {o : HO} (h : b ≠ a) : upd H a o b = H b := by unfold upd; rw [if_neg h]
/-- two objects of different content stand apart -/
theorem ne_of {H : Hp} {a b : Addr} {o u : HO} (h : H a = some o) (h' : H b = some u) (d : o ≠ u) : a ≠ b := by
  intro e; subst e; rw [h] at h'; exact d (Option.some.inj h')
theorem ne_of_none {H : Hp} {a b : Addr} {o : HO} (h : H a = some o) (h' : H b = none) : a ≠ b := by
  intro e; subst e; rw [h] at h'; cases h'

section
variable (P : Program) (w : World)
def ObjOk (H : Hp) (h : Heap) (a : Addr) : HO → Prop
  | .lst xs => xs.length ≤ sizeLine ∧ ∃ (its : List Value) (n : Nat), Vals xs its ∧ h.get? a = some { cls := .type "list", data := .seq its.toArray n }
  | .tup xs => xs.length ≤ sizeLine ∧ ∃ its : List Value, Vals xs its ∧ IsTup h a its.toArray
  | .dK kvs => kvs.length ≤ sizeLine ∧ (a == sysModules) = false ∧ ∃ vs, KV kvs vs ∧ h.DictOf (mixKind P w) a vs
  | .dT kvs => kvs.length ≤ sizeLine ∧ (a == sysModules) = false ∧ ∃ xs : List (List Key × Addr × Value),
      Paired (fun (p : List Key × V) (q : List Key × Addr × Value) => p.1 = q.1 ∧ H q.2.1 = some (.tup (p.1.map kV)) ∧ RelV p.2 q.2.2) kvs xs ∧
      ∃ o es ep, h.get? a = some o ∧ o.ExactDict ∧ o.data = .dict es ep ∧ es.toList = xs.map (entryOfKey (tupleKind (mixKind P w))) ∧ (xs.map (·.1)).Nodup
  | .set S n => h.SetOf (intKind P w) a S n
  | .ins C dx fs => H dx = some (.own a) ∧ fs.length ≤ 1000 ∧ dx ≠ a ∧ h.get? a = some (PySem.W.instObj C dx) ∧
      ∃ mA, h.Ns1 dx mA ∧ (∀ f, RelO (fs.lookup f) (mA f)) ∧ PySem.Within mA (fs.map (·.1))
  | .own _ => ∃ o, h.get? a = some o
  | .xd fs => ∃ mA, h.Ns1 a mA ∧ ∀ f, RelO (fs.lookup f) (mA f)
  | .rng lo hi => ∃ t u v, h.get? a = some { cls := .type "range", data := .fields #[.int lo t, .int hi u, .int 1 v] }
  | .frz o u => h.get? a = some o ∧ ObjOk H h a u
  | .tbl ps => h.get? a = some { cls := .none, data := .fields ps }
  | .met f x => h.get? a = some (PySem.W.methodObj (.ref f) (.ref x))
  | .ext φ => φ h ∧ (∃ o, h.get? a = some o) ∧ ∀ h1 h2 : Heap, φ h1 → (∀ o, h1.get? a = some o → h2.get? a = some o) → φ h2
/-- the abstract heap is held -/
def HOk (H : Hp) (h : Heap) : Prop := ∀ a o, H a = some o → ObjOk P w H h a o
end

section
variable {P : Program} {w : World} {H H' : Hp} {h h' : Heap} {a : Addr} {o : HO}
theorem ObjOk.lt (x : ObjOk P w H h a o) : a < h.objs.size := by
  cases o with
  | lst xs => obtain ⟨_, _, _, _, e⟩ := x; exact Heap.lt_size e
  | tup xs => obtain ⟨_, _, _, p⟩ := x; exact p.lt
  | dK kvs => obtain ⟨_, _, _, _, o, _, _, e, _⟩ := x; exact Heap.lt_size e
  | dT kvs => obtain ⟨_, _, _, _, o, _, _, e, _⟩ := x; exact Heap.lt_size e
  | set S n => obtain ⟨o, _, _, _, e, _⟩ := x; exact Heap.lt_size e
  | ins C dx fs => obtain ⟨_, _, _, e, _⟩ := x; exact Heap.lt_size e
  | own y => obtain ⟨_, e⟩ := x; exact Heap.lt_size e
  | xd fs => obtain ⟨_, ⟨_, _, _, e, _⟩, _⟩ := x; exact Heap.lt_size e
  | rng lo hi => obtain ⟨_, _, _, e⟩ := x; exact Heap.lt_size e
  | frz ob u => obtain ⟨e, _⟩ := x; exact Heap.lt_size e
  | tbl ps => exact Heap.lt_size (show h.get? a = some _ from x)
  | met f y => exact Heap.lt_size (show h.get? a = some _ from x)
  | ext φ => obtain ⟨_, ⟨_, e⟩, _⟩ := x; exact Heap.lt_size e
theorem Paired.mapP {α β : Type} {F G : α → β → Prop} : ∀ {l₁ : List α} {l₂ : List β}, Paired F l₁ l₂ → (∀ a b, F a b → G a b) → Paired G l₁ l₂
  | _, _, .nil, _ => .nil
  | _, _, .cons r t, f => .cons (f _ _ r) (Paired.mapP t f)
/-- what an object's description leans on: its own object, its own dict, the tuples -/
theorem ObjOk.stay (x : ObjOk P w H h a o) (k : ∀ b u, (b = a ∨ H b = some (.own a)) → h.get? b = some u → h'.get? b = some u)
    (ho : ∀ b, H b = some (.own a) → H' b = some (.own a)) (ht : ∀ b xs, H b = some (.tup xs) → H' b = some (.tup xs)) : ObjOk P w H' h' a o := by
  induction o with
  | lst xs => obtain ⟨z, its, n, r, e⟩ := x; exact ⟨z, its, n, r, k _ _ (.inl rfl) e⟩
  | tup xs => obtain ⟨z, its, r, ob, e, c⟩ := x; exact ⟨z, its, r, ob, k _ _ (.inl rfl) e, c⟩
  | dK kvs => obtain ⟨z, y, vs, r, ob, es, ep, e, c⟩ := x; exact ⟨z, y, vs, r, ob, es, ep, k _ _ (.inl rfl) e, c⟩
  | dT kvs =>
    obtain ⟨z, y, xs, r, ob, es, ep, e, c⟩ := x
    exact ⟨z, y, xs, Paired.mapP r fun p q z => ⟨z.1, ht _ _ z.2.1, z.2.2⟩, ob, es, ep, k _ _ (.inl rfl) e, c⟩
  | set S n => obtain ⟨ob, es, ep, t, e, c⟩ := x; exact ⟨ob, es, ep, t, k _ _ (.inl rfl) e, c⟩
  | ins C dx fs =>
    obtain ⟨d, z, ne, e, mA, ⟨od, es, ep, e2, c⟩, r⟩ := x
    exact ⟨ho _ d, z, ne, k _ _ (.inl rfl) e, mA, ⟨od, es, ep, k _ _ (.inr d) e2, c⟩, r⟩
  | own y => obtain ⟨ob, e⟩ := x; exact ⟨ob, k _ _ (.inl rfl) e⟩
  | xd fs => obtain ⟨mA, ⟨od, es, ep, e, c⟩, r⟩ := x; exact ⟨mA, ⟨od, es, ep, k _ _ (.inl rfl) e, c⟩, r⟩
  | rng lo hi => obtain ⟨t, u, v, e⟩ := x; exact ⟨t, u, v, k _ _ (.inl rfl) e⟩
  | frz ob u ih => obtain ⟨e, q⟩ := x; exact ⟨k _ _ (.inl rfl) e, ih q⟩
  | tbl ps =>
    have e : h.get? a = some { cls := .none, data := .fields ps } := x
    show h'.get? a = some { cls := .none, data := .fields ps }
    exact k a _ (.inl rfl) e
  | met f y =>
    have e : h.get? a = some (PySem.W.methodObj (.ref f) (.ref y)) := x
    show h'.get? a = some (PySem.W.methodObj (.ref f) (.ref y))
    exact k a _ (.inl rfl) e
  | ext φ => obtain ⟨p, ⟨o, e⟩, st⟩ := x; exact ⟨st _ _ p fun o q => k _ _ (.inl rfl) q, ⟨o, k _ _ (.inl rfl) e⟩, st⟩
theorem HOk.lt (x : HOk P w H h) (e : H a = some o) : a < h.objs.size := (x a o e).lt
theorem HOk.fresh (x : HOk P w H h) (e : h.objs.size ≤ a) : H a = none := by
  cases q : H a with
  | none => rfl
  | some u => exact absurd (Nat.lt_of_lt_of_le (x.lt q) e) (Nat.lt_irrefl _)
/-- every object of the heap is kept -/
theorem HOk.kept (x : HOk P w H h) (k : ∀ b u, h.get? b = some u → h'.get? b = some u) : HOk P w H h' := fun a o e =>
  (x a o e).stay (fun b u _ q => k b u q) (fun _ q => q) fun _ _ q => q
/-- a new object is laid and tracked -/
theorem HOk.laid (x : HOk P w H h) (k : ∀ b u, h.get? b = some u → h'.get? b = some u) (hp : h.objs.size ≤ a) (new : ObjOk P w (upd H a o) h' a o) : HOk P w (upd H a o) h' := fun b u e => by
  have hn := x.fresh hp
  by_cases hb : b = a
  · subst hb; rw [upd_same] at e; cases e; exact new
  · rw [upd_ne hb] at e
    exact (x b u e).stay (fun c v _ q => k c v q) (fun c q => by rw [upd_ne (ne_of_none q hn)]; exact q) fun c xs q => by rw [upd_ne (ne_of_none q hn)]; exact q
end

/-- what may be read as u: it is u, or a known u -/
def Rd (H : Hp) (a : Addr) (u : HO) : Prop := H a = some u ∨ ∃ o, H a = some (.frz o u)
theorem Rd.of {H : Hp} {a : Addr} {u : HO} (h : H a = some u) : Rd H a u := .inl h
theorem Rd.ok {P : Program} {w : World} {H : Hp} {h : Heap} {a : Addr} {u : HO} (r : Rd H a u) (x : HOk P w H h) : ObjOk P w H h a u := by
  rcases r with r | ⟨o, r⟩
  · exact x a u r
  · obtain ⟨_, q⟩ := x a _ r
    exact q
/-- what may be written -/
def Mut : Option HO → Prop
  | some (.lst _) => True
  | some (.dK _) => True
  | some (.dT _) => True
  | some (.set _ _) => True
  | some (.ins _ _ _) => True
  | some (.ext _) => True
  | _ => False
section
variable {P : Program} {w : World} {H : Hp} {h h' : Heap} {x e : Addr} {o' : HO}
/-- the object at e is changed: x itself, or the dict of the instance x -/
theorem HOk.write (ok : HOk P w H h) (mu : Mut (H x)) (he : e = x ∨ H e = some (.own x)) (k : ∀ b u, b ≠ e → h.get? b = some u → h'.get? b = some u) (heo : ∃ u, h'.get? e = some u)
    (new : ObjOk P w (upd H x o') h' x o') : HOk P w (upd H x o') h' := fun b u q => by
  have nown : ∀ c y, H c = some (.own y) → c ≠ x := fun c y r z => by subst z; rw [r] at mu; exact mu
  have ntup : ∀ c xs, H c = some (.tup xs) → c ≠ x := fun c xs r z => by subst z; rw [r] at mu; exact mu
  by_cases hb : b = x
  · subst hb; rw [upd_same] at q; cases q; exact new
  · rw [upd_ne hb] at q
    by_cases hbe : b = e
    · have q' : H b = some (.own x) := by
        rcases he with z | z
        · exact absurd (hbe.trans z) hb
        · rw [hbe]; exact z
      rw [q] at q'; cases q'
      obtain ⟨v, hv⟩ := heo
      exact ⟨v, by rw [hbe]; exact hv⟩
    · refine (ok b u q).stay (fun c v hc r => k c v ?_ r) (fun c r => by rw [upd_ne (nown c b r)]; exact r) fun c xs r => by rw [upd_ne (ntup c xs r)]; exact r
      rcases hc with rfl | hc
      · exact hbe
      · rintro rfl
        rcases he with z | z
        · exact nown c b hc z
        · rw [hc] at z; cases z; exact hb rfl
end

/-! ### kept unless tracked; of the frames at fs (the callers') the slots may change (an exception that passes writes there); of the records at ex (iterators) nothing is said -/
structure Un (fs ex : List Addr) (H H' : Hp) (h h' : Heap) : Prop where
  keep : ∀ b o, h.get? b = some o → H b = none → b ∉ fs → b ∉ ex → h'.get? b = some o
  slot : ∀ b o, h.get? b = some o → H b = none → b ∈ fs → b ∉ ex → ∃ sl, h'.get? b = some { o with slots := sl }
  free : ∀ b o, h.get? b = some o → H b = none → b ∉ ex → H' b = none
  there : ∀ b o, h.get? b = some o → b ∉ ex → ∃ o', h'.get? b = some o'
  tups : ∀ b xs, H b = some (.tup xs) → H' b = some (.tup xs)
  frzs : ∀ b o u, H b = some (.frz o u) → H' b = some (.frz o u)
  tbls : ∀ b ps, H b = some (.tbl ps) → ∃ more, H' b = some (.tbl (ps ++ more))
section
variable {fs fs' ex ex' : List Addr} {H H1 H2 : Hp} {h h1 h2 h' : Heap} {a x e : Addr} {o : HO}
theorem Un.any (u : Un fs ex H H1 h h1) {b : Addr} {ob : Obj} (q : h.get? b = some ob) (n : H b = none) (hx : b ∉ ex) : ∃ sl, h1.get? b = some { ob with slots := sl } := by
  by_cases hb : b ∈ fs
  · exact u.slot b ob q n hb hx
  · exact ⟨ob.slots, u.keep b ob q n hb hx⟩
theorem Un.trans (a : Un fs ex H H1 h h1) (b : Un fs ex H1 H2 h1 h2) : Un fs ex H H2 h h2 where
  keep := fun c ob q n hc hx => b.keep c ob (a.keep c ob q n hc hx) (a.free c ob q n hx) hc hx
  slot := fun c ob q n hc hx => by
    obtain ⟨sl, e1⟩ := a.slot c ob q n hc hx
    obtain ⟨sl', e2⟩ := b.slot c _ e1 (a.free c ob q n hx) hc hx
    exact ⟨sl', e2⟩
  free := fun c ob q n hx => by
    obtain ⟨o', e1⟩ := a.there c ob q hx
    exact b.free c o' e1 (a.free c ob q n hx) hx
  there := fun c ob q hx => by
    obtain ⟨o', e1⟩ := a.there c ob q hx
    exact b.there c o' e1 hx
  tups := fun c xs q => b.tups c xs (a.tups c xs q)
  frzs := fun c ob xs q => b.frzs c ob xs (a.frzs c ob xs q)
  tbls := fun c ps q => by
    obtain ⟨m1, e1⟩ := a.tbls c ps q
    obtain ⟨m2, e2⟩ := b.tbls c _ e1
    exact ⟨m1 ++ m2, by rw [e2, Array.append_assoc]⟩
theorem Un.kept (k : ∀ b u, h.get? b = some u → h'.get? b = some u) : Un fs ex H H h h' :=
  ⟨fun b ob q _ _ _ => k b ob q, fun b ob q _ _ _ => ⟨ob.slots, k b ob q⟩, fun _ _ _ n _ => n, fun b ob q _ => ⟨ob, k b ob q⟩, fun _ _ q => q, fun _ _ _ q => q, fun _ ps q => ⟨#[], by rw [q]; simp⟩⟩
theorem Un.refl : Un fs ex H H h h := Un.kept fun _ _ q => q
theorem Un.laid (k : ∀ b u, h.get? b = some u → h'.get? b = some u) (hp : h.objs.size ≤ a) (hn : H a = none) : Un fs ex H (upd H a o) h h' where
  keep := fun b u q _ _ _ => k b u q
  slot := fun b u q _ _ _ => ⟨u.slots, k b u q⟩
  free := fun b u q n _ => by rw [upd_ne (Nat.ne_of_lt (Nat.lt_of_lt_of_le (Heap.lt_size q) hp))]; exact n
  there := fun b u q _ => ⟨u, k b u q⟩
  tups := fun b xs q => by rw [upd_ne (ne_of_none q hn)]; exact q
  frzs := fun b u xs q => by rw [upd_ne (ne_of_none q hn)]; exact q
  tbls := fun b ps q => ⟨#[], by rw [upd_ne (ne_of_none q hn), q]; simp⟩
theorem Un.write (mu : Mut (H x)) (he : e = x ∨ H e = some (.own x)) (k : ∀ b u, b ≠ e → h.get? b = some u → h'.get? b = some u) (heo : ∃ u, h'.get? e = some u) : Un fs ex H (upd H x o) h h' := by
  have hx : ∀ b, H b = none → b ≠ x := fun b n z => by subst z; rw [n] at mu; exact mu
  have hb : ∀ b, H b = none → b ≠ e := fun b n z => by
    subst z
    rcases he with r | r
    · exact hx b n r
    · rw [n] at r; cases r
  have hm : ∀ b u, H b = some u → ¬ Mut (some u) → b ≠ x := fun b u q nm z => by subst z; rw [q] at mu; exact nm mu
  refine ⟨fun b u q n _ _ => k b u (hb b n) q, fun b u q n _ _ => ⟨u.slots, k b u (hb b n) q⟩, fun b u q n _ => by rw [upd_ne (hx b n)]; exact n, fun b u q _ => ?_,
    fun b xs q => by rw [upd_ne (hm b _ q fun z => z)]; exact q, fun b u xs q => by rw [upd_ne (hm b _ q fun z => z)]; exact q, fun b ps q => ⟨#[], by rw [upd_ne (hm b _ q fun z => z), q]; simp⟩⟩
  by_cases hbe : b = e
  · subst hbe; exact heo
  · exact ⟨u, k b u hbe q⟩
theorem Un.mono (u : Un fs ex H H1 h h1) (hs : ∀ b ∈ fs, b ∈ fs') (hx : ∀ b ∈ ex, b ∈ ex') : Un fs' ex' H H1 h h1 :=
  ⟨fun b ob q n hb he => u.keep b ob q n (fun z => hb (hs b z)) fun z => he (hx b z), fun _ _ q n _ he => u.any q n fun z => he (hx _ z), fun b ob q n he => u.free b ob q n fun z => he (hx b z), fun b ob q he => u.there b ob q fun z => he (hx b z), u.tups, u.frzs, u.tbls⟩
end

/-! ### the heap without what is tracked -/
def trk (h : Heap) (H : Hp) : List Addr := (List.range h.objs.size).filter fun a => (H a).isSome
def hidT (h : Heap) (H : Hp) : Heap := PySem.W.hideAll h (trk h H)
theorem hidT_size (h : Heap) (H : Hp) : (hidT h H).objs.size = h.objs.size := PySem.W.hideAll_size _ _
theorem hidT_get {h : Heap} {H : Hp} {b : Addr} {o : Obj} (e : h.get? b = some o) (n : H b = none) : (hidT h H).get? b = some o :=
  PySem.W.hideAll_get _ e fun hm => by
    have q : (H b).isSome = true := (List.mem_filter.mp hm).2
    rw [n] at q; simp at q
theorem of_hidT {h : Heap} {H : Hp} {b : Addr} {o : Obj} (e : (hidT h H).get? b = some o) : h.get? b = some o ∧ H b = none := by
  have e' : h.get? b = some o := PySem.W.of_hideAll (trk h H) e
  refine ⟨e', ?_⟩
  cases q : H b with
  | none => rfl
  | some x =>
    have hm : b ∈ trk h H := List.mem_filter.mpr ⟨List.mem_range.mpr (Heap.lt_size e'), by simp [q]⟩
    have z : (hidT h H).get? b = none := PySem.W.hideAll_none (trk h H) hm
    rw [z] at e; cases e

/-! ### OpenK's ledger, filled with every new object but one -/
def allNews (g h : Heap) (L : Addr) : List (Addr × Obj) := (List.range h.objs.size).filterMap fun a => if a = L ∨ (g.get? a).isSome = true then none else (h.get? a).map fun o => (a, o)
def rest (g h : Heap) (L d : Addr) : List (Addr × Obj) := (allNews g h L).filter fun p => decide (p.1 ≠ d)
end L2

namespace L2
open PySem PySem.Spec PyProof.Rows

/-- the module's facts, over the base: the heap at the law's entry without what is tracked there -/
structure Mod (K : PySem.W.Frag) (mg : Str → Option Value) (base : Heap) : Prop where
  kin : K.In base
  glob : base.Ns mainGlobals mg
  blt : ∃ mb, base.Ns builtinsNs mb ∧ ∀ x : Str, x ≠ "__name__" → mb x = bootBuiltins x
  nolimit : base.NoLimit

/-- the context: a def's body (or a comprehension's block) running. base: fixed through the whole law; s₀, H₀: the entry; outer: the frames whose slots others may change (a def's callers); stack: all frames that run;
   ex: iterators that were made ahead of the entry and are walked here (a comprehension's); fn: the names whose cells were made at the entry (a def: all; a comprehension's block: its own); calm: not within an except suite; pn: pins that every state bears; xe: what is wanted of an exception that leaves the code -/
structure Cx where
  prog : Program
  w : World
  K : PySem.W.Frag
  mg : Str → Option Value
  base : Heap
  A : Around
  N : List Str
  s₀ : Shared
  H₀ : Hp
  env : Env
  outer : List Env
  stack : List Env
  ex : List Addr
  fn : Str → Bool
  calm : Bool
  pn : List (Addr × Obj)
  xe : Value → Shared → Prop
/-- the callers' frames -/
def frs (l : List Env) : List Addr := l.filterMap (·.frame)
abbrev Cx.fs (X : Cx) : List Addr := frs X.outer

def Vis (sc : Scope) (x : Str) : Prop := sc.names.lookup x = some .local ∨ sc.names.lookup x = some .cell ∨ sc.names.lookup x = some .free
def Loc (sc : Scope) (x : Str) : Prop := sc.names.lookup x = some .local ∨ sc.names.lookup x = some .cell
def Look (env : Env) (h : Heap) (m : Str → Option Value) (x : Str) (u : Value) : Prop :=
  (env.kindOf x = some .local ∧ m x = some u) ∨ ((env.kindOf x = some .cell ∨ env.kindOf x = some .free) ∧ ∃ c, env.cells.lookup x = some c ∧ h.IsCell c (some u))

structure Cx.Ok (X : Cx) : Prop where
  mod : Mod X.K X.mg X.base
  kind : X.env.scope.kind = .function
  glob : X.env.globals = mainGlobals
  blt : X.env.builtins = builtinsNs
  above : X.s₀.heap.objs.size ≤ X.env.locals
  inj : ∀ x y c, X.env.cells.lookup x = some c → X.env.cells.lookup y = some c → x = y
  has : ∀ x, (X.env.kindOf x = some .cell ∨ X.env.kindOf x = some .free) → ∃ c, X.env.cells.lookup x = some c
  cab : ∀ x c, X.fn x = true → X.env.cells.lookup x = some c → X.s₀.heap.objs.size ≤ c
  hd : X.calm = true → X.A.handled = none
  frames : X.A.frames = some X.stack
  stk : X.stack = X.outer ∨ (X.stack = X.env :: X.outer ∧ X.env.frame = some X.env.locals)
  exf : ∀ b ∈ X.ex, b ≠ X.env.locals ∧ ∀ x c, X.env.cells.lookup x = some c → c ≠ b
  bs : ∀ b o, X.base.get? b = some o → X.s₀.heap.get? b = some o ∧ X.H₀ b = none
  bsz : X.base.objs.size ≤ X.s₀.heap.objs.size
  noex : ∀ b o, X.base.get? b = some o → b ∉ X.ex
  exfs : ∀ b ∈ X.ex, b ∉ X.fs
  funs : X.s₀.heap.FunFrames X.base X.outer
  frf : ∀ b ∈ X.fs, X.H₀ b = none

structure Inv (X : Cx) (pins : List (Addr × Obj)) (σ : List (Option V)) (H : Hp) (s : Shared) : Prop where
  ok : X.Ok
  os : s.os = X.s₀.os
  bare : AllBare s.gens
  base : Un X.fs X.ex X.H₀ H X.s₀.heap s.heap
  loc : ∃ m, s.heap.Ns X.env.locals m ∧ ∀ (i : Nat) (x : Str) (v : V), X.N[i]? = some x → σ[i]? = some (some v) → Vis X.env.scope x → ∃ u, RelV v u ∧ Look X.env s.heap m x u
  cell : ∀ x c, X.env.cells.lookup x = some c → ∃ v, s.heap.IsCell c v
  free : H X.env.locals = none
  freeC : ∀ x c, X.env.cells.lookup x = some c → H c = none
  pin : ∀ p ∈ X.pn ++ pins, s.heap.get? p.1 = some p.2 ∧ H p.1 = none ∧ p.1 ≠ X.env.locals ∧ p.1 ∉ X.fs ∧ ∀ v, p.2.data ≠ .cell v
  hok : HOk X.prog X.w H s.heap
  len : σ.length = X.N.length

section
variable {X : Cx} {pins : List (Addr × Obj)} {σ : List (Option V)} {H H' : Hp} {s : Shared} {h' : Heap}

theorem Cx.Ok.nofr (ok : X.Ok) {b : Addr} {o : Obj} (e : X.base.get? b = some o) : b ∉ X.fs := fun hb => by
  have := (ok.funs.mem hb).1
  rw [e] at this; cases this
theorem Inv.bs (I : Inv X pins σ H s) : ∀ b o, X.base.get? b = some o → s.heap.get? b = some o ∧ H b = none := fun b o e =>
  ⟨I.base.keep b o (I.ok.bs b o e).1 (I.ok.bs b o e).2 (I.ok.nofr e) (I.ok.noex b o e), I.base.free b o (I.ok.bs b o e).1 (I.ok.bs b o e).2 (I.ok.noex b o e)⟩
theorem Inv.bk (I : Inv X pins σ H s) : ∀ b o, X.base.get? b = some o → s.heap.get? b = some o := fun b o e => (I.bs b o e).1
theorem Inv.mod (I : Inv X pins σ H s) : Mod X.K X.mg X.base := I.ok.mod
theorem Inv.kIn (I : Inv X pins σ H s) : X.K.In s.heap := I.ok.mod.kin.keeps I.bk
theorem Inv.nolimit (I : Inv X pins σ H s) : s.heap.NoLimit := I.ok.mod.nolimit.keeps I.bk
/-- the frame over the base: for OpenK's rules (K.In X.base is I.mod.kin) -/
theorem Inv.fr (I : Inv X pins σ H s) : ∃ m, Fr X.base X.env.locals s.heap m :=
  let ⟨m, hn, _⟩ := I.loc
  ⟨m, hn, I.bk, Nat.le_trans I.ok.bsz I.ok.above⟩
theorem Inv.lt (I : Inv X pins σ H s) : X.env.locals < s.heap.objs.size := let ⟨_, hn, _⟩ := I.loc; hn.lt
theorem Inv.sz (I : Inv X pins σ H s) : X.s₀.heap.objs.size ≤ s.heap.objs.size := Nat.le_trans I.ok.above (Nat.le_of_lt I.lt)
theorem Inv.nofs (I : Inv X pins σ H s) {a : Addr} (h : s.heap.objs.size ≤ a) : a ∉ X.fs := fun hb => by
  obtain ⟨_, o, ho, _⟩ := I.ok.funs.mem hb
  exact absurd (Nat.lt_of_lt_of_le (Heap.lt_size ho) (Nat.le_trans I.sz h)) (Nat.lt_irrefl _)
theorem Inv.cne (I : Inv X pins σ H s) : ∀ x c, X.env.cells.lookup x = some c → c ≠ X.env.locals := fun x c e z => by
  obtain ⟨v, o, ho, hd⟩ := I.cell x c e
  obtain ⟨m, ⟨o', es, ep, ho', hd', _⟩, _⟩ := I.loc
  rw [z, ho'] at ho; cases ho; rw [hd'] at hd; cases hd
theorem Inv.funs (I : Inv X pins σ H s) : s.heap.FunFrames X.base X.outer := by
  have all : ∀ (l : List Env), (∀ b ∈ frs l, b ∈ X.fs) → X.s₀.heap.FunFrames X.base l → s.heap.FunFrames X.base l := by
    intro l
    induction l with
    | nil => intro _ _; trivial
    | cons env r ih =>
      intro hs hl
      obtain ⟨hk, ⟨L, o, hf, hn, ho, hd⟩, hr⟩ := hl
      have hL : L ∈ X.fs := hs L (by unfold frs; rw [List.filterMap_cons, hf]; exact List.mem_cons_self)
      obtain ⟨sl, e⟩ := I.base.slot L o ho (I.ok.frf L hL) hL fun z => I.ok.exfs L z hL
      exact ⟨hk, ⟨L, _, hf, hn, e, hd⟩, ih (fun b hb => hs b (by unfold frs; rw [List.filterMap_cons, hf]; exact List.mem_cons_of_mem _ hb)) hr⟩
  exact all X.outer (fun _ hb => hb) I.ok.funs

/-- the frames that run, for a call -/
theorem Inv.stack (I : Inv X pins σ H s) : s.heap.FunFrames X.base X.stack := by
  rcases I.ok.stk with e | ⟨e, hf⟩
  · rw [e]; exact I.funs
  · rw [e]
    obtain ⟨m, hn, _⟩ := I.loc
    refine .cons (by rw [I.ok.kind]; decide) hf hn ?_ I.funs
    exact Heap.get?_none_of_le (Nat.le_trans I.ok.bsz I.ok.above)
theorem Inv.stkSub (I : Inv X pins σ H s) : ∀ b ∈ frs X.stack, b ∈ X.env.locals :: X.fs := fun b hb => by
  rcases I.ok.stk with e | ⟨e, hf⟩
  · rw [e] at hb; exact List.mem_cons_of_mem _ hb
  · rw [e] at hb
    unfold frs at hb
    rw [List.filterMap_cons, hf] at hb
    exact hb
theorem Inv.stkFree (I : Inv X pins σ H s) : ∀ b ∈ frs X.stack, H b = none := fun b hb => by
  rcases List.mem_cons.mp (I.stkSub b hb) with e | hb
  · rw [e]; exact I.free
  · obtain ⟨_, o, ho, _⟩ := I.ok.funs.mem hb
    exact I.base.free b o ho (I.ok.frf b hb) fun z => I.ok.exfs b z hb

/-- THE STEP: the untracked objects but the frame and the records at ch are kept (the callers' frames up to slots), the frame's map is kept, the new abstract heap is held -/
theorem Inv.step {g' : Array GenState} {t' : Nat} {d' : Drawn} {ch : List Addr} (I : Inv X pins σ H s)
    (hch : ∀ b ∈ ch, (b ∈ X.ex ∨ X.s₀.heap.objs.size ≤ b) ∧ b ≠ X.env.locals ∧ (∀ x c, X.env.cells.lookup x = some c → c ≠ b) ∧ ∀ p ∈ X.pn ++ pins, p.1 ≠ b)
    (keep : ∀ b o, b ≠ X.env.locals → b ∉ X.fs → b ∉ ch → s.heap.get? b = some o → H b = none → h'.get? b = some o)
    (slot : ∀ b o, b ≠ X.env.locals → b ∈ X.fs → b ∉ ch → s.heap.get? b = some o → H b = none → ∃ sl, h'.get? b = some { o with slots := sl }) (free : ∀ b o, b ∉ ch → s.heap.get? b = some o → H b = none → H' b = none)
    (there : ∀ b o, b ∉ ch → s.heap.get? b = some o → ∃ o', h'.get? b = some o')
    (tups : ∀ b xs, H b = some (.tup xs) → H' b = some (.tup xs)) (frzs : ∀ b o u, H b = some (.frz o u) → H' b = some (.frz o u)) (tbls : ∀ b ps, H b = some (.tbl ps) → ∃ more, H' b = some (.tbl (ps ++ more)))
    (ns : ∀ m, s.heap.Ns X.env.locals m → h'.Ns X.env.locals m) (hok : HOk X.prog X.w H' h') (hg : AllBare g') :
    Inv X pins σ H' { s with heap := h', gens := g', drawn := d', toks := t' } := by
  have neL : ∀ b o, X.s₀.heap.get? b = some o → b ≠ X.env.locals := fun b o e => Nat.ne_of_lt (Nat.lt_of_lt_of_le (Heap.lt_size e) I.ok.above)
  have neC : ∀ b o, X.s₀.heap.get? b = some o → b ∉ X.ex → b ∉ ch := fun b o e hx hb => by
    rcases (hch b hb).1 with z | z
    · exact hx z
    · exact absurd (Nat.lt_of_lt_of_le (Heap.lt_size e) z) (Nat.lt_irrefl _)
  have cellK : ∀ x c, X.env.cells.lookup x = some c → ∀ v, s.heap.IsCell c v → h'.IsCell c v := fun x c e v ⟨o, ho, hd⟩ => by
    have nch : c ∉ ch := fun z => (hch c z).2.2.1 x c e rfl
    by_cases hc : c ∈ X.fs
    · obtain ⟨sl, q⟩ := slot c o (I.cne x c e) hc nch ho (I.freeC x c e)
      exact ⟨_, q, hd⟩
    · exact ⟨o, keep c o (I.cne x c e) hc nch ho (I.freeC x c e), hd⟩
  refine ⟨I.ok, I.os, hg, ⟨fun b o e n hb hx => ?_, fun b o e n hb hx => ?_, fun b o e n hx => ?_, fun b o e hx => ?_, fun b xs e => tups b xs (I.base.tups b xs e), fun b o xs e => frzs b o xs (I.base.frzs b o xs e), fun b ps e => ?_⟩, ?_, fun x c e => ?_, ?_, fun x c e => ?_, fun p hp => ?_, hok, I.len⟩
  · exact keep b o (neL b o e) hb (neC b o e hx) (I.base.keep b o e n hb hx) (I.base.free b o e n hx)
  · obtain ⟨sl, e1⟩ := I.base.slot b o e n hb hx
    obtain ⟨sl', e2⟩ := slot b _ (neL b o e) hb (neC b o e hx) e1 (I.base.free b o e n hx)
    exact ⟨sl', e2⟩
  · obtain ⟨o', e1⟩ := I.base.there b o e hx
    exact free b o' (neC b o e hx) e1 (I.base.free b o e n hx)
  · obtain ⟨o', e1⟩ := I.base.there b o e hx
    exact there b o' (neC b o e hx) e1
  · obtain ⟨m1, e1⟩ := I.base.tbls b ps e
    obtain ⟨m2, e2⟩ := tbls b _ e1
    exact ⟨m1 ++ m2, by rw [e2, Array.append_assoc]⟩
  · obtain ⟨m, hn, hl⟩ := I.loc
    refine ⟨m, ns m hn, fun i x v e1 e2 e3 => ?_⟩
    obtain ⟨u, r, l⟩ := hl i x v e1 e2 e3
    refine ⟨u, r, ?_⟩
    rcases l with l | ⟨k, c, e, z⟩
    · exact .inl l
    · exact .inr ⟨k, c, e, cellK x c e _ z⟩
  · obtain ⟨v, z⟩ := I.cell x c e
    exact ⟨v, cellK x c e v z⟩
  · obtain ⟨m, ⟨o, _, _, ho, _⟩, _⟩ := I.loc
    exact free _ o (fun z => (hch _ z).2.1 rfl) ho I.free
  · obtain ⟨v, o, ho, hd⟩ := I.cell x c e
    exact free c o (fun z => (hch c z).2.2.1 x c e rfl) ho (I.freeC x c e)
  · obtain ⟨e, n, ne, nf, d⟩ := I.pin p hp
    have nch : p.1 ∉ ch := fun z => (hch p.1 z).2.2.2 p hp rfl
    exact ⟨keep p.1 p.2 ne nf nch e n, free p.1 p.2 nch e n, ne, nf, d⟩
/-- .. where the frame's own object is kept too -/
theorem Inv.un {t' : Nat} (I : Inv X pins σ H s) (u : Un X.fs [] H H' s.heap h') (hok : HOk X.prog X.w H' h') : Inv X pins σ H' { s with heap := h', toks := t' } := by
  obtain ⟨m, ⟨o, es, ep, ho, r⟩, _⟩ := id I.loc
  obtain ⟨sl, hL⟩ := u.any ho I.free (by simp)
  exact I.step (g' := s.gens) (d' := s.drawn) (ch := []) (fun _ z => nomatch z) (fun b o _ hb _ e n => u.keep b o e n hb (by simp)) (fun b o _ hb _ e n => u.slot b o e n hb (by simp)) (fun b o _ e n => u.free b o e n (by simp)) (fun b o _ e => u.there b o e (by simp)) u.tups u.frzs u.tbls (fun m' hm => by
    obtain ⟨o', es', ep', ho', r'⟩ := hm
    rw [ho] at ho'; cases ho'
    exact ⟨_, es', ep', hL, r'⟩) hok I.bare
/-- behind a call (or a comprehension's block): the slots of this frame may have changed too, the records at ch may have turned -/
theorem Inv.call {g' : Array GenState} {t' : Nat} {d' : Drawn} {ch : List Addr} (I : Inv X pins σ H s) (u : Un (frs X.stack) ch H H' s.heap h') (hok : HOk X.prog X.w H' h') (hg : AllBare g')
    (hch : ∀ b ∈ ch, (b ∈ X.ex ∨ X.s₀.heap.objs.size ≤ b) ∧ b ≠ X.env.locals ∧ (∀ x c, X.env.cells.lookup x = some c → c ≠ b) ∧ ∀ p ∈ X.pn ++ pins, p.1 ≠ b) :
    Inv X pins σ H' { s with heap := h', gens := g', drawn := d', toks := t' } := by
  obtain ⟨m, ⟨o, es, ep, ho, r⟩, _⟩ := id I.loc
  obtain ⟨sl, hL⟩ := u.any ho I.free fun z => (hch _ z).2.1 rfl
  exact I.step (ch := ch) hch (fun b o hL hb hc e n => u.keep b o e n (fun z => (List.mem_cons.mp (I.stkSub b z)).elim hL hb) hc) (fun b o _ _ hc e n => u.any e n hc) (fun b o hc e n => u.free b o e n hc) (fun b o hc e => u.there b o e hc) u.tups u.frzs u.tbls (fun m' hm => by
    obtain ⟨o', es', ep', ho', r'⟩ := hm
    rw [ho] at ho'; cases ho'
    exact ⟨_, es', ep', hL, r'⟩) hok hg
/-- an untracked record of ours (an iterator) has turned -/
theorem Inv.turned {t' : Nat} {it : Addr} (I : Inv X pins σ H s) (k : ∀ b o, b ≠ it → s.heap.get? b = some o → h'.get? b = some o) (hn : H it = none) (hL : it ≠ X.env.locals)
    (h1 : it ∈ X.ex ∨ X.s₀.heap.objs.size ≤ it) (h2 : ∀ x c, X.env.cells.lookup x = some c → c ≠ it) (h3 : ∀ p ∈ X.pn ++ pins, p.1 ≠ it) : Inv X pins σ H { s with heap := h', toks := t' } := by
  have nit : ∀ b u, H b = some u → b ≠ it := fun b u e z => by rw [z, hn] at e; cases e
  refine I.step (g' := s.gens) (d' := s.drawn) (ch := [it]) (fun b hb => ?_) (fun b o _ _ hc e _ => k b o (fun z => hc (by simp [z])) e) (fun b o _ _ hc e _ => ⟨o.slots, k b o (fun z => hc (by simp [z])) e⟩) (fun _ _ _ _ n => n)
    (fun b o hc e => ⟨o, k b o (fun z => hc (by simp [z])) e⟩) (fun _ _ e => e) (fun _ _ _ e => e) (fun b ps e => ⟨#[], by rw [e]; simp⟩) (fun m hm => ?_) (fun b u e => ?_) I.bare
  · have e : b = it := by simpa using hb
    subst e
    exact ⟨h1, hL, h2, h3⟩
  · obtain ⟨o, es, ep, ho, r⟩ := hm
    exact ⟨o, es, ep, k _ o (Ne.symm hL) ho, r⟩
  · refine (I.hok b u e).stay (fun c v hc q => k c v ?_ q) (fun _ q => q) fun _ _ q => q
    rcases hc with z | z
    · rw [z]; exact nit b u e
    · exact nit c _ z
theorem Inv.tok (I : Inv X pins σ H s) (t : Nat) : Inv X pins σ H { s with toks := t } := I.un (h' := s.heap) (t' := t) Un.refl I.hok
/-- all objects kept -/
theorem Inv.kept {t' : Nat} (I : Inv X pins σ H s) (k : ∀ b u, s.heap.get? b = some u → h'.get? b = some u) : Inv X pins σ H { s with heap := h', toks := t' } := I.un (Un.kept k) (I.hok.kept k)
/-- a new object laid and tracked -/
theorem Inv.laid {a : Addr} {o : HO} {t' : Nat} (I : Inv X pins σ H s) (k : ∀ b u, s.heap.get? b = some u → h'.get? b = some u) (hp : s.heap.objs.size ≤ a) (new : ObjOk X.prog X.w (upd H a o) h' a o) :
    Inv X pins σ (upd H a o) { s with heap := h', toks := t' } := I.un (Un.laid k hp (I.hok.fresh hp)) (I.hok.laid k hp new)
/-- an object written -/
theorem Inv.write {x e : Addr} {o : HO} {t' : Nat} (I : Inv X pins σ H s) (mu : Mut (H x)) (he : e = x ∨ H e = some (.own x)) (k : ∀ b u, b ≠ e → s.heap.get? b = some u → h'.get? b = some u) (heo : ∃ u, h'.get? e = some u)
    (new : ObjOk X.prog X.w (upd H x o) h' x o) : Inv X pins σ (upd H x o) { s with heap := h', toks := t' } := I.un (Un.write mu he k heo) (I.hok.write mu he k heo new)
theorem Inv.pins_of {pins' : List (Addr × Obj)} (I : Inv X pins σ H s) (h : ∀ p ∈ pins', s.heap.get? p.1 = some p.2 ∧ H p.1 = none ∧ p.1 ≠ X.env.locals ∧ p.1 ∉ X.fs ∧ ∀ v, p.2.data ≠ .cell v) : Inv X pins' σ H s :=
  ⟨I.ok, I.os, I.bare, I.base, I.loc, I.cell, I.free, I.freeC, fun p hp => (List.mem_append.mp hp).elim (fun z => I.pin p (List.mem_append_left _ z)) (h p), I.hok, I.len⟩

theorem nodup_ix {N : List Str} (hN : N.Nodup) {i j : Nat} {x : Str} (a : N[i]? = some x) (b : N[j]? = some x) : i = j := by
  obtain ⟨h1, e1⟩ := List.getElem?_eq_some_iff.mp a
  obtain ⟨h2, e2⟩ := List.getElem?_eq_some_iff.mp b
  exact (List.getElem_inj hN).mp (e1.trans e2.symm)

/-- a name is stored; what changed -/
theorem store_ok2 {M : Model} {A : Around} {E : Value → Shared → Prop} {i : Nat} {x : Str} {v : V} {u : Value} {Q : Unit → Shared → Prop} (I : Inv X pins σ H s) (hN : X.N.Nodup) (hi : X.N[i]? = some x) (hx : Loc X.env.scope x) (r : RelV v u)
    (h : ∀ s', Inv X pins (σ.set i (some v)) H s' → (∃ a, Heap.SameBut a s.heap s'.heap ∧ (a = X.env.locals ∨ X.env.cells.lookup x = some a)) → Q () s') (hf : X.fn x = true ∨ X.env.scope.names.lookup x = some .local := by first | exact .inl rfl | exact .inr rfl | assumption) : wpAny M A (storeName X.env x u) Q E s := by
  obtain ⟨m, hn, hl⟩ := id I.loc
  have hcls : (X.env.scope.kind == .class || (X.env.scope.kind == .module && X.env.locals != X.env.globals)) = false := by rw [I.ok.kind]; rfl
  have hiσ : i < σ.length := by rw [I.len]; exact (List.getElem?_eq_some_iff.mp hi).1
  have cne := I.cne
  have tracked : ∀ {a : Addr} {h' : Heap}, (∃ o, s.heap.get? a = some o ∧ H a = none) → Heap.SameBut a s.heap h' → HOk X.prog X.w H h' := fun {a h'} ha hs b ob e => by
    obtain ⟨_, _, hfree⟩ := ha
    refine (I.hok b ob e).stay (fun c w' hc q => (hs.2 c ?_).trans q) (fun _ q => q) fun _ _ q => q
    rintro rfl
    rcases hc with rfl | hc
    · rw [hfree] at e; cases e
    · rw [hfree] at hc; cases hc
  rcases hx with hk | hk
  · refine wpAny_storeName_local hk hn (fun h' hn' hs => ?_) hcls
    obtain ⟨oL, _, _, hoL, _⟩ := id hn
    refine h _ ⟨I.ok, I.os, I.bare, ⟨fun b o e n hb hx => ?_, fun b o e n hb hx => ?_, I.base.free, fun b o e hx => ?_, I.base.tups, I.base.frzs, I.base.tbls⟩, ⟨_, hn', fun j y v' e1 e2 e3 => ?_⟩, fun y c e => ?_, I.free, I.freeC, fun p hp => ?_, tracked ⟨oL, hoL, I.free⟩ hs, by simpa using I.len⟩ ⟨_, hs, .inl rfl⟩
    · exact (hs.2 b (Nat.ne_of_lt (Nat.lt_of_lt_of_le (Heap.lt_size e) I.ok.above))).trans (I.base.keep b o e n hb hx)
    · obtain ⟨sl, e1⟩ := I.base.slot b o e n hb hx
      exact ⟨sl, (hs.2 b (Nat.ne_of_lt (Nat.lt_of_lt_of_le (Heap.lt_size e) I.ok.above))).trans e1⟩
    · obtain ⟨o', e1⟩ := I.base.there b o e hx
      exact ⟨o', (hs.2 b (Nat.ne_of_lt (Nat.lt_of_lt_of_le (Heap.lt_size e) I.ok.above))).trans e1⟩
    · by_cases hj : j = i
      · subst hj
        rw [hi] at e1; cases e1
        rw [List.getElem?_set_self hiσ] at e2
        cases e2
        exact ⟨u, r, .inl ⟨hk, by simp⟩⟩
      · rw [List.getElem?_set_ne (Ne.symm hj)] at e2
        obtain ⟨u', r', q⟩ := hl j y v' e1 e2 e3
        refine ⟨u', r', ?_⟩
        rcases q with ⟨k, e⟩ | ⟨k, c, e, z⟩
        · refine .inl ⟨k, ?_⟩
          have : y ≠ x := fun e => hj (nodup_ix hN e1 (e ▸ hi))
          simp [this, e]
        · exact .inr ⟨k, c, e, z.sameBut hs (cne y c e)⟩
    · obtain ⟨w', z⟩ := I.cell y c e
      exact ⟨w', z.sameBut hs (cne y c e)⟩
    · obtain ⟨e, n, ne, nf, d⟩ := I.pin p hp
      exact ⟨(hs.2 p.1 ne).trans e, n, ne, nf, d⟩
  · have hfn : X.fn x = true := by
      rcases hf with z | z
      · exact z
      · rw [z] at hk; cases hk
    obtain ⟨c, hc⟩ := I.ok.has x (.inl hk)
    obtain ⟨w', z⟩ := I.cell x c hc
    refine wpAny_storeName_cell I.ok.kind hk hc z (fun h' hc' hs => ?_)
    obtain ⟨oc, hoc, hocd⟩ := id z
    refine h { s with heap := h' } ⟨I.ok, I.os, I.bare, ⟨fun b o e n hb hx => ?_, fun b o e n hb hx => ?_, I.base.free, fun b o e hx => ?_, I.base.tups, I.base.frzs, I.base.tbls⟩, ⟨m, hn.sameBut hs (Ne.symm (cne x c hc)), fun j y v' e1 e2 e3 => ?_⟩, fun y c' e => ?_, I.free, I.freeC, fun p hp => ?_, tracked ⟨oc, hoc, I.freeC x c hc⟩ hs, by simpa using I.len⟩ ⟨c, hs, .inr hc⟩
    · exact (hs.2 b (Nat.ne_of_lt (Nat.lt_of_lt_of_le (Heap.lt_size e) (I.ok.cab x c hfn hc)))).trans (I.base.keep b o e n hb hx)
    · obtain ⟨sl, e1⟩ := I.base.slot b o e n hb hx
      exact ⟨sl, (hs.2 b (Nat.ne_of_lt (Nat.lt_of_lt_of_le (Heap.lt_size e) (I.ok.cab x c hfn hc)))).trans e1⟩
    · obtain ⟨o', e1⟩ := I.base.there b o e hx
      exact ⟨o', (hs.2 b (Nat.ne_of_lt (Nat.lt_of_lt_of_le (Heap.lt_size e) (I.ok.cab x c hfn hc)))).trans e1⟩
    · by_cases hj : j = i
      · subst hj
        rw [hi] at e1; cases e1
        rw [List.getElem?_set_self hiσ] at e2
        cases e2
        exact ⟨u, r, .inr ⟨.inl hk, c, hc, hc'⟩⟩
      · rw [List.getElem?_set_ne (Ne.symm hj)] at e2
        obtain ⟨u', r', q⟩ := hl j y v' e1 e2 e3
        refine ⟨u', r', ?_⟩
        rcases q with q | ⟨k, c', e, z'⟩
        · exact .inl q
        · refine .inr ⟨k, c', e, z'.sameBut hs ?_⟩
          rintro rfl
          exact hj (nodup_ix hN e1 (I.ok.inj _ _ _ e hc ▸ hi))
    · by_cases hcc : c' = c
      · subst hcc; exact ⟨_, hc'⟩
      · obtain ⟨w2, z2⟩ := I.cell y c' e
        exact ⟨w2, z2.sameBut hs hcc⟩
    · obtain ⟨e, n, ne, nf, d⟩ := I.pin p hp
      refine ⟨(hs.2 p.1 ?_).trans e, n, ne, nf, d⟩
      intro q
      rw [q, hoc] at e
      have q' : oc = p.2 := Option.some.inj e
      exact d w' (by rw [← q']; exact hocd)
theorem store_ok {M : Model} {A : Around} {E : Value → Shared → Prop} {i : Nat} {x : Str} {v : V} {u : Value} {Q : Unit → Shared → Prop} (I : Inv X pins σ H s) (hN : X.N.Nodup) (hi : X.N[i]? = some x) (hx : Loc X.env.scope x) (r : RelV v u)
    (h : ∀ s', Inv X pins (σ.set i (some v)) H s' → Q () s') (hf : X.fn x = true ∨ X.env.scope.names.lookup x = some .local := by first | exact .inl rfl | exact .inr rfl | assumption) : wpAny M A (storeName X.env x u) Q E s :=
  store_ok2 I hN hi hx r (fun s' I' _ => h s' I') hf
end

/-! ### the judgements -/
/-- an exception: its class, its own dict's address (where it has one), the abstract heap behind it -/
abbrev XK := Value → Option Addr → Hp → Prop
abbrev St := List (Option V)
abbrev VK := V → Hp → Prop
/-- an expression's reading; a test's; an argument list's -/
abbrev TE := St → Hp → VK → Prop
abbrev TT := St → Hp → (Bool → Hp → Prop) → Prop
abbrev TA := St → Hp → (List V → Hp → Prop) → Prop
/-- what is wanted behind a statement -/
structure Ends where
  nx : St → Hp → Prop
  rt : VK
  bk : St → Hp → Prop := fun _ _ => False
  ct : St → Hp → Prop := fun _ _ => False
abbrev TS := Ends → St → Hp → Prop

def EP (X : Cx) (pins : List (Addr × Obj)) (σ : St) (Q : VK) (u : Value) (s' : Shared) : Prop := ∃ v H', Inv X pins σ H' s' ∧ RelV v u ∧ Q v H'
def TP (X : Cx) (pins : List (Addr × Obj)) (σ : St) (Q : Bool → Hp → Prop) (b : Bool) (s' : Shared) : Prop := ∃ H', Inv X pins σ H' s' ∧ Q b H'
def AP (X : Cx) (pins : List (Addr × Obj)) (σ : St) (Q : List V → Hp → Prop) (us : List Value) (s' : Shared) : Prop := ∃ vs H', Inv X pins σ H' s' ∧ Vals vs us ∧ Q vs H'
def SP (X : Cx) (pins : List (Addr × Obj)) (D : Ends) (f : Flow) (s' : Shared) : Prop :=
  match f with
  | .next => ∃ σ' H', Inv X pins σ' H' s' ∧ D.nx σ' H'
  | .brk => ∃ σ' H', Inv X pins σ' H' s' ∧ D.bk σ' H'
  | .cont => ∃ σ' H', Inv X pins σ' H' s' ∧ D.ct σ' H'
  | .ret u => ∃ v σ' H', Inv X pins σ' H' s' ∧ RelV v u ∧ D.rt v H'

def PE (X : Cx) (e : Expr) (t : TE) : Prop :=
  ∀ (pins : List (Addr × Obj)) (s : Shared) (σ : St) (H : Hp) (Q : VK), Inv X pins σ H s → t σ H Q → wpAny (model X.prog X.w) X.A (eval e X.env) (EP X pins σ Q) X.xe s
def PT (X : Cx) (e : Expr) (t : TT) : Prop :=
  ∀ (pins : List (Addr × Obj)) (s : Shared) (σ : St) (H : Hp) (Q : Bool → Hp → Prop), Inv X pins σ H s → t σ H Q → wpAny (model X.prog X.w) X.A (isTrue e X.env (eval e X.env)) (TP X pins σ Q) X.xe s
/-- a test whatever its 'whole' is (and, or) -/
def PW (X : Cx) (e : Expr) (t : TT) : Prop :=
  ∀ (whole : Sem Value) (pins : List (Addr × Obj)) (s : Shared) (σ : St) (H : Hp) (Q : Bool → Hp → Prop), Inv X pins σ H s → t σ H Q → wpAny (model X.prog X.w) X.A (isTrue e X.env whole) (TP X pins σ Q) X.xe s
theorem PW.pt {X : Cx} {e : Expr} {t : TT} (h : PW X e t) : PT X e t := h _
/-- an argument list (no star), from the left -/
def PA (X : Cx) (es : List Expr) (t : TA) : Prop :=
  ∀ (pos : Pos) (pins : List (Addr × Obj)) (s : Shared) (σ : St) (H : Hp) (Q : List V → Hp → Prop), Inv X pins σ H s → t σ H Q → wpAny (model X.prog X.w) X.A (spliced (backTo pos (starEach es X.env))) (AP X pins σ Q) X.xe s
def PS (X : Cx) (st : Stmt) (t : TS) : Prop :=
  ∀ (pins : List (Addr × Obj)) (s : Shared) (σ : St) (H : Hp) (D : Ends), Inv X pins σ H s → t D σ H → wpAny (model X.prog X.w) X.A (exec st X.env) (SP X pins D) X.xe s
def PSs (X : Cx) (st : List Stmt) (t : TS) : Prop :=
  ∀ (pins : List (Addr × Obj)) (s : Shared) (σ : St) (H : Hp) (D : Ends), Inv X pins σ H s → t D σ H → wpAny (model X.prog X.w) X.A (execs st X.env) (SP X pins D) X.xe s
/-- weaken the end -/
theorem thn {α : Type} {t : Sem α} {Q Q' : α → Shared → Prop} {M : Model} {A : Around} {E : Value → Shared → Prop} {s : Shared} (h : wpAny M A t Q E s) (hQ : ∀ a s, Q a s → Q' a s) : wpAny M A t Q' E s := wpAny_mono h hQ fun _ _ x => x
end L2

namespace L2
open PySem PySem.Spec PyProof.Rows
section
variable {X : Cx}

/-- two expressions in a row -/
theorem bin {a b : Expr} {ta tb : TE} (ha : PE X a ta) (hb : PE X b tb) {pins : List (Addr × Obj)} {s : Shared} {σ : St} {H : Hp} {R : V → V → Hp → Prop} (I : Inv X pins σ H s) (h : ta σ H fun x H1 => tb σ H1 fun y H2 => R x y H2)
    {α : Type} {Q : α → Shared → Prop} {f : Value → Value → Sem α}
    (hf : ∀ v u s2 x y H2, Inv X pins σ H2 s2 → RelV x v → RelV y u → R x y H2 → wpAny (model X.prog X.w) X.A (f v u) Q X.xe s2) :
    wpAny (model X.prog X.w) X.A (eval a X.env) (fun v s₁ => wpAny (model X.prog X.w) X.A (eval b X.env) (fun u s₂ => wpAny (model X.prog X.w) X.A (f v u) Q X.xe s₂) X.xe s₁) X.xe s := by
  refine thn (ha pins s σ H _ I h) fun v s1 ⟨x, H1, I1, r1, q1⟩ => ?_
  refine thn (hb pins s1 σ H1 _ I1 q1) fun u s2 ⟨y, H2, I2, r2, q2⟩ => ?_
  exact hf v u s2 x y H2 I2 r1 r2 q2

/-! ### names and constants -/
def tVar (i : Nat) : TE := fun σ H Q => ∃ v, σ[i]? = some (some v) ∧ Q v H
def tC (v : V) : TE := fun _ H Q => Q v H
theorem pe_var {i : Nat} {x : Str} {pos : Pos} (hN : X.N[i]? = some x) (hv : Vis X.env.scope x) (hd : (x == ("__debug__" : Str)) = false := by decide) (hcd : (x == ("__classdict__" : Str)) = false := by decide) : PE X (.Name x pos) (tVar i) := by
  intro pins s σ H Q I h
  obtain ⟨v, e, h⟩ := h
  obtain ⟨m, hn, hl⟩ := I.loc
  obtain ⟨u, r, l⟩ := hl i x v hN e hv
  have fin : EP X pins σ Q u s := ⟨v, H, I, r, h⟩
  rcases l with ⟨hk, hm⟩ | ⟨hk, c, hc, hcell⟩
  · exact wpAny_Name (wpAny_loadName_local I.ok.kind hk hn hm fin) hd
  · rcases hk with hk | hk
    · exact wpAny_Name (wpAny_loadName_cell I.ok.kind hk hc hcell fin) hd
    · exact wpAny_Name (wpAny_loadName_free I.ok.kind hk hc hcell fin hcd) hd
theorem pe_int {i j pos} : PE X (.Constant (.int i) j pos) (tC (.int i)) := fun _ _ _ H _ I h => wpAny_Constant_int ⟨.int i, H, I.tok _, ⟨_, rfl⟩, h⟩
theorem pe_bl {b j pos} : PE X (.Constant (.bool b) j pos) (tC (.bl b)) := fun _ _ _ H _ I h => Constant_bool ⟨.bl b, H, I, rfl, h⟩
theorem pe_str {x j pos} : PE X (.Constant (.str x) j pos) (tC (.str x)) := fun _ _ _ H _ I h => Calls.Constant_str ⟨.str x, H, I.tok _, ⟨_, rfl⟩, h⟩

/-- a global name of the def -/
def Gl (X : Cx) (x : Str) : Prop := X.env.kindOf x = some .globalImplicit
theorem ld_glob {E : Value → Shared → Prop} {pins : List (Addr × Obj)} {s : Shared} {σ : St} {H : Hp} {x : Str} {u : Value} {pos : Pos} {Q : Value → Shared → Prop} (I : Inv X pins σ H s) (hg : Gl X x) (hm : X.mg x = some u) (h : Q u s)
    (hd : (x == ("__debug__" : Str)) = false := by decide) : wpAny (model X.prog X.w) X.A (eval (.Name x pos) X.env) Q E s :=
  Calls.Name_function_global I.ok.kind hg (Calls.loadGlobal_global (by rw [I.ok.glob]; exact I.mod.glob.keeps I.bk) hm h) hd
theorem ld_blt {E : Value → Shared → Prop} {pins : List (Addr × Obj)} {s : Shared} {σ : St} {H : Hp} {x : Str} {u : Value} {pos : Pos} {Q : Value → Shared → Prop} (I : Inv X pins σ H s) (hg : Gl X x) (hm : X.mg x = none) (hv : bootBuiltins x = some u) (h : Q u s)
    (hn : x ≠ "__name__" := by decide) (hd : (x == ("__debug__" : Str)) = false := by decide) : wpAny (model X.prog X.w) X.A (eval (.Name x pos) X.env) Q E s := by
  obtain ⟨mb, h1, h2⟩ := I.mod.blt
  exact Calls.Name_function_global I.ok.kind hg (Calls.loadGlobal_builtin (by rw [I.ok.glob]; exact I.mod.glob.keeps I.bk) hm (by rw [I.ok.blt]; exact h1.keeps I.bk) ((h2 x hn).trans hv) h) hd
/-- a module's constant, a class, a function, as a value -/
theorem pe_glob {x : Str} {v : V} {u : Value} {pos : Pos} (hg : Gl X x) (hm : X.mg x = some u) (r : RelV v u) (hd : (x == ("__debug__" : Str)) = false := by decide) : PE X (.Name x pos) (tC v) :=
  fun _ _ _ H _ I h => ld_glob I hg hm ⟨v, H, I, r, h⟩ hd
theorem pe_bltn {x : Str} {v : V} {u : Value} {pos : Pos} (hg : Gl X x) (hm : X.mg x = none) (hv : bootBuiltins x = some u) (r : RelV v u) (hn : x ≠ "__name__" := by decide) (hd : (x == ("__debug__" : Str)) = false := by decide) : PE X (.Name x pos) (tC v) :=
  fun _ _ _ H _ I h => ld_blt I hg hm hv ⟨v, H, I, r, h⟩ hn hd

/-! ### arithmetic -/
/-- two ints -/
def t2I (ta tb : TE) (k : Int → Int → Hp → Prop) : St → Hp → Prop := fun σ H => ta σ H fun x H1 => tb σ H1 fun y H2 => ∃ i j, x = .int i ∧ y = .int j ∧ k i j H2
def tAdd (ta tb : TE) : TE := fun σ H Q => t2I ta tb (fun i j H2 => Q (.int (i + j)) H2) σ H
def tSub (ta tb : TE) : TE := fun σ H Q => t2I ta tb (fun i j H2 => Q (.int (i - j)) H2) σ H
/-- the left factor below 2^64 -/
def tMul (ta tb : TE) : TE := fun σ H Q => t2I ta tb (fun i j H2 => (-(2 ^ 64) < i ∧ i < 2 ^ 64) ∧ Q (.int (i * j)) H2) σ H
variable {a b : Expr} {ta tb : TE} {pos : Pos}
/-! ### comparisons -/
def PC (X : Cx) (op : CmpOp) (a b : Expr) (t : TE) : Prop :=
  ∀ (pins : List (Addr × Obj)) (s : Shared) (σ : St) (H : Hp) (Q : VK), Inv X pins σ H s → t σ H Q →
    wpAny (model X.prog X.w) X.A (eval a X.env) (fun v s₁ => wpAny (model X.prog X.w) X.A (eval b X.env) (fun u s₂ => wpAny (model X.prog X.w) X.A (compareOp op v u) (EP X pins σ Q) X.xe s₂) X.xe s₁) X.xe s
def tCmp (p : Int → Int → Bool) (ta tb : TE) : TE := fun σ H Q => t2I ta tb (fun i j H2 => Q (.bl (p i j)) H2) σ H
abbrev tLt : TE → TE → TE := tCmp fun i j => decide (i < j)
abbrev tLe : TE → TE → TE := tCmp fun i j => decide (i ≤ j)
abbrev tGt : TE → TE → TE := tCmp fun i j => decide (j < i)
abbrev tGe : TE → TE → TE := tCmp fun i j => decide (j ≤ i)
abbrev tEqI : TE → TE → TE := tCmp fun i j => decide (i = j)
abbrev tNeI : TE → TE → TE := tCmp fun i j => !decide (i = j)
/-- is None -/
def tIsN (ta : TE) : TE := fun σ H Q => ta σ H fun x H1 => Q (.bl (decide (x = .non))) H1
def tNotN (ta : TE) : TE := fun σ H Q => ta σ H fun x H1 => Q (.bl (!decide (x = .non))) H1
/-- a comparison as a value, as a test -/
def tB (t : TE) : TT := fun σ H Q => t σ H fun x H1 => ∃ c, x = .bl c ∧ Q c H1
/-! ### and, or, not -/
variable {tA tB' : TT} {rest : List Expr}
def tAnd (t u : TT) : TT := fun σ H Q => t σ H fun c H1 => if c = true then u σ H1 Q else Q false H1
def tOr (t u : TT) : TT := fun σ H Q => t σ H fun c H1 => if c = true then Q true H1 else u σ H1 Q
def tNot (t : TT) : TT := fun σ H Q => t σ H fun c H1 => Q (!c) H1
theorem pw_and1 (ha : PT X a tA) : PW X (.BoolOp .And [a] pos) tA := by
  intro wh pins s σ H Q I h
  refine isTrue_and (thn (ha pins s σ H Q I h) fun c s1 e => ?_)
  cases c with
  | true => exact isTrue_and_nil e
  | false => exact e
theorem pw_or1 (ha : PT X a tA) : PW X (.BoolOp .Or [a] pos) tA := by
  intro wh pins s σ H Q I h
  refine isTrue_or (thn (ha pins s σ H Q I h) fun c s1 e => ?_)
  cases c with
  | false => exact isTrue_or_nil e
  | true => exact e
theorem pw_and (ha : PT X a tA) (hb : PW X (.BoolOp .And (b :: rest) pos) tB') : PW X (.BoolOp .And (a :: b :: rest) pos) (tAnd tA tB') := by
  intro wh pins s σ H Q I h
  refine isTrue_and (thn (ha pins s σ H _ I h) fun c s1 ⟨H1, I1, q1⟩ => ?_)
  cases c with
  | true => exact hb wh pins s1 σ H1 Q I1 q1
  | false => exact ⟨H1, I1, q1⟩
theorem pw_or (ha : PT X a tA) (hb : PW X (.BoolOp .Or (b :: rest) pos) tB') : PW X (.BoolOp .Or (a :: b :: rest) pos) (tOr tA tB') := by
  intro wh pins s σ H Q I h
  refine isTrue_or (thn (ha pins s σ H _ I h) fun c s1 ⟨H1, I1, q1⟩ => ?_)
  cases c with
  | true => exact ⟨H1, I1, q1⟩
  | false => exact hb wh pins s1 σ H1 Q I1 q1
theorem pt_not (ha : PT X a tA) : PT X (.UnaryOp .Not a pos) (tNot tA) := by
  intro pins s σ H Q I h
  exact isTrue_not (ha pins s σ H (fun c H1 => Q (!c) H1) I h)
/-- .. as values (bools) -/
def tAndV (ta tb : TE) : TE := fun σ H Q => ta σ H fun x H1 => ∃ c, x = .bl c ∧ if c = true then tb σ H1 Q else Q (.bl false) H1
def tOrV (ta tb : TE) : TE := fun σ H Q => ta σ H fun x H1 => ∃ c, x = .bl c ∧ if c = true then Q (.bl true) H1 else tb σ H1 Q
def tNotV (ta : TE) : TE := fun σ H Q => ta σ H fun x H1 => ∃ c, x = .bl c ∧ Q (.bl (!c)) H1
theorem pe_one {op} {t : TE} (h : PE X a t) : PE X (.BoolOp op [a] pos) t := fun pins s σ H Q I hw => BoolOp_one (h pins s σ H Q I hw)
theorem pe_and (ha : PE X a ta) (hb : PE X (.BoolOp .And (b :: rest) pos) tb) : PE X (.BoolOp .And (a :: b :: rest) pos) (tAndV ta tb) := by
  intro pins s σ H Q I h
  refine BoolOp_and (thn (ha pins s σ H _ I h) fun v s1 ⟨x, H1, I1, r1, q1⟩ => ?_)
  obtain ⟨c, rfl, q1⟩ := q1
  cases r1
  refine wpAny_truthy_bool ?_
  cases c with
  | true => exact hb pins s1 σ H1 Q I1 q1
  | false => exact ⟨.bl false, H1, I1, rfl, q1⟩
theorem pe_not (ha : PE X a ta) : PE X (.UnaryOp .Not a pos) (tNotV ta) := by
  intro pins s σ H Q I h
  refine UnaryOp_ (thn (ha pins s σ H _ I h) fun v s1 ⟨x, H1, I1, r1, q1⟩ => ?_)
  obtain ⟨c, rfl, q1⟩ := q1
  cases r1
  exact not_of (wpAny_truthy_bool ⟨.bl (!c), H1, I1, rfl, q1⟩)
/-- a if t else b -/
def tIf (t : TT) (ta tb : TE) : TE := fun σ H Q => t σ H fun c H1 => if c = true then ta σ H1 Q else tb σ H1 Q
end
end L2

namespace L2
open PySem PySem.Spec PyProof.Rows

/-! ### a list, a tuple that is read: tracked, frozen, or an object of the module -/
def SqL (K : PySem.W.Frag) (H : Hp) (a : Addr) (xs : List V) : Prop :=
  Rd H a (.lst xs) ∨
    ∃ (o : Obj) (its : Array Value) (n : Nat), K.lookup a = some o ∧ o.cls = .type "list" ∧ o.dict = none ∧ o.data = .seq its n ∧ its.size ≤ sizeLine ∧ Vals xs its.toList
def SqT (K : PySem.W.Frag) (H : Hp) (a : Addr) (xs : List V) : Prop :=
  Rd H a (.tup xs) ∨
    ∃ (o : Obj) (its : Array Value) (n : Nat), K.lookup a = some o ∧ o.cls = .type "tuple" ∧ o.data = .seq its n ∧ its.size ≤ sizeLine ∧ Vals xs its.toList
def absV : Value → Option V
  | .none => some .non
  | .bool b => some (.bl b)
  | .int i _ => some (.int i)
  | .str x _ => some (.str x)
  | .bytes b _ => some (.byt b)
  | .float b _ => some (.flt b)
  | .ref a => some (.ref a)
  | .type n => some (.ty n)
  | _ => none
theorem RelV.abs {x : V} {u : Value} (r : RelV x u) : absV u = some x := by
  cases x with
  | non => cases r; rfl
  | bl _ => cases r; rfl
  | int _ => obtain ⟨t, rfl⟩ := r; rfl
  | str _ => obtain ⟨t, rfl⟩ := r; rfl
  | byt _ => obtain ⟨t, rfl⟩ := r; rfl
  | flt _ => obtain ⟨t, rfl⟩ := r; rfl
  | ref _ => cases r; rfl
  | ty _ => cases r; rfl
theorem RelV.inj {x y : V} {u : Value} (r : RelV x u) (q : RelV y u) : x = y := Option.some.inj (r.abs.symm.trans q.abs)
theorem Vals.inj : ∀ {xs ys : List V} {us : List Value}, Vals xs us → Vals ys us → xs = ys
  | _, _, _, .nil, .nil => rfl
  | _, _, _, .cons r t, .cons r' t' => by rw [r.inj r', Vals.inj t t']
section
variable {X : Cx} {pins : List (Addr × Obj)} {σ : St} {H : Hp} {s : Shared} {a : Addr} {xs ys : List V}
theorem SqL.of {K : PySem.W.Frag} (h : H a = some (.lst xs)) : SqL K H a xs := .inl (.inl h)
theorem SqT.of {K : PySem.W.Frag} (h : H a = some (.tup xs)) : SqT K H a xs := .inl (.inl h)
theorem Inv.list (I : Inv X pins σ H s) (h : SqL X.K H a xs) : ∃ its : List Value, Vals xs its ∧ PlainL s.heap a its.toArray ∧ xs.length ≤ sizeLine := by
  rcases h with h | ⟨o, its, n, hk, hc, hd, hs, hz, r⟩
  · obtain ⟨z, its, n, r, e⟩ := h.ok I.hok
    exact ⟨its, r, ⟨_, n, e, rfl, rfl, rfl⟩, z⟩
  · refine ⟨its.toList, r, ⟨o, n, I.kIn a o hk, hc, hd, by simpa using hs⟩, ?_⟩
    have e := r.length
    simp only [Array.length_toList] at e
    omega
theorem Inv.tuple (I : Inv X pins σ H s) (h : SqT X.K H a xs) : ∃ its : List Value, Vals xs its ∧ IsTup s.heap a its.toArray ∧ xs.length ≤ sizeLine := by
  rcases h with h | ⟨o, its, n, hk, hc, hs, hz, r⟩
  · obtain ⟨z, its, r, p⟩ := h.ok I.hok
    exact ⟨its, r, p, z⟩
  · refine ⟨its.toList, r, ⟨o, I.kIn a o hk, hc, n, by simpa using hs⟩, ?_⟩
    have e := r.length
    simp only [Array.length_toList] at e
    omega
end

/-! ### another wish about exceptions -/
abbrev Cx.wish (X : Cx) (E : Value → Shared → Prop) : Cx := { X with xe := E }
/-- no exception leaves -/
abbrev Cx.nox (X : Cx) : Cx := X.wish fun _ _ => False
theorem Cx.Ok.wish {X : Cx} (ok : X.Ok) (E : Value → Shared → Prop) : (X.wish E).Ok :=
  ⟨ok.mod, ok.kind, ok.glob, ok.blt, ok.above, ok.inj, ok.has, ok.cab, ok.hd, ok.frames, ok.stk, ok.exf, ok.bs, ok.bsz, ok.noex, ok.exfs, ok.funs, ok.frf⟩
theorem Cx.Ok.unwish {X : Cx} {E : Value → Shared → Prop} (ok : (X.wish E).Ok) : X.Ok :=
  ⟨ok.mod, ok.kind, ok.glob, ok.blt, ok.above, ok.inj, ok.has, ok.cab, ok.hd, ok.frames, ok.stk, ok.exf, ok.bs, ok.bsz, ok.noex, ok.exfs, ok.funs, ok.frf⟩
section
variable {X : Cx} {pins : List (Addr × Obj)} {σ : St} {H : Hp} {s : Shared} {E : Value → Shared → Prop}
theorem Inv.wish (I : Inv X pins σ H s) (E : Value → Shared → Prop) : Inv (X.wish E) pins σ H s := ⟨I.ok.wish E, I.os, I.bare, I.base, I.loc, I.cell, I.free, I.freeC, I.pin, I.hok, I.len⟩
theorem Inv.unwish (I : Inv (X.wish E) pins σ H s) : Inv X pins σ H s := ⟨I.ok.unwish, I.os, I.bare, I.base, I.loc, I.cell, I.free, I.freeC, I.pin, I.hok, I.len⟩
theorem SP.unwish {D : Ends} {f : Flow} {s' : Shared} (h : SP (X.wish E) pins D f s') : SP X pins D f s' := by
  cases f with
  | next => obtain ⟨σ', H', I, q⟩ := h; exact ⟨σ', H', I.unwish, q⟩
  | brk => obtain ⟨σ', H', I, q⟩ := h; exact ⟨σ', H', I.unwish, q⟩
  | cont => obtain ⟨σ', H', I, q⟩ := h; exact ⟨σ', H', I.unwish, q⟩
  | ret u => obtain ⟨v, σ', H', I, r, q⟩ := h; exact ⟨v, σ', H', I.unwish, r, q⟩
theorem PE.nox {e : Expr} {t : TE} (h : PE X.nox e t) : PE X e t := fun pins s σ H Q I hw =>
  wpAny_mono (h pins s σ H Q (I.wish _) hw) (fun _ _ ⟨v, H', I', r, q⟩ => ⟨v, H', I'.unwish, r, q⟩) fun _ _ z => False.elim z
theorem PT.nox {e : Expr} {t : TT} (h : PT X.nox e t) : PT X e t := fun pins s σ H Q I hw =>
  wpAny_mono (h pins s σ H Q (I.wish _) hw) (fun _ _ ⟨H', I', q⟩ => ⟨H', I'.unwish, q⟩) fun _ _ z => False.elim z
theorem PSs.nox {st : List Stmt} {t : TS} (h : PSs X.nox st t) : PSs X st t := fun pins s σ H D I hw =>
  wpAny_mono (h pins s σ H D (I.wish _) hw) (fun _ _ q => q.unwish) fun _ _ z => False.elim z
end

/-! ### blocks and small statements -/
section
variable {X : Cx} {st : Stmt} {rest : List Stmt} {t u : TS} {e : Expr} {te : TE} {pos : Pos}
def tNext : TS := fun D σ H => D.nx σ H
def tSeq (t u : TS) : TS := fun D σ H => t { D with nx := u D } σ H
theorem pss_nil : PSs X [] tNext := fun _ _ σ H _ I h => wpAny_execs_nil ⟨σ, H, I, h⟩
theorem pss_cons (h1 : PS X st t) (h2 : PSs X rest u) : PSs X (st :: rest) (tSeq t u) := by
  intro pins s σ H D I h
  refine wpAny_execs_cons (thn (h1 pins s σ H { D with nx := u D } I h) fun f s1 q => ?_)
  cases f with
  | next =>
    obtain ⟨σ', H', I', q⟩ := q
    exact h2 pins s1 σ' H' D I' q
  | ret v => exact q
  | brk => exact q
  | cont => exact q
theorem pss_one (h1 : PS X st t) : PSs X [st] t := by
  intro pins s σ H D I h
  refine wpAny_execs_cons (thn (h1 pins s σ H D I h) fun f s1 q => ?_)
  cases f with
  | next => exact wpAny_execs_nil q
  | ret v => exact q
  | brk => exact q
  | cont => exact q
def tBreak : TS := fun D σ H => D.bk σ H
def tCont : TS := fun D σ H => D.ct σ H
/-- in a def's body nothing is shown -/
theorem Inv.quiet {pins : List (Addr × Obj)} {σ : St} {H : Hp} {s : Shared} (I : Inv X pins σ H s) : interactive X.env = false := by simp [interactive, I.ok.kind]
/-- an expression whose value is dropped -/
def tDrop (te : TE) : TS := fun D σ H => te σ H fun _ H1 => D.nx σ H1
theorem ps_expr (he : PE X e te) (hs : swapsWith e none pos.line X.env = pure false := by rfl) : PS X (.Expr e pos) (tDrop te) := by
  intro pins s σ H D I h
  exact wpAny_Expr_any (thn (he pins s σ H _ I h) fun v s1 ⟨x, H1, I1, r1, q1⟩ => ⟨σ, H1, I1, q1⟩) I.quiet hs
def tRet (te : TE) : TS := fun D σ H => te σ H D.rt
theorem ps_ret (he : PE X e te) : PS X (.Return (some e) pos) (tRet te) := by
  intro pins s σ H D I h
  exact wpAny_Return_some (thn (he pins s σ H _ I h) fun v s1 ⟨x, H1, I1, r1, q1⟩ => ⟨x, σ, H1, I1, r1, q1⟩)
def tRetN : TS := fun D _ H => D.rt .non H
def tIfS (c : TT) (t u : TS) : TS := fun D σ H => c σ H fun b H1 => if b = true then t D σ H1 else u D σ H1
theorem ps_if {c : Expr} {a b : List Stmt} {tc : TT} (hc : PT X c tc) (ha : PSs X a t) (hb : PSs X b u) : PS X (.If c a b pos) (tIfS tc t u) := by
  intro pins s σ H D I h
  refine wpAny_If (thn (hc pins s σ H _ I h) fun d s1 ⟨H1, I1, q1⟩ => ?_)
  cases d with
  | true => exact ha pins s1 σ H1 D I1 q1
  | false => exact hb pins s1 σ H1 D I1 q1
/-- code that the proof never comes to -/
def tNever : TS := fun _ _ _ => False
end

/-! ### targets -/
abbrev TG := V → St → Hp → (St → Hp → Prop) → Prop
abbrev TGs := List V → St → Hp → (St → Hp → Prop) → Prop
def PG (X : Cx) (target : Expr) (t : TG) : Prop :=
  ∀ (pins : List (Addr × Obj)) (s : Shared) (σ : St) (H : Hp) (v : V) (u : Value) (Q : St → Hp → Prop), Inv X pins σ H s → RelV v u → t v σ H Q →
    wpAny (model X.prog X.w) X.A (assign target X.env u) (fun _ s' => ∃ σ' H', Inv X pins σ' H' s' ∧ Q σ' H') X.xe s
/-- several targets, one after another -/
def PGs (X : Cx) (ts : List Expr) (t : TGs) : Prop :=
  ∀ (pins : List (Addr × Obj)) (s : Shared) (σ : St) (H : Hp) (vs : List V) (us : List Value) (Q : St → Hp → Prop), Inv X pins σ H s → Vals vs us → t vs σ H Q →
    wpAny (model X.prog X.w) X.A (assignInOrder ((assignEach ts X.env).map (·.2)) us) (fun _ s' => ∃ σ' H', Inv X pins σ' H' s' ∧ Q σ' H') X.xe s
/-- o[i] = v, by values -/
abbrev TSet := V → V → V → Hp → (Hp → Prop) → Prop
def PSet (X : Cx) (t : TSet) : Prop :=
  ∀ (pins : List (Addr × Obj)) (s : Shared) (σ : St) (H : Hp) (o i v : V) (ov iv u : Value) (Q : Hp → Prop), Inv X pins σ H s → RelV o ov → RelV i iv → RelV v u → t o i v H Q →
    wpAny (model X.prog X.w) X.A (setItem ov iv u) (fun _ s' => ∃ H', Inv X pins σ H' s' ∧ Q H') X.xe s
/-- a op= b, by values -/
abbrev TIp := V → V → Hp → VK → Prop
def PIp (X : Cx) (op : Operator) (t : TIp) : Prop :=
  ∀ (pins : List (Addr × Obj)) (s : Shared) (σ : St) (H : Hp) (x y : V) (v u : Value) (Q : VK), Inv X pins σ H s → RelV x v → RelV y u → t x y H Q →
    wpAny (model X.prog X.w) X.A (inplaceOp op v u) (EP X pins σ Q) X.xe s
section
variable {X : Cx} {pos : Pos}
def gName (i : Nat) : TG := fun v σ H Q => Q (σ.set i (some v)) H
theorem pg_name {i : Nat} {x : Str} (hN : X.N.Nodup) (hi : X.N[i]? = some x) (hx : Loc X.env.scope x) (hf : X.fn x = true ∨ X.env.scope.names.lookup x = some .local := by first | exact .inl rfl | exact .inr rfl | assumption) : PG X (.Name x pos) (gName i) := by
  intro pins s σ H v u Q I r h
  exact wpAny_assign_Name (store_ok I hN hi hx r (fun s' I' => ⟨_, H, I', h⟩) hf)
def gNil : TGs := fun vs σ H Q => vs = [] ∧ Q σ H
def gCons (t : TG) (u : TGs) : TGs := fun vs σ H Q => ∃ v r, vs = v :: r ∧ t v σ H fun σ' H' => u r σ' H' Q
/-- (a, b, ..) = a tuple of that length -/
def gTup (K : PySem.W.Frag) (n : Nat) (t : TGs) : TG := fun v σ H Q => ∃ a xs, v = .ref a ∧ SqT K H a xs ∧ xs.length = n ∧ t xs σ H Q
/-- o[i] = .. -/
def gSub (to ti : TE) (t : TSet) : TG := fun v σ H Q => to σ H fun o H1 => ti σ H1 fun i H2 => t o i v H2 fun H3 => Q σ H3
/-- target = value -/
def tAsg (te : TE) (g : TG) : TS := fun D σ H => te σ H fun x H1 => g x σ H1 D.nx
/-- name = value -/
theorem ps_set {i : Nat} {x : Str} {e : Expr} {te : TE} {pos' : Pos} (hN : X.N.Nodup) (hi : X.N[i]? = some x) (hx : Loc X.env.scope x) (he : PE X e te) (hs : swapsWith e (some (.Name x pos')) pos.line X.env = pure false := by rfl) (hf : X.fn x = true ∨ X.env.scope.names.lookup x = some .local := by first | exact .inl rfl | exact .inr rfl | assumption) :
    PS X (.Assign [.Name x pos'] e pos) (tAsg te (gName i)) := by
  intro pins s σ H D I h
  refine wpAny_Assign_Name (thn (he pins s σ H _ I h) fun v s1 ⟨y, H1, I1, r1, q1⟩ => ?_) hs
  exact store_ok I1 hN hi hx r1 (fun s2 I2 => ⟨_, H1, I2, q1⟩) hf
/-- a, b = x, y with plain local names: stored from the right; the pair itself is not tracked (the opening rows as in PyProof/Rows/TupAssign.lean:23) -/
def tPar (i j : Nat) (ta : TA) : TS := fun D σ H => ta σ H fun vs H1 => ∃ v w, vs = [v, w] ∧ D.nx ((σ.set i (some v)).set j (some w)) H1
/-- name op= e -/
def tAug (i : Nat) (te : TE) (ti : TIp) : TS := fun D σ H => ∃ x, σ[i]? = some (some x) ∧ te σ H fun y H1 => ti x y H1 fun z H2 => D.nx (σ.set i (some z)) H2
/-- o[i] op= e -/
def tAugS (to ti te : TE) (tget : V → V → Hp → VK → Prop) (tip : TIp) (tset : TSet) : TS := fun D σ H => to σ H fun o H1 => ti σ H1 fun i H2 => tget o i H2 fun x H3 => te σ H3 fun y H4 => tip x y H4 fun z H5 => tset o i z H5 fun H6 => D.nx σ H6
/-- o[i], by values -/
def PGet (X : Cx) (t : V → V → Hp → VK → Prop) : Prop :=
  ∀ (pins : List (Addr × Obj)) (s : Shared) (σ : St) (H : Hp) (o i : V) (ov iv : Value) (Q : VK), Inv X pins σ H s → RelV o ov → RelV i iv → t o i H Q →
    wpAny (model X.prog X.w) X.A (getItem ov iv) (EP X pins σ Q) X.xe s
/-- ints -/
def ipI (f : Int → Int → Int) : TIp := fun x y H Q => ∃ i j, x = .int i ∧ y = .int j ∧ Q (.int (f i j)) H
end

/-! ### while -/
section
variable {X : Cx} {pos : Pos}
/-- the invariant W with its measure -/
def tWhile (c : TT) (tb : TS) : TS := fun D σ H => ∃ W : Nat → St → Hp → Prop, (∃ m, W m σ H) ∧ ∀ m σ H, W m σ H →
  c σ H fun b H1 => if b = true then ∃ N : St → Hp → Prop, (∀ σ' H', N σ' H' → ∃ m', m' < m ∧ W m' σ' H') ∧ tb { D with nx := N, ct := N, bk := D.nx } σ H1 else D.nx σ H1
end

/-! ### what a loop or a comprehension walks -/
/-- at turn i: it yields x (the heap may grow), or it stops -/
structure It where
  go : Nat → Hp → Prop
  yld : Nat → Hp → V → Hp → Prop
  stop : Nat → Hp → Prop
/-- the iterator's own objects may turn: they are not the frame's, not pinned, younger than the entry (or a comprehension's own) -/
def FpOk (X : Cx) (pins : List (Addr × Obj)) (H : Hp) (b : Addr) : Prop :=
  H b = none ∧ b ≠ X.env.locals ∧ b ∉ X.fs ∧ (b ∈ X.ex ∨ X.s₀.heap.objs.size ≤ b) ∧ (∀ x c, X.env.cells.lookup x = some c → c ≠ b) ∧ ∀ p ∈ X.pn ++ pins, p.1 ≠ b
theorem Inv.fpOk {X : Cx} {pins : List (Addr × Obj)} {σ : St} {H H' : Hp} {s : Shared} {b : Addr} (I : Inv X pins σ H s) (hb : s.heap.objs.size ≤ b) (hn : H' b = none) : FpOk X pins H' b := by
  refine ⟨hn, Nat.ne_of_gt (Nat.lt_of_lt_of_le I.lt hb), I.nofs hb, .inr (Nat.le_trans I.sz hb), fun x c e z => ?_, fun p hp z => ?_⟩
  · obtain ⟨v, q⟩ := I.cell x c e
    exact absurd (Nat.lt_of_lt_of_le q.lt (by rw [z]; exact hb)) (Nat.lt_irrefl _)
  · exact absurd (Nat.lt_of_lt_of_le (Heap.lt_size (I.pin p hp).1) (by rw [z]; exact hb)) (Nat.lt_irrefl _)
structure Turn (P : Program) (w : World) (K : PySem.W.Frag) (tg : Expr) (J : It) (fp : List Addr) (it : Addr) (tn : Nat → Heap → Prop) : Prop where
  mem : it ∈ fp
  obj : ∀ i h, tn i h → ∀ b ∈ fp, ∃ o, h.get? b = some o ∧ ∀ v, o.data ≠ .cell v
  keep : ∀ i h h', tn i h → (∀ b ∈ fp, ∀ o, h.get? b = some o → h'.get? b = some o) → tn i h'
  item : ∀ (X : Cx), X.prog = P → X.w = w → X.K = K → X.calm = true → ∀ (i : Nat) (pins : List (Addr × Obj)) (s : Shared) (σ : St) (H : Hp) (E : Value → Shared → Prop), Inv X pins σ H s → (∀ b ∈ fp, FpOk X pins H b) → tn i s.heap → J.go i H →
    wpAny (model P w) X.A (pyNext (.ref it)) (fun r s1 => ∃ u, r = some u ∧
      wpAny (model P w) X.A (letOwnedTupleGo tg (.ref it) u) (fun _ s2 => ∃ x H', Inv X pins σ H' s2 ∧ RelV x u ∧ J.yld i H x H' ∧ tn (i + 1) s2.heap ∧ ∀ b ∈ fp, H' b = none) E s1) E s
  done : ∀ (X : Cx), X.prog = P → X.w = w → X.K = K → X.calm = true → ∀ (i : Nat) (pins : List (Addr × Obj)) (s : Shared) (σ : St) (H : Hp) (E : Value → Shared → Prop), Inv X pins σ H s → (∀ b ∈ fp, FpOk X pins H b) → tn i s.heap → J.stop i H →
    wpAny (model P w) X.A (pyNext (.ref it)) (fun r s1 => r = none ∧ Inv X pins σ H s1) E s
  self : ∀ (A : Around) (i : Nat) (s : Shared) (Q : Value → Shared → Prop) (E : Value → Shared → Prop), tn i s.heap → Q (.ref it) s → wpAny (model P w) A (pyIter (.ref it)) Q E s
abbrev TI := St → Hp → (It → Hp → Prop) → Prop
/-- an iterator has come -/
def PIE (X : Cx) (pins : List (Addr × Obj)) (σ : St) (tg : Expr) (R : It → Hp → Prop) (itv : Value) (s2 : Shared) : Prop :=
  ∃ (it : Addr) (fp : List Addr) (tn : Nat → Heap → Prop) (J : It) (H' : Hp), itv = .ref it ∧ Inv X pins σ H' s2 ∧ Turn X.prog X.w X.K tg J fp it tn ∧ tn 0 s2.heap ∧ (∀ b ∈ fp, FpOk X pins H' b) ∧ R J H'
def PI (X : Cx) (tg iter : Expr) (wi : TI) : Prop :=
  ∀ (pins : List (Addr × Obj)) (s : Shared) (σ : St) (H : Hp) (R : It → Hp → Prop), Inv X pins σ H s → wi σ H R →
    wpAny (model X.prog X.w) X.A (eval iter X.env) (fun v s1 => wpAny (model X.prog X.w) X.A (pyIter v) (PIE X pins σ tg R) X.xe s1) X.xe s

/-- the step ahead of the store is nothing for an iterator that keeps no tuple -/
theorem go_of {M : Model} {A : Around} {E : Value → Shared → Prop} {s : Shared} {tg : Expr} {it : Addr} {u : Value} {o : Obj} {n : String} {vs : Array Value} {Q : Unit → Shared → Prop} (ho : s.heap.get? it = some o) (hc : o.cls = .type n) (hd : o.data = .fields vs)
    (hn : ["enumerate", "zip", "dict_itemiterator", "dict_reverseitemiterator", "odict_iterator", "itertools.zip_longest", "itertools.pairwise"].contains n = false) (hQ : Q () s) : wpAny M A (letOwnedTupleGo tg (.ref it) u) Q E s := by
  unfold letOwnedTupleGo
  cases tg <;> first
    | exact wpAny_pure hQ
    | (cases u <;> first
        | exact wpAny_pure hQ
        | (refine wpAny_bind (wpAny_load ho ?_)
           rw [hc, hd]
           show wpAny M A (if (["enumerate", "zip", "dict_itemiterator", "dict_reverseitemiterator", "odict_iterator", "itertools.zip_longest", "itertools.pairwise"].contains n && vs[0]? == some (rawInt _)) = true then _ else _) Q E s
           rw [if_neg (by intro h; rw [hn, Bool.false_and] at h; cases h)]
           exact wpAny_pure hQ))

/-- the list at a, as it stands at each turn (a loop may append to it) -/
def Itl (K : PySem.W.Frag) (a : Addr) : It :=
  ⟨fun i H => ∃ xs x, SqL K H a xs ∧ xs[i]? = some x, fun i H x H' => H' = H ∧ ∀ xs, SqL K H a xs → xs[i]? = some x, fun i H => ∃ xs, SqL K H a xs ∧ xs.length ≤ i⟩
def Itt (K : PySem.W.Frag) (a : Addr) : It :=
  ⟨fun i H => ∃ xs x, SqT K H a xs ∧ xs[i]? = some x, fun i H x H' => H' = H ∧ ∀ xs, SqT K H a xs → xs[i]? = some x, fun i H => ∃ xs, SqT K H a xs ∧ xs.length ≤ i⟩
/-- lo, lo + 1, .. (n of them) -/
def Itr (lo : Int) (n : Nat) : It := ⟨fun i _ => i < n, fun i H x H' => H' = H ∧ x = .int (lo + i), fun i _ => n ≤ i⟩
theorem turn_range {P : Program} {w : World} {K : PySem.W.Frag} {tg : Expr} (it : Addr) (lo : Int) (n : Nat) : Turn P w K tg (Itr lo n) [it] it (fun i h => IsRangeIter h it (lo + (i : Nat) * 1) ((n : Int) - (i : Nat)) 1) where
  mem := by simp
  obj := fun i h st b hb => by
    have e : b = it := by simpa using hb
    subst e
    exact ⟨_, st, fun v z => by
      have z' : Data.fields _ = Data.cell v := z
      cases z'⟩
  keep := fun i h h' st k => k it (by simp) _ st
  item := by
    intro X hP hw hK hc i pins s σ H E I hf st hg
    subst hP hw hK
    obtain ⟨f0, f1, f2, f3, f4, f5⟩ := hf it (by simp)
    have W := Walks.range (prog := X.prog) (w := X.w) (I.ok.hd hc) it lo 1 n
    refine W.item i s _ _ hg st fun v h' tk hv st' kk => ?_
    obtain ⟨t, rfl⟩ := hv
    have I1 : Inv X pins σ H { s with heap := h', toks := tk } := I.turned (fun b o hb e => kk b o (by simpa using hb) e) f0 f1 f3 f4 f5
    refine ⟨_, rfl, go_of (s := { s with heap := h', toks := tk }) (n := "range_iterator") st' rfl rfl (by decide) ⟨.int (lo + i), H, I1, ⟨t, ?_⟩, ⟨rfl, rfl⟩, st', fun b hb => (hf b hb).1⟩⟩
    rw [Int.mul_one]
  done := by
    intro X hP hw hK hc i pins s σ H E I hf st hg
    subst hP hw hK
    obtain ⟨f0, f1, f2, f3, f4, f5⟩ := hf it (by simp)
    exact wpAny_pyNext_range_end (I.ok.hd hc) st (by have : n ≤ i := hg; omega) fun h' eb => ⟨rfl, I.turned (t' := s.toks) (fun b o hb e => eb b o hb e) f0 f1 f3 f4 f5⟩
  self := fun _ _ _ _ _ st h => wpAny_pyIter_rangeiter st h
end L2

namespace L2
open PySem PySem.Spec PyProof.Rows
section
variable {X : Cx} {tg : Expr}
def iList (K : PySem.W.Frag) (tl : TE) : TI := fun σ H R => tl σ H fun x H1 => ∃ a, x = .ref a ∧ (∃ xs, SqL K H1 a xs) ∧ R (Itl K a) H1
def iTup (K : PySem.W.Frag) (tl : TE) : TI := fun σ H R => tl σ H fun x H1 => ∃ a, x = .ref a ∧ (∃ xs, SqT K H1 a xs) ∧ R (Itt K a) H1
/-- a range object just made, walked -/
theorem range_it {pins : List (Addr × Obj)} {σ : St} {H : Hp} {s : Shared} {R : It → Hp → Prop} {E : Value → Shared → Prop} {lo hi : Int} {t u v : Tok} {tk : Nat} (I : Inv X pins σ H s) (h1 : -(2 ^ 62) ≤ lo) (h2 : lo < 2 ^ 62) (h3 : -(2 ^ 62) ≤ hi) (h4 : hi < 2 ^ 62)
    (q : R (Itr lo (hi - lo).toNat) H) : wpAny (model X.prog X.w) X.A (pyIter (.ref s.heap.objs.size)) (PIE X pins σ tg R) E { s with heap := s.heap.push { cls := .type "range", data := .fields #[.int lo t, .int hi u, .int 1 v] }, toks := tk } := by
  refine wpAny_pyIter_range (IsRange.new ..) (small_one h1 h2 h3 h4) ?_
  have I1 : Inv X pins σ H { s with heap := s.heap.push { cls := .type "range", data := .fields #[.int lo t, .int hi u, .int 1 v] }, toks := tk } := I.kept fun b o e => Heap.get?_push_of_some _ e
  refine ⟨(s.heap.push { cls := .type "range", data := .fields #[.int lo t, .int hi u, .int 1 v] }).objs.size, [(s.heap.push { cls := .type "range", data := .fields #[.int lo t, .int hi u, .int 1 v] }).objs.size], _, _, H, rfl,
    I1.kept (t' := tk) fun b o e => Heap.get?_push_of_some _ e, turn_range _ lo (hi - lo).toNat, ?_, fun b hb => ?_, q⟩
  · have e1 : lo + ((0 : Nat) : Int) * 1 = lo := by simp
    have e2 : (((hi - lo).toNat : Nat) : Int) - ((0 : Nat) : Int) = Builtin.Range.rangeSize lo hi 1 := by rw [rangeSize_one]; split <;> omega
    show IsRangeIter _ _ (lo + ((0 : Nat) : Int) * 1) ((((hi - lo).toNat : Nat) : Int) - ((0 : Nat) : Int)) 1
    rw [e1, e2]
    exact Heap.get?_push_size _ rfl
  · have e : b = (s.heap.push { cls := .type "range", data := .fields #[.int lo t, .int hi u, .int 1 v] }).objs.size := by simpa using hb
    subst e
    exact I1.fpOk (Nat.le_refl _) (I1.hok.fresh (Nat.le_refl _))
def iRng1 (ta : TA) : TI := fun σ H R => ta σ H fun vs H1 => ∃ j : Int, vs = [.int j] ∧ -(2 ^ 62) ≤ j ∧ j < 2 ^ 62 ∧ R (Itr 0 j.toNat) H1
def iRng2 (ta : TA) : TI := fun σ H R => ta σ H fun vs H1 => ∃ i j : Int, vs = [.int i, .int j] ∧ (-(2 ^ 62) ≤ i ∧ i < 2 ^ 62 ∧ -(2 ^ 62) ≤ j ∧ j < 2 ^ 62) ∧ R (Itr i (j - i).toNat) H1
theorem pi_range1 {a : Expr} {ta : TA} {p pos : Pos} (hg : Gl X "range") (hm : X.mg "range" = none) (ha : PA X [a] ta) (hs : starEach [a] X.env = [(false, eval a X.env)] := by rfl) : PI X tg (.Call (.Name "range" p) [a] [] pos) (iRng1 ta) := by
  intro pins s σ H R I h
  refine Call_ (ld_blt I hg hm boot_range (PyProof.Rows.callWith_type1 (thn (ha pos pins s σ H _ I h) fun us s1 ⟨vs, H1, I1, r1, q1⟩ => ?_) hs rfl))
  obtain ⟨j, e, q1, q2, q⟩ := q1
  subst e
  cases r1 with
  | cons r rr =>
    cases rr
    obtain ⟨t, rfl⟩ := r
    exact call_range_1 (range_it I1 (by omega) (by omega) q1 q2 (by simpa using q))
/-! ### for -/
/-- W: the invariant by the turn and a measure; N: what the body is to reach -/
def tFor (wi : TI) (g : TG) (tb : TS) : TS := fun D σ H => wi σ H fun J H1 => ∃ W : Nat → Nat → St → Hp → Prop, (∃ m, W 0 m σ H1) ∧ ∀ i m σ H, W i m σ H →
  (J.stop i H ∧ D.nx σ H) ∨ (J.go i H ∧ ∃ N : St → Hp → Prop, (∀ σ' H', N σ' H' → ∃ m', m' < m ∧ W (i + 1) m' σ' H') ∧ ∀ x H', J.yld i H x H' → g x σ H' fun σ2 H2 => tb { D with nx := N, ct := N, bk := D.nx } σ2 H2)
/-- the records at fp as they stand -/
def pinsAt (fp : List Addr) (h : Heap) : List (Addr × Obj) := fp.filterMap fun b => (h.get? b).map fun o => (b, o)
theorem mem_pinsAt {fp : List Addr} {h : Heap} {b : Addr} {o : Obj} (hb : b ∈ fp) (e : h.get? b = some o) : (b, o) ∈ pinsAt fp h := List.mem_filterMap.mpr ⟨b, hb, by rw [e]; rfl⟩
theorem of_pinsAt {fp : List Addr} {h : Heap} {p : Addr × Obj} (hp : p ∈ pinsAt fp h) : p.1 ∈ fp ∧ h.get? p.1 = some p.2 := by
  obtain ⟨b, hb, e⟩ := List.mem_filterMap.mp hp
  cases q : h.get? b with
  | none => rw [q] at e; cases e
  | some o =>
    rw [q] at e
    have e' : (b, o) = p := Option.some.inj e
    subst e'
    exact ⟨hb, q⟩
theorem Inv.pinned {pins : List (Addr × Obj)} {σ : St} {H : Hp} {s : Shared} {fp : List Addr} (I : Inv X pins σ H s) (hf : ∀ b ∈ fp, FpOk X pins H b) (ho : ∀ b ∈ fp, ∃ o, s.heap.get? b = some o ∧ ∀ v, o.data ≠ .cell v) : Inv X (pins ++ pinsAt fp s.heap) σ H s :=
  I.pins_of fun p hp => (List.mem_append.mp hp).elim (fun z => I.pin p (List.mem_append_right _ z)) fun z => by
    obtain ⟨hb, e⟩ := of_pinsAt z
    obtain ⟨f0, f1, f2, _⟩ := hf p.1 hb
    obtain ⟨o, e', d⟩ := ho p.1 hb
    rw [e] at e'; cases e'
    exact ⟨e, f0, f1, f2, d⟩
theorem Inv.unpinned {pins pl : List (Addr × Obj)} {σ : St} {H : Hp} {s : Shared} (I : Inv X (pins ++ pl) σ H s) : Inv X pins σ H s := I.pins_of fun p hp => I.pin p (List.mem_append_right _ (List.mem_append_left _ hp))
theorem ps_for {iter : Expr} {body : List Stmt} {wi : TI} {g : TG} {tb : TS} {pos : Pos} (hp : PassesOwn (model X.prog X.w) X.A X.env X.xe) (hc : X.calm = true) (hi : PI X tg iter wi) (hg : PG X tg g) (hb : PSs X body tb)
    (hs : ∀ x, foldedSetIterable iter X.env x = pure x := by intro _; rfl) : PS X (.For tg iter body [] pos) (tFor wi g tb) := by
  intro pins s σ H D I h
  refine wpAny_For (thn (hi pins s σ H _ I h) fun v s1 h1 => thn h1 fun itv s2 h2 => ?_) hs
  obtain ⟨it, fp, tn, J, H2, e, I2, T, st2, f2, W, ⟨m0, w0⟩, turn⟩ := h2
  subst e
  -- what stays true of the iterator's objects through the loop
  have stat : ∀ {H' : Hp}, (∀ b ∈ fp, H' b = none) → ∀ b ∈ fp, FpOk X pins H' b := fun hn b hb => ⟨hn b hb, (f2 b hb).2⟩
  refine codeAny_forLoop_any (fun n s' => ∃ i σ' H', Inv X pins σ' H' s' ∧ tn i s'.heap ∧ (∀ b ∈ fp, H' b = none) ∧ W i n σ' H') ?_ m0 ⟨0, σ, H2, I2, st2, fun b hb => (f2 b hb).1, w0⟩
  rintro n s3 ⟨i, σ3, H3, I3, st3, fr3, w3⟩
  rcases turn i n σ3 H3 w3 with ⟨stop, qn⟩ | ⟨go, N, hN, step⟩
  · refine wpAny_passesOwn hp (thn (T.done X rfl rfl rfl hc i pins s3 σ3 H3 X.xe I3 (stat fr3) st3 stop) fun r s4 ⟨hr, I4⟩ => ?_)
    subst hr
    exact wpAny_execs_nil ⟨σ3, H3, I4, qn⟩
  · refine wpAny_passesOwn hp (thn (T.item X rfl rfl rfl hc i pins s3 σ3 H3 X.xe I3 (stat fr3) st3 go) fun r s4 ⟨u, hr, h4⟩ => ?_)
    subst hr
    refine wpAny_passesOwn hp (thn h4 fun _ s5 ⟨x, H5, I5, r5, y5, st5, fr5⟩ => ?_)
    have I5' := I5.pinned (stat fr5) (T.obj _ _ st5)
    refine wpAny_passesOwn hp (thn (hg _ s5 σ3 H5 x u _ I5' r5 (step x H5 y5)) fun _ s6 ⟨σ6, H6, I6, q6⟩ => ?_)
    refine wpAny_passesOwn hp (thn (hb _ s6 σ6 H6 _ I6 q6) fun f s7 q7 => ?_)
    have again : ∀ {σ7 : St} {H7 : Hp}, Inv X (pins ++ pinsAt fp s5.heap) σ7 H7 s7 → N σ7 H7 → ∃ m, m < n ∧ ∃ i σ' H', Inv X pins σ' H' s7 ∧ tn i s7.heap ∧ (∀ b ∈ fp, H' b = none) ∧ W i m σ' H' := fun {σ7 H7} I7 n7 => by
      obtain ⟨m', hm, w7⟩ := hN σ7 H7 n7
      refine ⟨m', hm, i + 1, σ7, H7, I7.unpinned, T.keep _ _ _ st5 fun b hb o e => (I7.pin (b, o) (List.mem_append_right _ (List.mem_append_right _ (mem_pinsAt hb e)))).1, fun b hb => ?_, w7⟩
      obtain ⟨o, e, d⟩ := T.obj _ _ st5 b hb
      exact (I7.pin (b, o) (List.mem_append_right _ (List.mem_append_right _ (mem_pinsAt hb e)))).2.1
    cases f with
    | next => obtain ⟨σ7, H7, I7, n7⟩ := q7; exact again I7 n7
    | cont => obtain ⟨σ7, H7, I7, n7⟩ := q7; exact again I7 n7
    | brk => obtain ⟨σ7, H7, I7, q7⟩ := q7; exact ⟨σ7, H7, I7.unpinned, q7⟩
    | ret v => obtain ⟨x7, σ7, H7, I7, r7, q7⟩ := q7; exact ⟨x7, σ7, H7, I7.unpinned, r7, q7⟩
end

/-! ### the forms one uses -/
theorem for_range {lo : Int} {n : Nat} {g : TG} {tb : TS} {D : Ends} {σ : St} {H : Hp} (Pv : Nat → St → Hp → Prop) (h0 : Pv 0 σ H)
    (hs : ∀ i σ H, i < n → Pv i σ H → g (.int (lo + i)) σ H fun σ2 H2 => tb { D with nx := Pv (i + 1), ct := Pv (i + 1), bk := D.nx } σ2 H2) (hd : ∀ σ H, Pv n σ H → D.nx σ H) :
    ∃ W : Nat → Nat → St → Hp → Prop, (∃ m, W 0 m σ H) ∧ ∀ i m σ H, W i m σ H →
      ((Itr lo n).stop i H ∧ D.nx σ H) ∨ ((Itr lo n).go i H ∧ ∃ N : St → Hp → Prop, (∀ σ' H', N σ' H' → ∃ m', m' < m ∧ W (i + 1) m' σ' H') ∧ ∀ x H', (Itr lo n).yld i H x H' → g x σ H' fun σ2 H2 => tb { D with nx := N, ct := N, bk := D.nx } σ2 H2) := by
  refine ⟨fun i m σ H => m = n - i ∧ i ≤ n ∧ Pv i σ H, ⟨n, by simp, Nat.zero_le _, h0⟩, ?_⟩
  rintro i m σ H ⟨rfl, hi, p⟩
  by_cases hlt : i < n
  · refine .inr ⟨hlt, Pv (i + 1), fun σ' H' p' => ⟨n - (i + 1), by omega, rfl, hlt, p'⟩, fun x H' y => ?_⟩
    obtain ⟨e, y⟩ := y
    subst e y
    exact hs i σ _ hlt p
  · have e : i = n := by omega
    subst e
    exact .inl ⟨Nat.le_refl _, hd σ H p⟩
end L2

namespace L2
open PySem PySem.Spec PyProof.Rows

abbrev R2 := V → V → Hp → VK → Prop
/-- a two-place operation on values: f is binaryOp op, inplaceOp op or compareOp op -/
def OpR (X : Cx) (f : Value → Value → Sem Value) (r : R2) : Prop :=
  ∀ (pins : List (Addr × Obj)) (s : Shared) (σ : St) (H : Hp) (x y : V) (v u : Value) (Q : VK), Inv X pins σ H s → RelV x v → RelV y u → r x y H Q →
    wpAny (model X.prog X.w) X.A (f v u) (EP X pins σ Q) X.xe s
/-- a one-place operation -/
def UnR (X : Cx) (f : Value → Sem Value) (r : V → Hp → VK → Prop) : Prop :=
  ∀ (pins : List (Addr × Obj)) (s : Shared) (σ : St) (H : Hp) (x : V) (v : Value) (Q : VK), Inv X pins σ H s → RelV x v → r x H Q →
    wpAny (model X.prog X.w) X.A (f v) (EP X pins σ Q) X.xe s
/-- a call of a value that is known (a builtin, a type) with values -/
def CallR (X : Cx) (f : Value) (r : List V → Hp → VK → Prop) : Prop :=
  ∀ (pins : List (Addr × Obj)) (s : Shared) (σ : St) (H : Hp) (xs : List V) (us : List Value) (Q : VK), Inv X pins σ H s → Vals xs us → r xs H Q →
    wpAny (model X.prog X.w) X.A (call f us) (EP X pins σ Q) X.xe s
/-- a value's truth -/
def TruR (X : Cx) (r : V → Hp → (Bool → Hp → Prop) → Prop) : Prop :=
  ∀ (pins : List (Addr × Obj)) (s : Shared) (σ : St) (H : Hp) (x : V) (v : Value) (Q : Bool → Hp → Prop), Inv X pins σ H s → RelV x v → r x H Q →
    wpAny (model X.prog X.w) X.A (truthy v) (TP X pins σ Q) X.xe s

def tOp (r : R2) (ta tb : TE) : TE := fun σ H Q => ta σ H fun x H1 => tb σ H1 fun y H2 => r x y H2 Q
def tUn (r : V → Hp → VK → Prop) (ta : TE) : TE := fun σ H Q => ta σ H fun x H1 => r x H1 Q
/-- ints in, under C, and a value out -/
def rI (C : Int → Int → Prop) (g : Int → Int → V) : R2 := fun x y H Q => ∃ i j, x = .int i ∧ y = .int j ∧ C i j ∧ Q (g i j) H
def rI0 (g : Int → Int → V) : R2 := fun x y H Q => ∃ i j, x = .int i ∧ y = .int j ∧ Q (g i j) H
def rU (g : Int → V) : V → Hp → VK → Prop := fun x H Q => ∃ i, x = .int i ∧ Q (g i) H

section
variable {X : Cx} {a b c : Expr} {ta tb tc : TE} {pos : Pos}

theorem binT (ha : PE X a ta) (hb : PE X b tb) {pins : List (Addr × Obj)} {s : Shared} {σ : St} {H : Hp} {R : V → V → Hp → Prop} (I : Inv X pins σ H s)
    (h : ta σ H fun x H1 => tb σ H1 fun y H2 => R x y H2) {Q : Value → Shared → Prop} {f : Value → Value → Sem Value}
    (hf : ∀ v u s2 x y H2, Inv X pins σ H2 s2 → RelV x v → RelV y u → R x y H2 → wpAny (model X.prog X.w) X.A (f v u) Q X.xe s2) :
    wpAny (model X.prog X.w) X.A (eval a X.env) (fun v s₁ => wpAny (model X.prog X.w) X.A (eval b X.env) (fun u s₂ => wpAny (model X.prog X.w) X.A (f v u) Q X.xe s₂) X.xe s₁) X.xe s := by
  refine thn (ha pins s σ H _ I h) fun v s1 ⟨x, H1, I1, r1, q1⟩ => ?_
  refine thn (hb pins s1 σ H1 _ I1 q1) fun u s2 ⟨y, H2, I2, r2, q2⟩ => ?_
  exact hf v u s2 x y H2 I2 r1 r2 q2

theorem pe_op {op : Operator} {r : R2} (ho : OpR X (binaryOp op) r) (ha : PE X a ta) (hb : PE X b tb) : PE X (.BinOp a op b pos) (tOp r ta tb) := by
  intro pins s σ H Q I h
  exact wpAny_BinOp (binT ha hb I h fun v u s2 x y H2 I2 rx ry q => ho pins s2 σ H2 x y v u Q I2 rx ry q)
theorem pe_un {op : UnaryOp} {r : V → Hp → VK → Prop} (ho : UnR X (unaryOp op) r) (ha : PE X a ta) : PE X (.UnaryOp op a pos) (tUn r ta) := by
  intro pins s σ H Q I h
  exact UnaryOp_ (thn (ha pins s σ H _ I h) fun v s1 ⟨x, H1, I1, r1, q1⟩ => ho pins s1 σ H1 x v Q I1 r1 q1)
/-! ### ints -/
theorem opI {f : Value → Value → Sem Value} {C : Int → Int → Prop} {g : Int → Int → Int}
    (rule : ∀ (i j : Int) (t u : Tok) (s : Shared) (Q : Value → Shared → Prop) (E : Value → Shared → Prop), C i j → Q (.int (g i j) s.toks) { s with toks := s.toks + 1 } → wpAny (model X.prog X.w) X.A (f (.int i t) (.int j u)) Q E s) :
    OpR X f (rI C fun i j => .int (g i j)) := by
  intro pins s σ H x y v u Q I rx ry h
  obtain ⟨i, j, rfl, rfl, hc, q⟩ := h
  obtain ⟨t, rfl⟩ := rx
  obtain ⟨t', rfl⟩ := ry
  exact rule i j t t' s _ _ hc ⟨.int (g i j), H, I.tok _, ⟨_, rfl⟩, q⟩
theorem opI0 {f : Value → Value → Sem Value} {g : Int → Int → Int}
    (rule : ∀ (i j : Int) (t u : Tok) (s : Shared) (Q : Value → Shared → Prop) (E : Value → Shared → Prop), Q (.int (g i j) s.toks) { s with toks := s.toks + 1 } → wpAny (model X.prog X.w) X.A (f (.int i t) (.int j u)) Q E s) :
    OpR X f (rI0 fun i j => .int (g i j)) := by
  intro pins s σ H x y v u Q I rx ry h
  obtain ⟨i, j, rfl, rfl, q⟩ := h
  obtain ⟨t, rfl⟩ := rx
  obtain ⟨t', rfl⟩ := ry
  exact rule i j t t' s _ _ ⟨.int (g i j), H, I.tok _, ⟨_, rfl⟩, q⟩
theorem opB0 {f : Value → Value → Sem Value} {g : Int → Int → Bool}
    (rule : ∀ (i j : Int) (t u : Tok) (s : Shared) (Q : Value → Shared → Prop) (E : Value → Shared → Prop), Q (.bool (g i j)) s → wpAny (model X.prog X.w) X.A (f (.int i t) (.int j u)) Q E s) :
    OpR X f (rI0 fun i j => .bl (g i j)) := by
  intro pins s σ H x y v u Q I rx ry h
  obtain ⟨i, j, rfl, rfl, q⟩ := h
  obtain ⟨t, rfl⟩ := rx
  obtain ⟨t', rfl⟩ := ry
  exact rule i j t t' s _ _ ⟨.bl (g i j), H, I, rfl, q⟩

def CDiv (i j : Int) : Prop := 0 < j ∧ j < 1073741824
def CDivN (i j : Int) : Prop := j ≠ 0 ∧ j.natAbs < 1073741824
def CPow (i j : Int) : Prop := 0 ≤ j ∧ j ≤ 1000000 ∧ i.natAbs < 2 ^ 64
def CMul (i j : Int) : Prop := (-(2 ^ 64) < i ∧ i < 2 ^ 64) ∨ (-(2 ^ 64) < j ∧ j < 2 ^ 64)
theorem CMul.ok {i j : Int} (h : CMul i j) : IntMulOk i j := by
  rcases h with ⟨h1, h2⟩ | ⟨h1, h2⟩
  · exact .of_left (intBits_le_64 h1 h2)
  · exact .of_right (intBits_le_64 h1 h2)
theorem op_add : OpR X (binaryOp .Add) (rI0 fun i j => .int (i + j)) := opI0 fun _ _ _ _ _ _ _ q => add_int q
theorem op_sub : OpR X (binaryOp .Sub) (rI0 fun i j => .int (i - j)) := opI0 fun _ _ _ _ _ _ _ q => sub_int q
theorem op_mul : OpR X (binaryOp .Mult) (rI CMul fun i j => .int (i * j)) := opI fun _ _ _ _ _ _ _ hc q => mul_int q hc.ok
/-- // by a positive divisor -/
theorem op_fdiv : OpR X (binaryOp .FloorDiv) (rI CDiv fun i j => .int (i / j)) := opI fun i j _ _ _ _ _ hc q => by
  have h1 : (0 : Int) < j := hc.1
  have h2 : j < 1073741824 := hc.2
  exact floordiv_int (by omega) (by rw [Int.fdiv_eq_ediv_of_nonneg i (by omega)]; exact q) (.inl (PyProof.noPylong_small (by omega)))
/-- % by a positive divisor of any size -/
theorem op_mod : OpR X (binaryOp .Mod) (rI (fun _ j => 0 < j) fun i j => .int (i % j)) := opI fun i j _ _ _ _ _ hc q => by
  have h1 : (0 : Int) < j := hc
  exact mod_int' (by omega) (by rw [Int.fmod_eq_emod_of_nonneg i (by omega)]; exact q)
theorem op_pow : OpR X (binaryOp .Pow) (rI CPow fun i j => .int (i ^ j.toNat)) := opI fun _ _ _ _ _ _ _ hc q => pow_int_small hc.1 hc.2.1 hc.2.2 q
theorem unI {f : Value → Sem Value} {g : Int → Int}
    (rule : ∀ (i : Int) (t : Tok) (s : Shared) (Q : Value → Shared → Prop) (E : Value → Shared → Prop), Q (.int (g i) s.toks) { s with toks := s.toks + 1 } → wpAny (model X.prog X.w) X.A (f (.int i t)) Q E s) :
    UnR X f (rU fun i => .int (g i)) := by
  intro pins s σ H x v Q I rx h
  obtain ⟨i, rfl, q⟩ := h
  obtain ⟨t, rfl⟩ := rx
  exact rule i t s _ _ ⟨.int (g i), H, I.tok _, ⟨_, rfl⟩, q⟩
theorem un_neg : UnR X (unaryOp .USub) (rU fun i => .int (-i)) := unI fun _ _ _ _ _ q => neg_int q
/-! ### bools among ints: n += (a < b) -/
end

/-! ### comparisons -/
/-- the scalars that == tells apart as data does -/
def scal : V → V → Bool
  | .non, .non => true | .non, .int _ => true | .int _, .non => true | .non, .bl _ => true | .bl _, .non => true | .non, .str _ => true | .str _, .non => true
  | .int _, .int _ => true | .bl _, .bl _ => true | .str _, .str _ => true | .byt _, .byt _ => true
  | .int _, .str _ => true | .str _, .int _ => true | .bl _, .str _ => true | .str _, .bl _ => true
  | _, _ => false
def rEq : R2 := fun x y H Q => scal x y = true ∧ Q (.bl (decide (x = y))) H
def rNe : R2 := fun x y H Q => scal x y = true ∧ Q (.bl (!decide (x = y))) H

theorem dec_int {i j : Int} : decide (V.int i = V.int j) = (i == j) := by
  rw [Bool.eq_iff_iff]
  simp
theorem dec_bl {i j : Bool} : decide (V.bl i = V.bl j) = (i == j) := by
  rw [Bool.eq_iff_iff]
  simp
theorem dec_str {i j : Str} : decide (V.str i = V.str j) = (i == j) := by
  rw [Bool.eq_iff_iff]
  simp
theorem dec_byt {i j : Array UInt8} : decide (V.byt i = V.byt j) = (i.toList == j.toList) := by
  rw [Bool.eq_iff_iff]
  cases i
  cases j
  simp

section
variable {X : Cx} {a b c : Expr} {ta tb tc : TE} {pos : Pos}
theorem fin_bl {pins : List (Addr × Obj)} {σ : St} {H : Hp} {s : Shared} {Q : VK} {k k' : Bool} (I : Inv X pins σ H s) (q : Q (.bl k) H) (e : k = k') : EP X pins σ Q (.bool k') s := by
  subst e
  exact ⟨.bl k, H, I, rfl, q⟩
theorem op_eq : OpR X (compareOp .Eq) rEq := by
  intro pins s σ H x y v u Q I rx ry h
  obtain ⟨hs, q⟩ := h
  cases x with
  | non =>
    cases rx
    cases y with
    | non => cases ry; exact PySem.EqNone.eq_none_none (fin_bl I q (by simp))
    | bl j => cases ry; exact PySem.EqNone.eq_none_bool (fin_bl I q (by simp))
    | int j => obtain ⟨t', rfl⟩ := ry; exact PySem.EqNone.eq_none_int (fin_bl I q (by simp))
    | str j => obtain ⟨t', rfl⟩ := ry; exact PySem.EqNone.eq_none_str (fin_bl I q (by simp))
    | _ => exact absurd (show false = true from hs) Bool.false_ne_true
  | bl i =>
    cases rx
    cases y with
    | non => cases ry; exact PySem.EqNone.eq_bool_none (fin_bl I q (by simp))
    | bl j => cases ry; exact eq_bool (fin_bl I q dec_bl)
    | str j => obtain ⟨t', rfl⟩ := ry; exact PySem.EqMixed.eq_bool_str (fin_bl I q (by simp))
    | _ => exact absurd (show false = true from hs) Bool.false_ne_true
  | int i =>
    obtain ⟨t, rfl⟩ := rx
    cases y with
    | non => cases ry; exact PySem.EqNone.eq_int_none (fin_bl I q (by simp))
    | int j => obtain ⟨t', rfl⟩ := ry; exact eq_int (fin_bl I q dec_int)
    | str j => obtain ⟨t', rfl⟩ := ry; exact PySem.EqMixed.eq_int_str (fin_bl I q (by simp))
    | _ => exact absurd (show false = true from hs) Bool.false_ne_true
  | str i =>
    obtain ⟨t, rfl⟩ := rx
    cases y with
    | non => cases ry; exact PySem.EqNone.eq_str_none (fin_bl I q (by simp))
    | bl j => cases ry; exact PySem.EqMixed.eq_str_bool (fin_bl I q (by simp))
    | int j => obtain ⟨t', rfl⟩ := ry; exact PySem.EqMixed.eq_str_int (fin_bl I q (by simp))
    | str j => obtain ⟨t', rfl⟩ := ry; exact eq_str (fin_bl I q dec_str)
    | _ => exact absurd (show false = true from hs) Bool.false_ne_true
  | byt i =>
    obtain ⟨t, rfl⟩ := rx
    cases y with
    | byt j => obtain ⟨t', rfl⟩ := ry; exact PySem.W.eq_bytes (fin_bl I q dec_byt)
    | _ => exact absurd (show false = true from hs) Bool.false_ne_true
  | _ => cases y <;> exact absurd (show false = true from hs) Bool.false_ne_true
theorem op_ne : OpR X (compareOp .NotEq) rNe := by
  intro pins s σ H x y v u Q I rx ry h
  obtain ⟨hs, q⟩ := h
  cases x with
  | non =>
    cases rx
    cases y with
    | non => cases ry; exact PySem.EqNone.ne_none_none (fin_bl I q (by simp))
    | bl j => cases ry; exact PySem.EqNone.ne_none_bool (fin_bl I q (by simp))
    | int j => obtain ⟨t', rfl⟩ := ry; exact PySem.EqNone.ne_none_int (fin_bl I q (by simp))
    | str j => obtain ⟨t', rfl⟩ := ry; exact PySem.EqNone.ne_none_str (fin_bl I q (by simp))
    | _ => exact absurd (show false = true from hs) Bool.false_ne_true
  | bl i =>
    cases rx
    cases y with
    | non => cases ry; exact PySem.EqNone.ne_bool_none (fin_bl I q (by simp))
    | bl j => cases ry; exact ne_bool (fin_bl I q (congrArg not dec_bl))
    | str j => obtain ⟨t', rfl⟩ := ry; exact PySem.EqMixed.ne_bool_str (fin_bl I q (by simp))
    | _ => exact absurd (show false = true from hs) Bool.false_ne_true
  | int i =>
    obtain ⟨t, rfl⟩ := rx
    cases y with
    | non => cases ry; exact PySem.EqNone.ne_int_none (fin_bl I q (by simp))
    | int j => obtain ⟨t', rfl⟩ := ry; exact ne_int (fin_bl I q (congrArg not dec_int))
    | str j => obtain ⟨t', rfl⟩ := ry; exact PySem.EqMixed.ne_int_str (fin_bl I q (by simp))
    | _ => exact absurd (show false = true from hs) Bool.false_ne_true
  | str i =>
    obtain ⟨t, rfl⟩ := rx
    cases y with
    | non => cases ry; exact PySem.EqNone.ne_str_none (fin_bl I q (by simp))
    | bl j => cases ry; exact PySem.EqMixed.ne_str_bool (fin_bl I q (by simp))
    | int j => obtain ⟨t', rfl⟩ := ry; exact PySem.EqMixed.ne_str_int (fin_bl I q (by simp))
    | str j => obtain ⟨t', rfl⟩ := ry; exact ne_str (fin_bl I q (congrArg not dec_str))
    | _ => exact absurd (show false = true from hs) Bool.false_ne_true
  | byt i =>
    obtain ⟨t, rfl⟩ := rx
    cases y with
    | byt j => obtain ⟨t', rfl⟩ := ry; exact PySem.W.ne_bytes (fin_bl I q (congrArg not dec_byt))
    | _ => exact absurd (show false = true from hs) Bool.false_ne_true
  | _ => cases y <;> exact absurd (show false = true from hs) Bool.false_ne_true

theorem op_lt : OpR X (compareOp .Lt) (rI0 fun i j => .bl (decide (i < j))) := opB0 fun _ _ _ _ _ _ _ q => lt_int q
theorem op_le : OpR X (compareOp .LtE) (rI0 fun i j => .bl (decide (i ≤ j))) := opB0 fun _ _ _ _ _ _ _ q => le_int q
theorem op_gt : OpR X (compareOp .Gt) (rI0 fun i j => .bl (decide (j < i))) := opB0 fun _ _ _ _ _ _ _ q => gt_int q
theorem op_lt_str : OpR X (compareOp .Lt) (fun x y H Q => ∃ i j, x = .str i ∧ y = .str j ∧ Q (.bl (decide (i.cps.toList < j.cps.toList))) H) := by
  intro pins s σ H x y v u Q I rx ry h
  obtain ⟨i, j, rfl, rfl, q⟩ := h
  obtain ⟨t, rfl⟩ := rx
  obtain ⟨t', rfl⟩ := ry
  exact lt_str (fin_bl I q rfl)
/-- is, is not of two objects that are tracked lists or instances -/
def isObj : HO → Bool
  | .lst _ => true
  | .ins _ _ _ => true
  | _ => false
/-- two rules for one operation: by cases -/
theorem OpR.or {f : Value → Value → Sem Value} {r r' : R2} (h : OpR X f r) (h' : OpR X f r') : OpR X f (fun x y H Q => r x y H Q ∨ r' x y H Q) := by
  intro pins s σ H x y v u Q I rx ry q
  rcases q with q | q
  · exact h pins s σ H x y v u Q I rx ry q
  · exact h' pins s σ H x y v u Q I rx ry q

theorem nomark (b : Expr) {op : CmpOp} (h : op ≠ .In := by decide) (h2 : op ≠ .NotIn := by decide) : behindInMarks op b = false := by
  have e1 : (op == CmpOp.In) = false := by cases op <;> first | rfl | exact absurd rfl h
  have e2 : (op == CmpOp.NotIn) = false := by cases op <;> first | rfl | exact absurd rfl h2
  cases b <;> simp [behindInMarks, e1, e2]
/-- a comparison as a value; hm: nomark b, or (for in, not in) by with_unfolding_all rfl -/
theorem pe_cmpR {op : CmpOp} {r : R2} (ho : OpR X (compareOp op) r) (ha : PE X a ta) (hb : PE X b tb) (hm : behindInMarks op b = false) : PE X (.Compare a [op] [b] pos) (tOp r ta tb) := by
  intro pins s σ H Q I h
  exact wpAny_Compare1 (binT ha hb I h fun v u s2 x y H2 I2 rx ry q => ho pins s2 σ H2 x y v u Q I2 rx ry q) hm
/-- a reading of a value as a test -/
def tTest (t : TE) : TT := fun σ H Q => t σ H fun x H' => ∃ k, x = .bl k ∧ Q k H'
theorem pt_cmpR {op : CmpOp} {r : R2} (ho : OpR X (compareOp op) r) (ha : PE X a ta) (hb : PE X b tb) (hm : behindInMarks op b = false) : PT X (.Compare a [op] [b] pos) (tTest (tOp r ta tb)) := by
  intro pins s σ H Q I h
  refine wpAny_isTrue_Compare1 (thn (ha pins s σ H _ I h) fun v s1 ⟨x, H1, I1, r1, q1⟩ => thn (hb pins s1 σ H1 _ I1 q1) fun u s2 ⟨y, H2, I2, r2, q2⟩ =>
    thn (ho pins s2 σ H2 x y v u _ I2 r1 r2 q2) fun c s3 ⟨z, H3, I3, r3, k, e, q3⟩ => ?_) hm
  subst e
  cases r3
  exact wpAny_truthy_bool ⟨H3, I3, q3⟩
/-- a op1 b op2 c -/
def tChain (r r' : R2) (ta tb tc : TE) : TE := fun σ H Q => ta σ H fun x H1 => tb σ H1 fun y H2 => r x y H2 fun z H3 => ∃ k, z = .bl k ∧
  (if k = true then tc σ H3 fun w' H4 => r' y w' H4 Q else Q (.bl false) H3)
theorem pt_chain {op op' : CmpOp} {r r' : R2} (ho : OpR X (compareOp op) r) (ho' : OpR X (compareOp op') r') (ha : PE X a ta) (hb : PE X b tb) (hc : PE X c tc)
    (hm : lastMarks [op, op'] [b, c] = false := by with_unfolding_all rfl) : PT X (.Compare a [op, op'] [b, c] pos) (tTest (tChain r r' ta tb tc)) := by
  intro pins s σ H Q I h
  refine isTrue_chain (thn (ha pins s σ H _ I h) fun v s1 ⟨x, H1, I1, r1, q1⟩ => test_link (thn (hb pins s1 σ H1 _ I1 q1) fun u s2 ⟨y, H2, I2, r2, q2⟩ =>
    thn (ho pins s2 σ H2 x y v u _ I2 r1 r2 q2) fun d s3 ⟨z, H3, I3, r3, k, e, q3⟩ => ?_)) hm
  subst e
  cases r3
  refine wpAny_truthy_bool ?_
  cases k with
  | false =>
    obtain ⟨k', e', q'⟩ := q3
    cases e'
    exact ite_ff ⟨H3, I3, q'⟩
  | true =>
    refine ite_tt (test_last (thn (hc pins s3 σ H3 _ I3 q3) fun w' s4 ⟨z', H4, I4, r4, q4⟩ => thn (ho' pins s4 σ H4 y z' u w' _ I4 r2 r4 q4) fun d' s5 ⟨z2, H5, I5, r5, k2, e2, q5⟩ => ?_))
    subst e2
    cases r5
    exact wpAny_truthy_bool ⟨H5, I5, q5⟩

/-! ### truth -/
/-- a value's truth by the abstract heap -/
def TruV (K : PySem.W.Frag) (x : V) (H : Hp) (k : Bool) : Prop :=
  match x with
  | .non => k = false
  | .bl b => k = b
  | .int i => k = (i != 0)
  | .str y => y.length ≤ sizeLine ∧ k = ((y.length : Int) != 0)
  | .byt y => y.size ≤ sizeLine ∧ k = ((y.size : Int) != 0)
  | .ref p => (∃ xs, SqL K H p xs ∧ k = !xs.isEmpty) ∨ (∃ xs, SqT K H p xs ∧ k = !xs.isEmpty) ∨ ∃ kvs, H p = some (.dK kvs) ∧ k = !kvs.isEmpty
  | _ => False
theorem isEmpty_kv {κ : Type} {kvs : List (κ × V)} {vs : List (κ × Value)} (r : KV kvs vs) : (!vs.isEmpty) = !kvs.isEmpty := by
  cases r <;> rfl
theorem isEmpty_of {xs : List V} {its : List Value} (r : Vals xs its) : (!its.toArray.isEmpty) = !xs.isEmpty := by
  cases r <;> simp
theorem line63 : (sizeLine : Nat) < 2 ^ 63 := by rw [sizeLine_eq]; decide
theorem tru_ok : TruR X (fun x H Q => ∃ k, TruV X.K x H k ∧ Q k H) := by
  intro pins s σ H x v Q I rx h
  obtain ⟨k, e, q⟩ := h
  have hl := line63
  have hs : sizeLine = 16777216 := sizeLine_eq
  cases x with
  | non =>
    cases rx
    have e' : k = false := e
    subst e'
    exact truthy_none ⟨H, I, q⟩
  | bl b =>
    cases rx
    have e' : k = b := e
    subst e'
    exact wpAny_truthy_bool ⟨H, I, q⟩
  | int i =>
    obtain ⟨t, rfl⟩ := rx
    have e' : k = (i != 0) := e
    subst e'
    exact PySem.P.truthy_int ⟨H, I, q⟩
  | str y =>
    obtain ⟨t, rfl⟩ := rx
    obtain ⟨hy, e'⟩ : y.length ≤ sizeLine ∧ k = ((y.length : Int) != 0) := e
    subst e'
    exact PySem.P.truthy_str (by omega) ⟨H, I.tok _, q⟩
  | byt y =>
    obtain ⟨t, rfl⟩ := rx
    obtain ⟨hy, e'⟩ : y.size ≤ sizeLine ∧ k = ((y.size : Int) != 0) := e
    subst e'
    exact PySem.W.truthy_bytes (by omega) ⟨H, I.tok _, q⟩
  | ref p =>
    cases rx
    have e' : (∃ xs, SqL X.K H p xs ∧ k = !xs.isEmpty) ∨ (∃ xs, SqT X.K H p xs ∧ k = !xs.isEmpty) ∨ ∃ kvs, H p = some (.dK kvs) ∧ k = !kvs.isEmpty := e
    rcases e' with ⟨xs, hx, e'⟩ | ⟨xs, hx, e'⟩ | ⟨kvs, hx, e'⟩
    · subst e'
      obtain ⟨its, r, pl, hz⟩ := I.list hx
      have hlen := r.length
      exact wpAny_truthy_list pl.isList (by simp only [List.size_toArray]; omega) ⟨H, I.tok _, by rw [isEmpty_of r]; exact q⟩
    · subst e'
      obtain ⟨its, r, pl, hz⟩ := I.tuple hx
      have hlen := r.length
      exact truthy_tuple pl (by simp only [List.size_toArray]; omega) ⟨H, I.tok _, by rw [isEmpty_of r]; exact q⟩
    · subst e'
      obtain ⟨hz, hS, vs, r, m⟩ : kvs.length ≤ sizeLine ∧ (p == sysModules) = false ∧ ∃ vs, KV kvs vs ∧ s.heap.DictOf (mixKind X.prog X.w) p vs := I.hok p _ hx
      have hlen : kvs.length = vs.length := Paired.length r
      exact wpAny_truthy_dict hS m (by omega) ⟨H, I.tok _, by rw [isEmpty_kv r]; exact q⟩
  | _ => exact (show False from e).elim
/-- any expression whose test is its value's truth (a name, a call, a subscript, a field ..: he by fun _ => rfl) -/
theorem pt_truth (ha : PE X a ta) (he : ∀ whole, isTrue a X.env whole = (do let v ← whole; standAt a.pos; holding [v] (truthy v))) :
    PT X a (fun σ H Q => ta σ H fun x H' => ∃ k, TruV X.K x H' k ∧ Q k H') := by
  intro pins s σ H Q I h
  exact isTrue_plain (thn (ha pins s σ H _ I h) fun v s1 ⟨x, H1, I1, r1, q1⟩ => tru_ok pins s1 σ H1 x v Q I1 r1 q1) (he _)

/-! ### strs and bytes -/
theorem op_add_str : OpR X (binaryOp .Add) (fun x y H Q => ∃ i j, x = .str i ∧ y = .str j ∧ i.length + j.length ≤ sizeLine ∧ Q (.str (i ++ j)) H) := by
  intro pins s σ H x y v u Q I rx ry h
  obtain ⟨i, j, rfl, rfl, hz, q⟩ := h
  obtain ⟨t, rfl⟩ := rx
  obtain ⟨t', rfl⟩ := ry
  exact add_str (fun t' tk => ⟨.str (i ++ j), H, I.tok _, ⟨_, rfl⟩, q⟩) hz
def PlainIxT (b : Expr) : Prop := ∀ o i, subscripted b false o i = operate [o, i] (getItem o i)
/-! ### scalar builtins, by CallR -/
theorem vals1 {x : V} {us : List Value} (r : Vals [x] us) : ∃ u, us = [u] ∧ RelV x u := by
  cases r with
  | cons r1 r2 => cases r2; exact ⟨_, rfl, r1⟩
theorem vals2 {x y : V} {us : List Value} (r : Vals [x, y] us) : ∃ u w', us = [u, w'] ∧ RelV x u ∧ RelV y w' := by
  cases r with
  | cons r1 r2 =>
    cases r2 with
    | cons r3 r4 => cases r4; exact ⟨_, _, rfl, r1, r3⟩
theorem call_max2 (hc : X.calm = true) : CallR X (.builtin "max") (fun xs H Q => ∃ i j, xs = [.int i, .int j] ∧ Q (.int (if j > i then j else i)) H) := by
  intro pins s σ H xs us Q I r h
  obtain ⟨i, j, rfl, q⟩ := h
  obtain ⟨u, w', rfl, ⟨t, rfl⟩, ⟨t', rfl⟩⟩ := vals2 r
  refine max_two_ints (I.ok.hd hc) fun h' tk k => ⟨_, H, I.kept k, ?_, q⟩
  by_cases hj : j > i
  · rw [if_pos hj, if_pos hj]; exact ⟨_, rfl⟩
  · rw [if_neg hj, if_neg hj]; exact ⟨_, rfl⟩
/-- len of a str, a bytes, a list, a tuple -/
def LenV (K : PySem.W.Frag) (x : V) (H : Hp) (n : Nat) : Prop :=
  match x with
  | .str y => y.length ≤ sizeLine ∧ n = y.length
  | .byt y => y.size ≤ sizeLine ∧ n = y.size
  | .ref p => (∃ xs, SqL K H p xs ∧ n = xs.length) ∨ ∃ xs, SqT K H p xs ∧ n = xs.length
  | _ => False
end
end L2

namespace L2
open PySem PySem.Spec PyProof.Rows

/-! ### an instance, its attributes a map -/
structure ObjM (h : Heap) (x dx C : Addr) (mA : Str → Option Value) : Prop where
  obj : h.get? x = some (PySem.W.instObj C dx)
  ns : h.Ns1 dx mA
  ne : dx ≠ x

theorem lookIn_ns {h : Heap} {dx : Addr} {mA : Str → Option Value} (n : h.Ns1 dx mA) : ∃ od, h.get? dx = some od ∧ ∀ name, PySem.W.lookIn name od = some (mA name) := by
  obtain ⟨o, es, ep, ho, hd, hk, _, hm⟩ := n
  refine ⟨o, ho, fun name => ?_⟩
  have e := hm name
  unfold nsFind findBy at e
  rw [← Array.find?_toList] at e
  unfold PySem.W.lookIn
  rw [hd]
  dsimp only
  split
  · rename_i y q
    rw [q] at e
    exact congrArg some e
  · rename_i q
    rw [q] at e
    have a : es.toList.any (·.refKey) = false := by
      rw [List.any_eq_false]
      intro y hy
      obtain ⟨z, t, hkey⟩ := hk y (Array.mem_toList_iff.mp hy)
      simp [DictEntry.refKey, hkey]
    have a' : ¬ es.toList.any (·.refKey) = true := by rw [a]; exact Bool.false_ne_true
    rw [if_neg a']
    exact congrArg some e

theorem ObjM.look {h : Heap} {x dx C : Addr} {mA : Str → Option Value} (I : ObjM h x dx C mA) : ∃ od, PySem.W.InstAt h x (PySem.W.instObj C dx) C (some od) ∧ ∀ name, PySem.W.lookIn name od = some (mA name) :=
  let ⟨od, ho, hl⟩ := lookIn_ns I.ns
  ⟨od, ⟨I.obj, rfl, rfl, ho⟩, hl⟩

section
variable {prog : Program} {w : World} {A : Around} {E : Value → Shared → Prop} {s : Shared} {K : PySem.W.Frag} {x dx C f : Addr} {mA : Str → Option Value} {name : Str} {v : Value}

end

/-! ### the attributes as a list of pairs -/
def putF (f : Str) (v : V) : List (Str × V) → List (Str × V)
  | [] => [(f, v)]
  | (g, x) :: r => if g = f then (g, v) :: r else (g, x) :: putF f v r
section
variable {P : Program} {w : World} {H H' : Hp} {h h' : Heap} {a C dx : Addr} {fs fs' : List (Str × V)}
theorem ins_get (hok : HOk P w H h) (e : H a = some (.ins C dx fs)) : ∃ mA, ObjM h a dx C mA ∧ (∀ f, RelO (fs.lookup f) (mA f)) ∧ PySem.Within mA (fs.map (·.1)) ∧ fs.length ≤ 1000 ∧ H dx = some (.own a) := by
  obtain ⟨d, z, ne, ob, mA, n, r, q⟩ := (show ObjOk P w H h a (.ins C dx fs) from hok a _ e)
  exact ⟨mA, ⟨ob, n, ne⟩, r, q, z, d⟩
end

/-! ### what of the text a class must have -/
structure Cls (K : PySem.W.Frag) (C : Addr) : Prop where
  pg : PySem.W.plainGet K C Str.empty = true
  hd : PySem.W.hasDictIn K C = true
  po : PySem.W.plainOver K C = true
  sa : PySem.W.findIn K (.ref C) "__setattr__" = some (some (.builtin "object.__setattr__"))
theorem Cls.get {K : PySem.W.Frag} {C : Addr} (c : Cls K C) (f : Str) : PySem.W.plainGet K C f = true := c.pg
/-- no class of it has the name -/
def NoAttr (K : PySem.W.Frag) (C : Addr) (f : Str) : Prop := PySem.W.findIn K (.ref C) f = some none
/-- a constant of the class -/
structure Con (K : PySem.W.Frag) (C : Addr) (f : Str) (v : V) (u : Value) : Prop where
  at_ : PySem.W.findIn K (.ref C) f = some (some u)
  rel : RelV v u
  get : PySem.W.specialIn K u "__get__" = some none
  cp : PySem.W.copiedNames.contains f = false
/-- a method: a plain def of the class or of one above it -/
structure Meth (K : PySem.W.Frag) (C : Addr) (m : Str) (f : Addr) : Prop where
  at_ : PySem.W.findIn K (.ref C) m = some (some (.ref f))
  fn : PySem.W.isFn K (.ref f) = true
  kp : PySem.W.keepIn K (.ref f) = true

section
variable {X : Cx} {pins : List (Addr × Obj)} {σ : St} {H : Hp} {s : Shared} {a C dx : Addr} {fs : List (Str × V)} {f : Str} {v : V} {A : Around} {E : Value → Shared → Prop}

/-- a new instance, tracked, without attributes -/
theorem Inv.made (I : Inv X pins σ H s) : Inv X pins σ (upd (upd H s.heap.objs.size (.own (s.heap.objs.size + 1))) (s.heap.objs.size + 1) (.ins C s.heap.objs.size []))
    { s with heap := (s.heap.push PySem.W.emptyDict).push (PySem.W.instObj C s.heap.objs.size) } := by
  have e1 : (s.heap.push PySem.W.emptyDict).get? s.heap.objs.size = some PySem.W.emptyDict := Heap.get?_push_size s.heap rfl
  have e2 : ((s.heap.push PySem.W.emptyDict).push (PySem.W.instObj C s.heap.objs.size)).get? (s.heap.objs.size + 1) = some (PySem.W.instObj C s.heap.objs.size) := by
    have := Heap.get?_push_size (s.heap.push PySem.W.emptyDict) (o := PySem.W.instObj C s.heap.objs.size) rfl
    rwa [Heap.size_push] at this
  have e3 : (s.heap.push PySem.W.emptyDict).Ns s.heap.objs.size (fun _ => none) := ⟨PySem.W.emptyDict, #[], _, e1, rfl, (fun e he => absurd he (by simp)), fun _ => rfl⟩
  have I1 := I.laid (a := s.heap.objs.size) (o := .own (s.heap.objs.size + 1)) (h' := s.heap.push PySem.W.emptyDict) (t' := s.toks) (fun b u q => Heap.get?_push_of_some _ q) (Nat.le_refl _) ⟨_, e1⟩
  refine I1.laid (a := s.heap.objs.size + 1) (o := .ins C s.heap.objs.size []) (t' := s.toks) (fun b u q => Heap.get?_push_of_some _ q) (Nat.le_of_eq (Heap.size_push _ _)) ?_
  have ne : s.heap.objs.size ≠ s.heap.objs.size + 1 := Nat.ne_of_lt (Nat.lt_succ_self _)
  refine ⟨by rw [upd_ne ne, upd_same], Nat.zero_le _, ne, e2, fun _ => none, (Heap.Ns1.of_empty e3).at fun o q => Heap.get?_push_of_some _ q, fun _ => True.intro, fun y hy => absurd rfl hy⟩

end

/-! ### readings and rules -/
/-- e.f, an attribute of the instance -/
def tFld (K : PySem.W.Frag) (ta : TE) (f : Str) : TE := fun σ H Q => ta σ H fun x H1 => ∃ a C dx fs v, x = .ref a ∧ H1 a = some (.ins C dx fs) ∧ Cls K C ∧ NoAttr K C f ∧ fs.lookup f = some v ∧ Q v H1
/-- e.f, a constant of the class -/
def tCon (K : PySem.W.Frag) (ta : TE) (f : Str) : TE := fun σ H Q => ta σ H fun x H1 => ∃ a C dx fs v u, x = .ref a ∧ H1 a = some (.ins C dx fs) ∧ Cls K C ∧ Con K C f v u ∧ fs.lookup f = none ∧ Q v H1
/-- e.f = value -/
def sFld (K : PySem.W.Frag) (ta tv : TE) (f : Str) : TS := fun D σ H => tv σ H fun y H1 => ta σ H1 fun x H2 => ∃ a C dx fs, x = .ref a ∧ H2 a = some (.ins C dx fs) ∧ Cls K C ∧ NoAttr K C f ∧ fs.length < 1000 ∧
  D.nx σ (upd H2 a (.ins C dx (putF f y fs)))
/-- an augmented operator on two values -/
def InOp (X : Cx) (op : Operator) (rd : V → V → Hp → VK → Prop) : Prop :=
  ∀ (pins : List (Addr × Obj)) (s : Shared) (σ : St) (H : Hp) (x y : V) (u v : Value) (Q : VK), Inv X pins σ H s → RelV x u → RelV y v → rd x y H Q → wpAny (model X.prog X.w) X.A (inplaceOp op u v) (EP X pins σ Q) X.xe s
/-- e.f op= value -/
def sFldAug (K : PySem.W.Frag) (ta tv : TE) (rd : V → V → Hp → VK → Prop) (f : Str) : TS := fun D σ H => ta σ H fun x H1 => ∃ a C dx fs v, x = .ref a ∧ H1 a = some (.ins C dx fs) ∧ Cls K C ∧ NoAttr K C f ∧ fs.lookup f = some v ∧
  tv σ H1 fun y H2 => rd v y H2 fun z H3 => ∃ dx' fs', H3 a = some (.ins C dx' fs') ∧ fs'.length < 1000 ∧ D.nx σ (upd H3 a (.ins C dx' (putF f z fs')))

section
variable {X : Cx} {o e value : Expr} {f : Str} {pos pos' tpos : Pos} {ta tv : TE}
def rAdd : V → V → Hp → VK → Prop := fun x y H Q => ∃ i j, x = .int i ∧ y = .int j ∧ Q (.int (i + j)) H
def rSub : V → V → Hp → VK → Prop := fun x y H Q => ∃ i j, x = .int i ∧ y = .int j ∧ Q (.int (i - j)) H
end

/-! ### isinstance -/
section
variable {X : Cx} {pins : List (Addr × Obj)} {σ : St} {H : Hp} {s : Shared} {A : Around} {E : Value → Shared → Prop} {Q : Value → Shared → Prop} {c : Value} {b : Bool}
/-- the type of a value, as the fragment's deciders take it; for an instance its class -/
inductive TyOf (K : PySem.W.Frag) (H : Hp) : V → Value → Prop where
  | non : TyOf K H .non (.type "NoneType")
  | bl (x : Bool) : TyOf K H (.bl x) (.type "bool")
  | int (i : Int) : TyOf K H (.int i) (.type "int")
  | str (x : Str) : TyOf K H (.str x) (.type "str")
  | flt (x : UInt64) : TyOf K H (.flt x) (.type "float")
  | lst {a : Addr} {xs : List V} (e : H a = some (.lst xs)) : TyOf K H (.ref a) (.type "list")
  | frz {a : Addr} {o : Obj} {xs : List V} (e : H a = some (.frz o (.lst xs))) : TyOf K H (.ref a) (.type "list")
  | tup {a : Addr} {xs : List V} (e : H a = some (.tup xs)) : TyOf K H (.ref a) (.type "tuple")
  | dK {a : Addr} {kvs : List (Key × V)} (e : H a = some (.dK kvs)) : TyOf K H (.ref a) (.type "dict")
  | dT {a : Addr} {kvs : List (List Key × V)} (e : H a = some (.dT kvs)) : TyOf K H (.ref a) (.type "dict")
  | ins {a C dx : Addr} {fs : List (Str × V)} (e : H a = some (.ins C dx fs)) (cl : Cls K C) (ha : PySem.W.findIn K (.ref C) "__class__" = some (some (.builtin "object.__class__")))
      (hn : PySem.W.specialIn K (.builtin "object.__class__") "__get__" = some (some (.builtin "getset_descriptor.__get__"))) (htk : PySem.W.takesIn K (.builtin "object.__class__") = some true)
      (hm : PySem.W.mroIn K C (.type "object") = some true) : TyOf K H (.ref a) (.ref C)
/-- isinstance(x, c) for one class c, a built-in or an own one: kitOne's answer -/
theorem isinst_ok {x : V} {u t : Value} (I : Inv X pins σ H s) (rx : RelV x u) (ty : TyOf X.K H x t) (e : PySem.W.kitOne X.K t c = some b) (h : ∀ tk, Q (.bool b) { s with toks := tk }) :
    wpAny (model X.prog X.w) A (call (.builtin "isinstance") [u, c]) Q E s := by
  cases ty with
  | non => cases (show u = Value.none from rx); exact PySem.W.kia_one PySem.W.kitx_none I.kIn True.intro e (fun z => nomatch z) h
  | bl y => cases (show u = Value.bool y from rx); exact PySem.W.kia_one PySem.W.kitx_bool I.kIn True.intro e (fun z => nomatch z) h
  | int i => obtain ⟨t, q⟩ := (show ∃ t, u = Value.int i t from rx); cases q; exact PySem.W.kia_one PySem.W.kitx_int I.kIn True.intro e (fun z => nomatch z) h
  | str y => obtain ⟨t, q⟩ := (show ∃ t, u = Value.str y t from rx); cases q; exact PySem.W.kia_one PySem.W.kitx_str I.kIn True.intro e (fun z => nomatch z) h
  | flt y => obtain ⟨t, q⟩ := (show ∃ t, u = Value.float y t from rx); cases q; exact PySem.W.kia_one PySem.W.kitx_float I.kIn True.intro e (fun z => nomatch z) h
  | @lst a xs ea =>
    cases (show u = Value.ref a from rx)
    obtain ⟨_, _, n, _, h1⟩ := (show ObjOk X.prog X.w H s.heap a (.lst xs) from I.hok a _ ea)
    exact PySem.W.kia_one PySem.W.kitx_list I.kIn ⟨_, h1, rfl⟩ e (fun z => nomatch z) h
  | @frz a ob xs ea =>
    cases (show u = Value.ref a from rx)
    obtain ⟨_, _, _, n, _, h1⟩ := (show ObjOk X.prog X.w H s.heap a (.frz ob (.lst xs)) from I.hok a _ ea)
    exact PySem.W.kia_one PySem.W.kitx_list I.kIn ⟨_, h1, rfl⟩ e (fun z => nomatch z) h
  | @tup a xs ea =>
    cases (show u = Value.ref a from rx)
    obtain ⟨_, _, _, p⟩ := (show ObjOk X.prog X.w H s.heap a (.tup xs) from I.hok a _ ea)
    obtain ⟨o, h1, h2, _⟩ := p
    exact PySem.W.kia_one PySem.W.kitx_tuple I.kIn ⟨o, h1, h2⟩ e (fun z => nomatch z) h
  | @dK a kvs ea =>
    cases (show u = Value.ref a from rx)
    obtain ⟨_, _, vs, _, p⟩ := (show ObjOk X.prog X.w H s.heap a (.dK kvs) from I.hok a _ ea)
    obtain ⟨o, es, ep, h1, h2, _⟩ := p
    exact PySem.W.kia_one PySem.W.kitx_dict I.kIn ⟨o, h1, h2.1⟩ e (fun z => nomatch z) h
  | @dT a kvs ea =>
    cases (show u = Value.ref a from rx)
    obtain ⟨_, _, xs, _, o, es, ep, h1, h2, _⟩ := (show ObjOk X.prog X.w H s.heap a (.dT kvs) from I.hok a _ ea)
    exact PySem.W.kia_one PySem.W.kitx_dict I.kIn ⟨o, h1, h2.1⟩ e (fun z => nomatch z) h
  | @ins a C dx fs ea cl ha hn htk hm =>
    cases (show u = Value.ref a from rx)
    obtain ⟨mA, O, _⟩ := ins_get I.hok ea
    obtain ⟨od, J, _⟩ := O.look
    exact PySem.W.kia_one (PySem.W.kitx_own (cl.get _) cl.hd ha hn htk hm) I.kIn J e (fun z => nomatch z) h
end
end L2

namespace L2
open PySem PySem.Spec PyProof.Rows

/-! ### room -/
structure Room (k : Nat) (A : Around) : Prop where
  hd : A.handled = none
  dp : A.depth + 3 * k + 5 < recursionLimit
  un : A.units + 16 * k + 200 < cLine
theorem Room.mono {j k : Nat} {A : Around} (r : Room k A) (h : j ≤ k) : Room j A := ⟨r.hd, by have := r.dp; omega, by have := r.un; omega⟩
theorem Room.deeper {k : Nat} {A : Around} (r : Room (k + 1) A) (env : Env) : Room k (A.deeper env) :=
  ⟨r.hd, by have := r.dp; show A.depth + 1 + 3 * k + 5 < _; omega, by have := r.un; show A.units + 3 + 16 * k + 200 < _; omega⟩
theorem Room.in1 {k : Nat} {A : Around} (r : Room (k + 1) A) : Room k A.in1 :=
  ⟨r.hd, by have := r.dp; show A.depth + 3 * k + 5 < _; omega, by have := r.un; show A.units + 1 + 16 * k + 200 < _; omega⟩
theorem Room.depth {k : Nat} {A : Around} (r : Room k A) : A.depth < recursionLimit := by have := r.dp; omega
theorem Room.units {k : Nat} {A : Around} (r : Room k A) : A.units + 64 < cLine := by have := r.un; omega
/-! ### argument lists and displays -/
def tNil : TA := fun _ H Q => Q [] H
def tCons (ta : TE) (tr : TA) : TA := fun σ H Q => ta σ H fun x H1 => tr σ H1 fun xs H2 => Q (x :: xs) H2
section
variable {X : Cx} {e : Expr} {es : List Expr} {te : TE} {t : TA} {pos : Pos}
theorem pa_nil : PA X [] tNil := fun _ _ _ _ H Q I h => Calls.spliced_nil ⟨[], H, I, .nil, h⟩
theorem pa_cons (ha : PE X e te) (hr : PA X es t) (hs : starEach (e :: es) X.env = (false, eval e X.env) :: starEach es X.env := by rfl) : PA X (e :: es) (tCons te t) := by
  intro pos pins s σ H Q I h
  rw [hs]
  show wpAny _ _ (spliced ((false, eval e X.env) :: backTo pos (starEach es X.env))) _ _ s
  refine Calls.spliced_cons (thn (ha pins s σ H _ I h) fun u s1 ⟨x, H1, I1, r1, q1⟩ => ?_)
  exact thn (hr pos pins s1 σ H1 _ I1 q1) fun us s2 ⟨xs, H2, I2, r2, q2⟩ => ⟨x :: xs, H2, I2, .cons r1 r2, q2⟩

/-- a tuple, a list of written items -/
def tTup (t : TA) : TE := fun σ H Q => t σ H fun xs H1 => xs.length ≤ sizeLine ∧ ∀ p, H1 p = none → Q (.ref p) (upd H1 p (.tup xs))
def tLst (t : TA) : TE := fun σ H Q => t σ H fun xs H1 => xs.length ≤ sizeLine ∧ ∀ p, H1 p = none → Q (.ref p) (upd H1 p (.lst xs))
theorem pe_tup {x1} (h : PA X es t) : PE X (.Tuple es x1 pos) (tTup t) := by
  intro pins s σ H Q I hq
  refine wpAny_Tuple_spliced (thn (h pos pins s σ H _ I hq) fun us s1 ⟨xs, H1, I1, r, z, q⟩ => ⟨by rw [← r.length]; exact z, ?_⟩)
  have hf : H1 s1.heap.objs.size = none := I1.hok.fresh (Nat.le_refl _)
  refine ⟨.ref s1.heap.objs.size, upd H1 s1.heap.objs.size (.tup xs), I1.laid (t' := s1.toks) (fun b u e => Heap.get?_push_of_some _ e) (Nat.le_refl _) ?_, rfl, q _ hf⟩
  exact ⟨z, us, r, ⟨_, Heap.get?_push_size _ rfl, rfl, _, rfl⟩⟩
theorem pe_lst (h : PA X es t) : PE X (.List es pos) (tLst t) := by
  intro pins s σ H Q I hq
  refine wpAny_List_spliced (thn (h pos pins s σ H _ I hq) fun us s1 ⟨xs, H1, I1, r, z, q⟩ => ⟨by rw [← r.length]; exact z, ?_⟩)
  have hf : H1 s1.heap.objs.size = none := I1.hok.fresh (Nat.le_refl _)
  refine ⟨.ref s1.heap.objs.size, upd H1 s1.heap.objs.size (.lst xs), I1.laid (t' := s1.toks) (fun b u e => Heap.get?_push_of_some _ e) (Nat.le_refl _) ?_, rfl, q _ hf⟩
  exact ⟨z, us, 0, r, Heap.get?_push_size _ rfl⟩
end

/-! ### what a def promises -/
/-- a def's promise: the bound arguments in the parameters' order, the heap, the wanted end, the wanted exception -/
abbrev Sp := List V → Hp → VK → XK → Prop
/-- how an exception lies behind a call (file 08 gives it): the callers' frames, abstract heap and state ahead of the call, the wish, the exception, the state -/
abbrev CXT := List Env → Hp → Shared → XK → Value → Shared → Prop

/-- the state at a call -/
structure Env0 (P : Program) (w : World) (K : PySem.W.Frag) (mg : Str → Option Value) (base : Heap) (A : Around) (outer : List Env) (s : Shared) (H : Hp) : Prop where
  frames : A.frames = some outer
  mod : Mod K mg base
  bs : ∀ b o, base.get? b = some o → s.heap.get? b = some o ∧ H b = none
  bsz : base.objs.size ≤ s.heap.objs.size
  funs : s.heap.FunFrames base outer
  frf : ∀ b ∈ frs outer, H b = none
  hok : HOk P w H s.heap
  bare : AllBare s.gens
/-- a call's end -/
def CE (outer : List Env) (P : Program) (w : World) (H : Hp) (s : Shared) (Q : VK) (u : Value) (s' : Shared) : Prop :=
  ∃ v H', s'.os = s.os ∧ AllBare s'.gens ∧ Un (frs outer) [] H H' s.heap s'.heap ∧ HOk P w H' s'.heap ∧ RelV v u ∧ Q v H'
def CR (CX : CXT) (outer : List Env) (P : Program) (w : World) (H : Hp) (s : Shared) (Q : VK) (E : XK) (r : Result) (s' : Shared) : Prop :=
  match r with
  | .ok (.ret u) => CE outer P w H s Q u s'
  | .ok _ => False
  | .error e => CX outer H s E e s'
structure FnOk (P : Program) (w : World) (K : PySem.W.Frag) (mg : Str → Option Value) (base : Heap) (CX : CXT) (k : Nat) (f : Addr) (fd : FuncData) (ps : List Str) (sp : Sp) : Prop where
  len : ∀ vs H Q E, sp vs H Q E → vs.length = ps.length
  run : ∀ (A : Around) (outer : List Env) (s : Shared) (H : Hp) (args : Args) (us : List Value) (vs : List V) (Q : VK) (E : XK), Room k A → Env0 P w K mg base A outer s H → BindsTo s fd args (ps.zip us) → Vals vs us → sp vs H Q E →
    codeAny (model P w) A (.call (.ref f) args) (CR CX outer P w H s Q E) s
theorem FnOk.mono {P : Program} {w : World} {K : PySem.W.Frag} {mg : Str → Option Value} {base : Heap} {CX : CXT} {j k : Nat} {f : Addr} {fd : FuncData} {ps : List Str} {sp : Sp} (F : FnOk P w K mg base CX j f fd ps sp) (h : j ≤ k) :
    FnOk P w K mg base CX k f fd ps sp := ⟨F.len, fun A outer s H args us vs Q E hr => F.run A outer s H args us vs Q E (hr.mono h)⟩
/-- a weaker promise -/
theorem FnOk.imp {P : Program} {w : World} {K : PySem.W.Frag} {mg : Str → Option Value} {base : Heap} {CX : CXT} {k : Nat} {f : Addr} {fd : FuncData} {ps : List Str} {sp sp' : Sp} (F : FnOk P w K mg base CX k f fd ps sp)
    (h : ∀ vs H Q E, sp' vs H Q E → sp vs H Q E) : FnOk P w K mg base CX k f fd ps sp' :=
  ⟨fun vs H Q E q => F.len vs H Q E (h _ _ _ _ q), fun A outer s H args us vs Q E hr he hb hv hs => F.run A outer s H args us vs Q E hr he hb hv (h _ _ _ _ hs)⟩

theorem Env0.in1 {P : Program} {w : World} {K : PySem.W.Frag} {mg : Str → Option Value} {base : Heap} {A : Around} {outer : List Env} {s : Shared} {H : Hp} (e : Env0 P w K mg base A outer s H) :
    Env0 P w K mg base A.in1 outer s H := ⟨e.frames, e.mod, e.bs, e.bsz, e.funs, e.frf, e.hok, e.bare⟩

section
variable {X : Cx} {pins : List (Addr × Obj)} {σ : St} {H : Hp} {s s' : Shared}
/-- from a body: what a callee wants -/
theorem Inv.env0 (I : Inv X pins σ H s) : Env0 X.prog X.w X.K X.mg X.base X.A X.stack s H :=
  ⟨I.ok.frames, I.ok.mod, I.bs, Nat.le_trans I.ok.bsz I.sz, I.stack, I.stkFree, I.hok, I.bare⟩
/-- behind a call -/
theorem Inv.after {Q : VK} {u : Value} (I : Inv X pins σ H s) (h : CE X.stack X.prog X.w H s Q u s') : EP X pins σ Q u s' := by
  obtain ⟨v, H', os, bare, un, hok, r, q⟩ := h
  obtain ⟨hh, g, d, t, os'⟩ := s'
  obtain rfl : os' = s.os := os
  exact ⟨v, H', I.call (h' := hh) (g' := g) (d' := d) (t' := t) (ch := []) un hok bare (fun b z => absurd z (by simp)), r, q⟩
end

/-! ### calls -/
/-- f(..): the written arguments, then the defaults dvs; E: what is wanted of an exception -/
def tCall (sp : Sp) (dvs : List V) (E : XK) (t : TA) : TE := fun σ H Q => t σ H fun vs H1 => sp (vs ++ dvs) H1 Q E
/-- o.m(..) of an instance of the class at C -/
def tMeth (C : Addr) (m : Str) (sp : Sp) (dvs : List V) (E : XK) (ta : TE) (t : TA) : TE := fun σ H Q => ta σ H fun x H1 => ∃ a dx fs, x = .ref a ∧ H1 a = some (.ins C dx fs) ∧ fs.lookup m = none ∧
  t σ H1 fun vs H2 => sp (x :: (vs ++ dvs)) H2 Q E
/-- C(..): a new instance and its dict, then __init__ -/
def tMake (C : Addr) (sp : Sp) (dvs : List V) (E : XK) (t : TA) : TE := fun σ H Q => t σ H fun vs H1 => ∀ x dx, H1 x = none → H1 dx = none → dx ≠ x →
  sp (.ref x :: (vs ++ dvs)) (upd (upd H1 dx (.own x)) x (.ins C dx [])) (fun v H2 => v = .non ∧ Q (.ref x) H2) E

/-- how the parameters are bound: us the positional arguments, kw the keywords' values by name, ds the defaults that fill up -/
def Binds (K : PySem.W.Frag) (fd : FuncData) (ps : List Str) (ds : List Value) : Prop :=
  ∀ (s : Shared) (us : List Value), K.In s.heap → (us ++ ds).length = ps.length → BindsTo s fd ⟨us, []⟩ (ps.zip (us ++ ds))
/-- every parameter is given -/
theorem Binds.all {K : PySem.W.Frag} {fd : FuncData} {ps : List Str} (h : ∀ us : List Value, us.length = ps.length → bindArgs fd ⟨us, []⟩ = pure (ps.zip us)) : Binds K fd ps [] := fun s us _ hl => by
  rw [List.append_nil] at hl ⊢
  exact .of_eq (h us hl)

/-- an exception of a callee reaches what this body wants of exceptions -/
def Passes (CX : CXT) (X : Cx) (E : XK) : Prop := ∀ (pins : List (Addr × Obj)) (σ : St) (H : Hp) (s : Shared) (e : Value) (s' : Shared), Inv X pins σ H s → CX X.stack H s E e s' → X.xe e s'

section
variable {X : Cx} {CX : CXT} {k : Nat} {f C : Addr} {fd : FuncData} {ps : List Str} {sp : Sp} {dvs : List V} {ds : List Value} {E : XK} {x m : Str} {p pos apos : Pos} {e o : Expr} {es : List Expr} {ta : TE} {t : TA}

/-- the callee runs -/
theorem run_fn {pins : List (Addr × Obj)} {σ : St} {H : Hp} {s : Shared} {Q : VK} {us : List Value} {vs : List V} (F : FnOk X.prog X.w X.K X.mg X.base CX k f fd ps sp) (hr : Room k X.A) (hb : Binds X.K fd ps ds) (hd : Vals dvs ds) (hx : Passes CX X E)
    (I : Inv X pins σ H s) (r : Vals vs us) (h : sp (vs ++ dvs) H Q E) : wpAny (model X.prog X.w) X.A (call (.ref f) us) (EP X pins σ Q) X.xe s := by
  have r2 : Vals (vs ++ dvs) (us ++ ds) := r.append hd
  have hl : (us ++ ds).length = ps.length := by rw [← r2.length]; exact F.len _ _ _ _ h
  refine wpAny_call (codeAny_mono (F.run X.A X.stack s H ⟨us, []⟩ (us ++ ds) (vs ++ dvs) Q E hr I.env0 (hb s us I.kIn hl) r2 h) fun r s' hq => ?_)
  cases r with
  | error e => exact hx pins σ H s e s' I hq
  | ok fl =>
    cases fl with
    | ret u => exact I.after hq
    | next => exact False.elim hq
    | brk => exact False.elim hq
    | cont => exact False.elim hq

theorem pe_call (F : FnOk X.prog X.w X.K X.mg X.base CX k f fd ps sp) (hr : Room k X.A) (hg : Gl X x) (hm : X.mg x = some (.ref f)) (hk : PySem.W.keepIn X.K (.ref f) = true) (hb : Binds X.K fd ps ds) (hd : Vals dvs ds) (hx : Passes CX X E)
    (ha : PA X (e :: es) t) (hdb : (x == ("__debug__" : Str)) = false := by decide) (he : starEach (e :: es) X.env = (false, eval e X.env) :: starEach es X.env := by rfl) (hpl : (backTo pos (starEach es X.env)).any (·.1) = false := by rfl) :
    PE X (.Call (.Name x p) (e :: es) [] pos) (tCall sp dvs E t) := by
  intro pins s σ H Q I h
  refine wpAny_Call_Name_kw (ld_glob I hg hm ?_ hdb)
  refine PySem.W.callWith_K (h₀ := X.base) I.ok.mod.kin hk (thn (ha pos pins s σ H _ I h) fun us s1 ⟨vs, H1, I1, r, q⟩ => ⟨I1.kIn, ?_⟩) he hpl
  exact run_fn F hr hb hd hx I1 r q
/-- what a class must have to be made -/
structure Mk (K : PySem.W.Frag) (C f : Addr) : Prop where
  makes : PySem.W.makesIn K C = true
  init : PySem.W.findIn K (.ref C) "__init__" = some (some (.ref f))
  fn : PySem.W.isFn K (.ref f) = true
  kp : PySem.W.keepIn K (.ref C) = true

end

/-! ### keywords -/
/-- the values of the keywords, from the left -/
def PK (X : Cx) (kws : List Keyword) (t : TA) : Prop :=
  ∀ (pos : Pos) (pins : List (Addr × Obj)) (s : Shared) (σ : St) (H : Hp) (Q : List V → Hp → Prop), Inv X pins σ H s → t σ H Q → wpAny (model X.prog X.w) X.A (evalAll ((backToKw pos (keywordEach kws X.env)).map (·.2))) (AP X pins σ Q) X.xe s
section
variable {X : Cx} {CX : CXT} {k : Nat} {f C : Addr} {fd : FuncData} {ps ks : List Str} {sp : Sp} {E : XK} {x m : Str} {p pos apos kpos : Pos} {e o : Expr} {es : List Expr} {kws : List Keyword} {te ta : TE} {t tk : TA} {nm : Option Str}
theorem pk_nil : PK X [] tNil := fun _ _ _ _ H Q I h => wpAny_evalAll_nil ⟨[], H, I, .nil, h⟩
theorem pk_cons (ha : PE X e te) (hr : PK X kws t) : PK X (⟨nm, e, kpos⟩ :: kws) (tCons te t) := by
  intro pos pins s σ H Q I h
  show wpAny _ _ (evalAll ((do let v ← eval e X.env; standAt pos; pure v) :: (backToKw pos (keywordEach kws X.env)).map (·.2))) _ _ s
  refine wpAny_evalAll_cons (wpAny_bind (thn (ha pins s σ H _ I h) fun u s1 ⟨x, H1, I1, r1, q1⟩ => wpAny_bind (wpAny_standAt (wpAny_pure ?_))))
  exact thn (hr pos pins s1 σ H1 _ I1 q1) fun us s2 ⟨xs, H2, I2, r2, q2⟩ => ⟨x :: xs, H2, I2, .cons r1 r2, q2⟩

/-- how a call with keywords binds: g puts the positional values us and the keywords' values ws (names ks) in the parameters' order, defaults among them -/
structure KBinds (K : PySem.W.Frag) (fd : FuncData) (ps ks : List Str) (g : List Value → List Value → List Value) (gV : List V → List V → List V) : Prop where
  to : ∀ (s : Shared) (us ws : List Value), K.In s.heap → (g us ws).length = ps.length → BindsTo s fd ⟨us, ks.zip ws⟩ (ps.zip (g us ws))
  rel : ∀ {vs : List V} {us : List Value} {zs : List V} {ws : List Value}, Vals vs us → Vals zs ws → Vals (gV vs zs) (g us ws)
def tCallK (sp : Sp) (gV : List V → List V → List V) (E : XK) (t tk : TA) : TE := fun σ H Q => t σ H fun vs H1 => tk σ H1 fun zs H2 => sp (gV vs zs) H2 Q E
variable {g : List Value → List Value → List Value} {gV : List V → List V → List V}
end

/-! ### a def's body keeps its promise -/
/-- names: the parameters first -/
structure FnScope (N P : List Str) (sc : Scope) : Prop where
  kind : sc.kind = .function
  co : sc.isCoroutine = false
  gen : sc.isGenerator = false
  nd : N.Nodup
  pre : N.take P.length = P
  par : ∀ x ∈ P, sc.names.lookup x = some .local ∨ sc.names.lookup x = some .cell
  nofree : ∀ y ∈ sc.names, y.2 ≠ .free

theorem bindL_out {kindOf : Str → Option NameKind} {x : Str} : ∀ {binds : List (Str × Value)} {m : Str → Option Value}, (∀ v, (x, v) ∉ binds) → bindL kindOf binds m x = m x
  | [], _, _ => rfl
  | (n, v) :: r, m, h => by
    unfold bindL
    rw [bindL_out fun w hw => h w (List.mem_cons_of_mem _ hw)]
    split
    · have : x ≠ n := by rintro rfl; exact h v List.mem_cons_self
      simp [this]
    · rfl
theorem bindC_out {kindOf : Str → Option NameKind} {x : Str} : ∀ {binds : List (Str × Value)} {m : Str → Option Value}, (∀ v, (x, v) ∉ binds) → bindC kindOf binds m x = m x
  | [], _, _ => rfl
  | (n, v) :: r, m, h => by
    unfold bindC
    rw [bindC_out fun w hw => h w (List.mem_cons_of_mem _ hw)]
    split
    · rfl
    · have : x ≠ n := by rintro rfl; exact h v List.mem_cons_self
      simp [this]
theorem bindL_get {kindOf : Str → Option NameKind} {x : Str} {v : Value} : ∀ {P : List Str} {vs : List Value} {i : Nat} {m : Str → Option Value}, P.Nodup → P[i]? = some x → vs[i]? = some v → kindOf x = some .local →
    bindL kindOf (P.zip vs) m x = some v
  | [], _, _, _, _, h, _, _ => by simp at h
  | _ :: _, [], _, _, _, _, h, _ => by simp at h
  | p :: P, w :: vs, 0, m, nd, h1, h2, hk => by
    simp at h1 h2; subst h1; subst h2
    show bindL kindOf ((p, w) :: P.zip vs) m p = _
    unfold bindL
    rw [bindL_out fun v hv => (List.nodup_cons.mp nd).1 (List.of_mem_zip hv).1, if_pos hk]
    simp
  | p :: P, w :: vs, i + 1, m, nd, h1, h2, hk => by
    show bindL kindOf ((p, w) :: P.zip vs) m x = _
    unfold bindL
    exact bindL_get (i := i) (List.nodup_cons.mp nd).2 (by simpa using h1) (by simpa using h2) hk
theorem bindC_get {kindOf : Str → Option NameKind} {x : Str} {v : Value} : ∀ {P : List Str} {vs : List Value} {i : Nat} {m : Str → Option Value}, P.Nodup → P[i]? = some x → vs[i]? = some v → kindOf x ≠ some .local →
    bindC kindOf (P.zip vs) m x = some v
  | [], _, _, _, _, h, _, _ => by simp at h
  | _ :: _, [], _, _, _, _, h, _ => by simp at h
  | p :: P, w :: vs, 0, m, nd, h1, h2, hk => by
    simp at h1 h2; subst h1; subst h2
    show bindC kindOf ((p, w) :: P.zip vs) m p = _
    unfold bindC
    rw [bindC_out fun v hv => (List.nodup_cons.mp nd).1 (List.of_mem_zip hv).1, if_neg hk]
    simp
  | p :: P, w :: vs, i + 1, m, nd, h1, h2, hk => by
    show bindC kindOf ((p, w) :: P.zip vs) m x = _
    unfold bindC
    exact bindC_get (i := i) (List.nodup_cons.mp nd).2 (by simpa using h1) (by simpa using h2) hk

/-- the names' values at the entry -/
def start (N : List Str) (vs : List V) : St := vs.map some ++ List.replicate (N.length - vs.length) none

/-- the context of a def's body, at its entry; an exception leaves the frame, then lies as CX says -/
def cxOf (CX : CXT) (P : Program) (w : World) (K : PySem.W.Frag) (mg : Str → Option Value) (base : Heap) (N : List Str) (qual : Str) (scope : Scope) (f : Addr) (cd : Value) (A : Around) (outer : List Env) (s : Shared) (H : Hp) (E : XK) : Cx where
  prog := P
  w := w
  K := K
  mg := mg
  base := base
  A := A.deeper (envOfC qual scope s.heap.objs.size f cd)
  N := N
  s₀ := s
  H₀ := H
  env := envOfC qual scope s.heap.objs.size f cd
  outer := outer
  stack := envOfC qual scope s.heap.objs.size f cd :: outer
  ex := []
  calm := true
  fn := fun _ => true
  pn := []
  xe := fun e s' => wpAny (model P w) (A.deeper (envOfC qual scope s.heap.objs.size f cd)) (leaving (envOfC qual scope s.heap.objs.size f cd) e) (fun _ s'' => CX outer H s E e s'') (fun e' s'' => CX outer H s E e' s'') s'

theorem cell_has {sc : Scope} {n : Nat} {x : Str} (h : sc.names.lookup x = some .cell) : ∃ c, (cellsFrom n sc.names []).lookup x = some c := by
  have q := PySem.W.cellsFrom_some sc.names n [] (.inl h)
  exact Option.isSome_iff_exists.mp q

theorem inv_start {CX : CXT} {P : Program} {w : World} {K : PySem.W.Frag} {mg : Str → Option Value} {base : Heap} {N ps : List Str} {qual : Str} {scope : Scope} {f : Addr} {cd : Value} {A : Around} {outer : List Env} {s s1 : Shared} {H : Hp} {E : XK} {us : List Value} {vs : List V}
    (S : FnScope N ps scope) (hd : A.handled = none) (e0 : Env0 P w K mg base A outer s H) (hl : vs.length = ps.length) (r : Vals vs us)
    (x : InCallC s s.heap.objs.size (bindL (envOfC qual scope s.heap.objs.size f cd).kindOf (ps.zip us) fun _ => none) (cellsFrom (s.heap.objs.size + 1) scope.names []) (bindC (envOfC qual scope s.heap.objs.size f cd).kindOf (ps.zip us) fun _ => none) s1) :
    Inv (cxOf CX P w K mg base N qual scope f cd A outer s H E) [] (start N vs) H s1 := by
  have hpl : ps.length ≤ N.length := by have := congrArg List.length S.pre; rw [List.length_take] at this; omega
  obtain ⟨h1, tk, rfl, hk⟩ := x.done
  have noA : ∀ b : Addr, b ∉ (cxOf CX P w K mg base N qual scope f cd A outer s H E).ex := fun b z => absurd (show b ∈ ([] : List Addr) from z) (by simp)
  refine ⟨⟨e0.mod, S.kind, rfl, rfl, Nat.le_refl _, fun y z c h1 h2 => ?_, fun y hy => ?_, fun y c _ h => ?_, fun _ => hd, Around.frames_deeper e0.frames, .inr ⟨rfl, rfl⟩, fun b z => absurd z (noA b), e0.bs, e0.bsz, fun b _ _ => noA b, fun b z => absurd z (noA b), e0.funs, e0.frf⟩,
    rfl, e0.bare, Un.kept hk, ⟨_, x.toInCall.ns, fun i y v h1 h2 h3 => ?_⟩, fun y c h => ⟨_, x.cell y c h⟩, e0.hok.fresh (Nat.le_refl _), fun y c h => ?_, fun p hp => absurd (show p ∈ ([] : List (Addr × Obj)) from hp) (by simp), e0.hok.kept hk, ?_⟩
  · exact name_of_addr x.apart (PySem.mem_of_lookup h1) (PySem.mem_of_lookup h2)
  · have hy : scope.names.lookup y = some .cell ∨ scope.names.lookup y = some .free := hy
    rcases hy with hy | hy
    · exact cell_has hy
    · exact absurd rfl (S.nofree _ (PySem.mem_of_lookup hy))
  · exact Nat.le_of_lt (x.above y c (PySem.mem_of_lookup h))
  · have hi : i < vs.length := by
      unfold start at h2
      by_cases hi : i < vs.length
      · exact hi
      · rw [List.getElem?_append_right (by simpa using hi)] at h2
        rw [List.getElem?_replicate] at h2
        split at h2 <;> cases h2
    have ha : vs[i]? = some v := by
      unfold start at h2
      rw [List.getElem?_append_left (by simpa using hi), List.getElem?_map] at h2
      cases e : vs[i]? with
      | none => rw [e] at h2; cases h2
      | some a => rw [e] at h2; cases h2; rfl
    obtain ⟨u, hu, rv⟩ := r.get ha
    have hp : ps[i]? = some y := by
      rw [← S.pre, List.getElem?_take_of_lt (by omega)]; exact h1
    have ndP : ps.Nodup := by rw [← S.pre]; exact S.nd.sublist (List.take_sublist _ _)
    refine ⟨u, rv, ?_⟩
    rcases S.par y (List.mem_of_getElem? hp) with k | k
    · exact .inl ⟨k, bindL_get ndP hp hu k⟩
    · obtain ⟨c, e⟩ := cell_has (n := s.heap.objs.size + 1) k
      refine .inr ⟨.inl k, c, e, ?_⟩
      have q := x.cell y c e
      rw [bindC_get ndP hp hu (by show scope.names.lookup y ≠ _; rw [k]; decide)] at q
      exact q
  · exact e0.hok.fresh (Nat.le_of_lt (x.above y c (PySem.mem_of_lookup h)))
  · unfold start
    show _ = N.length
    rw [List.length_append, List.length_map, List.length_replicate]
    omega

/-- THE RULE: a def (or a method) of the text, by its body. The body's reading t is chosen for each entry; it is run at the parameters' values -/
theorem fn_of {CX : CXT} {P : Program} {w : World} {K : PySem.W.Frag} {mg : Str → Option Value} {base : Heap} {k : Nat} {f : Addr} {name qual : Str} {params : Arguments} {body : List Stmt} {scope : Scope} {dV kV doc pm cdv ct oc : Value} {an od : Option Addr}
    {osl : Array (Option Value)} {N ps : List Str} {sp : Sp} (lk : K.lookup f = some ⟨oc, od, .func (PySem.W.fnOf name qual params body scope dV kV doc pm an cdv ct), osl⟩) (hcd : PySem.W.codeIn K cdv qual = true) (S : FnScope N ps scope)
    (len : ∀ vs H Q E, sp vs H Q E → vs.length = ps.length)
    (hbody : ∀ (A : Around) (outer : List Env) (s : Shared) (H : Hp) (vs : List V) (Q : VK) (E : XK), Room k (A.deeper (envOfC qual scope s.heap.objs.size f cdv)) → sp vs H Q E →
      ∃ t, PSs (cxOf CX P w K mg base N qual scope f cdv A outer s H E) body t ∧ t { nx := fun _ H' => Q .non H', rt := Q } (start N vs) H) :
    FnOk P w K mg base CX (k + 1) f (PySem.W.fnOf name qual params body scope dV kV doc pm an cdv ct) ps sp := by
  refine ⟨len, fun A outer s H args us vs Q E hr e0 hb r hsp => ?_⟩
  have hl := len _ _ _ _ hsp
  have KX : K.In s.heap := e0.mod.kin.keeps fun b o e => (e0.bs b o e).1
  have lim : s.heap.NoLimit := e0.mod.nolimit.keeps fun b o e => (e0.bs b o e).1
  have hkind : ∀ y ∈ ps.zip us, scope.names.lookup y.1 = some .local ∨ (scope.names.lookup y.1 = some .cell ∧ ((cellsFrom (s.heap.objs.size + 1) scope.names []).lookup y.1).isSome = true) := fun ⟨n, v⟩ hy => by
    rcases S.par n (List.of_mem_zip hy).1 with q | q
    · exact .inl q
    · exact .inr ⟨q, PySem.W.cellsFrom_some _ _ _ (.inl q)⟩
  refine codeAny_call_function hr.depth (KX _ _ lk) rfl S.co S.gen rfl (PySem.W.codeRec_of KX hcd) (hb _ _ _ _ ?_)
  refine wpAny_newFunctionEnv_cells S.kind hkind fun env he s1 x => ?_
  subst he
  refine ⟨lim.keeps x.toInCall.keep, codeAny_func ?_⟩
  obtain ⟨t, ht, hq⟩ := hbody A outer s H vs Q E (hr.deeper _) hsp
  have I : Inv (cxOf CX P w K mg base N qual scope f cdv A outer s H E) [] (start N vs) H s1 := inv_start S hr.hd e0 hl r x
  refine wpAny_mono (ht [] s1 (start N vs) H _ I hq) (fun fl s' hs => ?_) fun e s' hs => hs
  have fin : ∀ {σ' : St} {H' : Hp} {v : V} {u : Value}, Inv (cxOf CX P w K mg base N qual scope f cdv A outer s H E) [] σ' H' s' → RelV v u → Q v H' → CE outer P w H s Q u s' :=
    fun {σ' H' v u} J rv q => ⟨v, H', J.os, J.bare, J.base, J.hok, rv, q⟩
  cases fl with
  | ret u =>
    obtain ⟨v, σ', H', J, rv, q⟩ := hs
    exact fin J rv q
  | next =>
    obtain ⟨σ', H', J, q⟩ := hs
    exact fin (v := V.non) (u := Value.none) J rfl q
  | brk =>
    obtain ⟨_, _, _, q⟩ := hs
    exact False.elim q
  | cont =>
    obtain ⟨_, _, _, q⟩ := hs
    exact False.elim q
end L2

namespace L2
open PySem PySem.Spec PyProof.Rows
section
variable {X : Cx} {x : Str} {p pos : Pos} {e : Expr} {es : List Expr} {t : TA} {id T : String} {r : List V → Hp → VK → Prop}

def tCB (r : List V → Hp → VK → Prop) (t : TA) : TE := fun σ H Q => t σ H fun vs H1 => r vs H1 Q
/-- f(e, ..), f a built-in function -/
theorem pe_callB (hc : CallR X (.builtin id) r) (hg : Gl X x) (hm : X.mg x = none) (hv : bootBuiltins x = some (.builtin id)) (ha : PA X (e :: es) t) (hn : x ≠ "__name__" := by decide) (hdb : (x == ("__debug__" : Str)) = false := by decide)
    (he : starEach (e :: es) X.env = (false, eval e X.env) :: starEach es X.env := by rfl) (hpl : (backTo pos (starEach es X.env)).any (·.1) = false := by rfl) : PE X (.Call (.Name x p) (e :: es) [] pos) (tCB r t) := by
  intro pins s σ H Q I h
  refine wpAny_Call_Name_kw (ld_blt I hg hm hv ?_ hn hdb)
  exact PyProof.Rows.callWith_builtin1 (thn (ha pos pins s σ H _ I h) fun us s1 ⟨vs, H1, I1, r1, q1⟩ => hc pins s1 σ H1 vs us Q I1 r1 q1) he hpl
/-- T(e, ..), T a built-in type -/
theorem pe_callTy (hc : CallR X (.type T) r) (hg : Gl X x) (hm : X.mg x = none) (hv : bootBuiltins x = some (.type T)) (ha : PA X (e :: es) t) (hn : x ≠ "__name__" := by decide) (hdb : (x == ("__debug__" : Str)) = false := by decide)
    (he : starEach (e :: es) X.env = (false, eval e X.env) :: starEach es X.env := by rfl) (hpl : (backTo pos (starEach es X.env)).any (·.1) = false := by rfl) : PE X (.Call (.Name x p) (e :: es) [] pos) (tCB r t) := by
  intro pins s σ H Q I h
  refine wpAny_Call_Name_kw (ld_blt I hg hm hv ?_ hn hdb)
  exact PyProof.Rows.callWith_type1 (thn (ha pos pins s σ H _ I h) fun us s1 ⟨vs, H1, I1, r1, q1⟩ => hc pins s1 σ H1 vs us Q I1 r1 q1) he hpl
end
end L2

namespace HT
open PySem PyProof.Rows

/-- t < u of tuples of ints -/
def lexLt : List Int → List Int → Bool
  | [], [] => false
  | [], _ :: _ => true
  | _ :: _, [] => false
  | x :: xs, y :: ys => if x = y then lexLt xs ys else decide (x < y)
section
open PySem.SeqAt
open PySem.AutoSeq1 (wpAny_loadPart')
open PySem.MeetsSeq PySem.MeetsSeq2 PySem.MeetsSeq3

end

section
variable {prog : Program} {w : World} {A : Around} {E : Value → Shared → Prop} {s : Shared}

/-! ### t[a:b], not the whole -/
/-- a slice's bound as a place among n (d where it is left out) -/
def sIx (n d : Nat) : Option Int → Nat
  | none => d
  | some v => if v < 0 then (v + (n : Int)).toNat else min v.toNat n
end
end HT

namespace L2
open PySem PySem.Spec PyProof.Rows

/-! ### the parts of a slice -/
abbrev TO := St → Hp → (Option Int → Hp → Prop) → Prop
/-- a slice's part (left out, or an int) -/
def PO (X : Cx) (e : Option Expr) (t : TO) : Prop :=
  ∀ (pins : List (Addr × Obj)) (s : Shared) (σ : St) (H : Hp) (Q : Option Int → Hp → Prop), Inv X pins σ H s → t σ H Q →
    wpAny (model X.prog X.w) X.A (evalPart e X.env) (fun u s' => ∃ o H', Inv X pins σ H' s' ∧ IsPart u o ∧ Q o H') X.xe s
def tNoPart : TO := fun _ H Q => Q none H
def tPart (t : TE) : TO := fun σ H Q => t σ H fun x H1 => ∃ i, x = .int i ∧ Q (some i) H1

section
variable {X : Cx} {e : Expr} {te : TE} {lo hi : Option Expr} {tl th : TO} {pos p2 : Pos}

theorem po_none : PO X none tNoPart := by
  intro pins s σ H Q I h
  rw [evalPart_none]
  exact wpAny_pure ⟨none, H, I, .none, h⟩
theorem po_some (h : PE X e te) : PO X (some e) (tPart te) := by
  intro pins s σ H Q I hw
  rw [evalPart_some]
  refine thn (h pins s σ H _ I hw) fun u s1 ⟨x, H1, I1, r1, q1⟩ => ?_
  obtain ⟨i, rfl, q⟩ := q1
  obtain ⟨t, rfl⟩ := r1
  exact ⟨some i, H1, I1, .int i t, q⟩

/-- what a slice of a value is, by values: the slice object stands at sl -/
def SlR (X : Cx) (r : V → Option Int → Option Int → Hp → VK → Prop) : Prop :=
  ∀ (pins : List (Addr × Obj)) (s : Shared) (σ : St) (H : Hp) (x : V) (v vl vu : Value) (lo hi : Option Int) (sl : Addr) (Q : VK), Inv X pins σ H s → RelV x v → s.heap.IsSliceOf sl vl vu .none → IsPart vl lo → IsPart vu hi → r x lo hi H Q →
    ∃ T id, typeLookup (.type T) "__getitem__" = pure (some (.builtin id)) ∧ s.TypeIs v T ∧ wpAny (model X.prog X.w) X.A (getItem v (.ref sl)) (EP X pins σ Q) X.xe s
theorem SlR.or {r r' : V → Option Int → Option Int → Hp → VK → Prop} (h : SlR X r) (h' : SlR X r') : SlR X (fun x lo hi H Q => r x lo hi H Q ∨ r' x lo hi H Q) := by
  intro pins s σ H x v vl vu lo hi sl Q I rx hs pl pu q
  rcases q with q | q
  · exact h pins s σ H x v vl vu lo hi sl Q I rx hs pl pu q
  · exact h' pins s σ H x v vl vu lo hi sl Q I rx hs pl pu q
def tSl (r : V → Option Int → Option Int → Hp → VK → Prop) (te : TE) (tl th : TO) : TE := fun σ H Q => te σ H fun x H1 => tl σ H1 fun l H2 => th σ H2 fun u H3 => r x l u H3 Q
/-- a[lo:hi], any a -/
theorem pe_slice {r : V → Option Int → Option Int → Hp → VK → Prop} (hr : SlR X r) (he : PE X e te) (hl : PO X lo tl) (hu : PO X hi th) : PE X (.Subscript e (.Slice lo hi none p2) pos) (tSl r te tl th) := by
  intro pins s σ H Q I h
  refine Subscript_ (thn (he pins s σ H _ I h) fun v s1 ⟨x, H1, I1, r1, q1⟩ => ?_)
  refine wpAny_Slice (thn (hl pins s1 σ H1 _ I1 q1) fun vl s2 ⟨l, H2, I2, pl, q2⟩ => thn (hu pins s2 σ H2 _ I2 q2) fun vu s3 ⟨u, H3, I3, pu, q3⟩ => ?_)
  rw [evalPart_none]
  refine wpAny_pure ?_
  have I4 : Inv X pins σ H3 { s3 with heap := s3.heap.push { cls := .type "slice", data := .fields #[vl, vu, .none] } } := I3.kept (t' := s3.toks) fun b ob q => Heap.get?_push_of_some _ q
  obtain ⟨T, id, hT, ht, hg⟩ := hr pins { s3 with heap := s3.heap.push { cls := .type "slice", data := .fields #[vl, vu, .none] } } σ H3 x v vl vu l u s3.heap.objs.size Q I4 r1 (Heap.IsSliceOf.new ..) pl pu q3
  show wpAny (model X.prog X.w) X.A (subscriptTail e (.Slice lo hi none p2) v (.ref s3.heap.objs.size)) (EP X pins σ Q) X.xe { s3 with heap := s3.heap.push { cls := .type "slice", data := .fields #[vl, vu, .none] } }
  exact tail_any (ops := [.ref s3.heap.objs.size, v]) ht hT hg (by with_unfolding_all rfl)

/-- the items of xs[lo:hi] -/
def cutV (xs : List V) (lo hi : Option Int) : List V := (xs.drop (HT.sIx xs.length 0 lo)).take (HT.sIx xs.length xs.length hi - HT.sIx xs.length 0 lo)
theorem cutV_length (xs : List V) (lo hi : Option Int) : (cutV xs lo hi).length ≤ xs.length := by
  unfold cutV
  rw [List.length_take, List.length_drop]
  omega
/-- t[lo:hi], not the whole of it (the whole would be t itself) -/
def rSlT (K : PySem.W.Frag) : V → Option Int → Option Int → Hp → VK → Prop := fun x lo hi H Q => ∃ a xs, x = .ref a ∧ SqT K H a xs ∧
  ¬ (HT.sIx xs.length 0 lo = 0 ∧ HT.sIx xs.length xs.length hi = xs.length) ∧ ∀ p, H p = none → Q (.ref p) (upd H p (.tup (cutV xs lo hi)))
/-! ### t < u, t + u -/
def rLtT (K : PySem.W.Frag) : R2 := fun x y H Q => ∃ a b ns ms, x = .ref a ∧ y = .ref b ∧ SqT K H a (ns.map V.int) ∧ SqT K H b (ms.map V.int) ∧ Q (.bl (HT.lexLt ns ms)) H
/-- t + u, t not empty: u empty gives t itself -/
def rCatT (K : PySem.W.Frag) : R2 := fun x y H Q => ∃ a b xs ys, x = .ref a ∧ y = .ref b ∧ SqT K H a xs ∧ SqT K H b ys ∧ xs ≠ [] ∧ xs.length + ys.length ≤ sizeLine ∧
  (ys = [] → Q (.ref a) H) ∧ (ys ≠ [] → ∀ p, H p = none → Q (.ref p) (upd H p (.tup (xs ++ ys))))
end
end L2

namespace L2
open PySem PySem.Spec PyProof.Rows

/-! ### places -/
/-- the place that an index of any sign means -/
def ixN (n : Nat) (i : Int) : Option Nat := if 0 ≤ i then (if i < n then some i.toNat else none) else if -(n : Int) ≤ i then some (i + n).toNat else none
def atI {α : Type} (xs : List α) (i : Int) : Option α := (ixN xs.length i).bind fun j => xs[j]?
theorem ixN_seq {n : Nat} {i : Int} {j : Nat} (h : ixN n i = some j) : seqIndex? i n = some j ∧ j < n ∧ -(n : Int) ≤ i ∧ i < n := by
  unfold ixN at h
  by_cases h0 : 0 ≤ i
  · rw [if_pos h0] at h
    by_cases h1 : i < n
    · rw [if_pos h1] at h
      have e : i.toNat = j := Option.some.inj h
      exact ⟨by rw [seqIndex_of h0 h1, e], by omega, by omega, h1⟩
    · rw [if_neg h1] at h; cases h
  · rw [if_neg h0] at h
    by_cases h1 : -(n : Int) ≤ i
    · rw [if_pos h1] at h
      have e : (i + n).toNat = j := Option.some.inj h
      exact ⟨by rw [seqIndex_neg (by omega) h1, e], by omega, h1, by omega⟩
    · rw [if_neg h1] at h; cases h
theorem atI_get {α : Type} {xs : List α} {i : Int} {v : α} (h : atI xs i = some v) : ∃ j, seqIndex? i xs.length = some j ∧ xs[j]? = some v ∧ j < xs.length ∧ -(xs.length : Int) ≤ i ∧ i < xs.length := by
  unfold atI at h
  cases e : ixN xs.length i with
  | none => rw [e] at h; cases h
  | some j =>
    rw [e] at h
    obtain ⟨h1, h2, h3, h4⟩ := ixN_seq e
    exact ⟨j, h1, h, h2, h3, h4⟩
theorem atI_nat {α : Type} {xs : List α} {j : Nat} {v : α} (h : xs[j]? = some v) : atI xs (j : Int) = some v := by
  have hj : j < xs.length := (List.getElem?_eq_some_iff.mp h).1
  have e : ixN xs.length (j : Int) = some j := by
    unfold ixN
    rw [if_pos (by omega), if_pos (by omega)]; simp
  unfold atI; rw [e]; exact h
/-! ### what may be subscripted -/
/-- what stands as an index of a plain subscript -/
def PlainIx (b : Expr) : Prop := ∀ o i, subscripted b false o i = operate [o, i] (getItem o i)
/-- a subscript by values -/
def IxR (X : Cx) (r : R2) : Prop :=
  ∀ (value slice : Expr) (pins : List (Addr × Obj)) (s : Shared) (σ : St) (H : Hp) (x y : V) (v u : Value) (Q : VK), Inv X pins σ H s → RelV x v → RelV y u → r x y H Q →
    subscripted slice false v u = operate [v, u] (getItem v u) → wpAny (model X.prog X.w) X.A (subscriptTail value slice v u) (EP X pins σ Q) X.xe s
/-- a call of a builtin's method by values: the receiver, the arguments -/
def MtR (X : Cx) (id : String) (r : V → List V → Hp → VK → Prop) : Prop :=
  ∀ (pins : List (Addr × Obj)) (s : Shared) (σ : St) (H : Hp) (x : V) (xs : List V) (v : Value) (us : List Value) (Q : VK), Inv X pins σ H s → RelV x v → Vals xs us → r x xs H Q →
    wpAny (model X.prog X.w) X.A (call (.builtin id) (v :: us)) (EP X pins σ Q) X.xe s
section
variable {X : Cx} {a b : Expr} {ta tb : TE} {pos : Pos}
theorem IxR.or {r r' : R2} (h : IxR X r) (h' : IxR X r') : IxR X (fun x y H Q => r x y H Q ∨ r' x y H Q) := by
  intro value slice pins s σ H x y v u Q I rx ry q hs
  rcases q with q | q
  · exact h value slice pins s σ H x y v u Q I rx ry q hs
  · exact h' value slice pins s σ H x y v u Q I rx ry q hs
theorem MtR.or {id : String} {r r' : V → List V → Hp → VK → Prop} (h : MtR X id r) (h' : MtR X id r') : MtR X id (fun x xs H Q => r x xs H Q ∨ r' x xs H Q) := by
  intro pins s σ H x xs v us Q I rx rs q
  rcases q with q | q
  · exact h pins s σ H x xs v us Q I rx rs q
  · exact h' pins s σ H x xs v us Q I rx rs q
/-- a[b] -/
theorem pe_ix {r : R2} (hr : IxR X r) (ha : PE X a ta) (hb : PE X b tb) (hs : PlainIx b) : PE X (.Subscript a b pos) (tOp r ta tb) := by
  intro pins s σ H Q I h
  exact Subscript_ (binT ha hb I h fun v u s2 x y H2 I2 rx ry q => hr a b pins s2 σ H2 x y v u Q I2 rx ry q (hs _ _))

def rIxL (K : PySem.W.Frag) : R2 := fun x y H Q => ∃ p xs i v, x = .ref p ∧ y = .int i ∧ SqL K H p xs ∧ atI xs i = some v ∧ Q v H
def rIxT (K : PySem.W.Frag) : R2 := fun x y H Q => ∃ p xs i v, x = .ref p ∧ y = .int i ∧ SqT K H p xs ∧ atI xs i = some v ∧ Q v H
def rIxS : R2 := fun x y H Q => ∃ z i c, x = .str z ∧ y = .int i ∧ z.length ≤ sizeLine ∧ atI z.cps.toList i = some c ∧ Q (.str ⟨#[c]⟩) H
theorem ix_list : IxR X (rIxL X.K) := by
  intro value slice pins s σ H x y v u Q I rx ry h hs
  obtain ⟨p, xs, i, z, rfl, rfl, hq, he, q⟩ := h
  cases rx
  obtain ⟨t, rfl⟩ := ry
  obtain ⟨its, r, pl, hz⟩ := I.list hq
  obtain ⟨j, h1, h2, h3, h4, h5⟩ := atI_get he
  obtain ⟨w, ew, rw'⟩ := r.get h2
  have hl := r.length
  have hn := line63
  have fin : EP X pins σ Q w s := ⟨z, H, I, rw', q⟩
  by_cases h0 : 0 ≤ i
  · have hj : i.toNat = j := by
      rw [seqIndex_of h0 h5] at h1
      exact Option.some.inj h1
    exact item_listR pl.isList h0 (by omega) (by rw [hj]; simpa using ew) fin hs
  · have hj : (i + (its.toArray.size : Int)).toNat = j := by
      rw [seqIndex_neg (by omega) h4] at h1
      rw [List.size_toArray, ← hl]
      exact Option.some.inj h1
    exact subscriptTail_builtinR (x := w) pl.isList.typeIs slot_list_getitem.lookup
      (wpAny_getItem_list_neg (Q := fun r s' => r = w ∧ EP X pins σ Q r s') pl.isList (by omega) (by rw [List.size_toArray] <;> omega) (by omega) (by rw [hj]; simpa using ew) ⟨rfl, fin⟩) hs
theorem ix_tup : IxR X (rIxT X.K) := by
  intro value slice pins s σ H x y v u Q I rx ry h hs
  obtain ⟨p, xs, i, z, rfl, rfl, hq, he, q⟩ := h
  cases rx
  obtain ⟨t, rfl⟩ := ry
  obtain ⟨its, r, pl, hz⟩ := I.tuple hq
  obtain ⟨j, h1, h2, h3, h4, h5⟩ := atI_get he
  obtain ⟨w, ew, rw'⟩ := r.get h2
  have hl := r.length
  have hn := line63
  have fin : EP X pins σ Q w s := ⟨z, H, I, rw', q⟩
  exact subscriptTail_builtinR (x := w) pl.typeIs slot_tuple_getitem.lookup
    (getItem_tuple (j := j) (Q := fun r s' => r = w ∧ EP X pins σ Q r s') pl (by omega) (by omega) (by rw [List.size_toArray, ← hl]; exact h1) (by simpa using ew) ⟨rfl, fin⟩) hs
theorem ix_str : IxR X rIxS := by
  intro value slice pins s σ H x y v u Q I rx ry h hs
  obtain ⟨z, i, c, rfl, rfl, hz, he, q⟩ := h
  obtain ⟨t, rfl⟩ := rx
  obtain ⟨t', rfl⟩ := ry
  obtain ⟨j, h1, h2, h3, h4, h5⟩ := atI_get he
  have hl : z.cps.toList.length = z.length := by simp [Str.length]
  rw [hl] at h1 h4 h5
  have hn := line63
  exact tail_any (typeIs_str s z t) slot_str_getitem.lookup (getItem_str (c := c) (by
    have e1 : decide (i < -(2 ^ 63 : Int)) = false := decide_eq_false (by omega)
    have e2 : decide (i ≥ 2 ^ 63) = false := decide_eq_false (by omega)
    rw [e1, e2, Bool.or_false]) (by rw [h1]; simpa using h2) ⟨.str ⟨#[c]⟩, H, I.tok _, ⟨_, rfl⟩, q⟩) hs
/-- list, tuple or str -/
def rIx (K : PySem.W.Frag) : R2 := fun x y H Q => rIxL K x y H Q ∨ rIxT K x y H Q ∨ rIxS x y H Q
/-! ### xs[i] = v, any sign -/
theorem Inv.lst {pins : List (Addr × Obj)} {σ : St} {H : Hp} {s : Shared} {p : Addr} {xs : List V} (I : Inv X pins σ H s) (h : H p = some (.lst xs)) :
    ∃ (its : List Value) (n : Nat), Vals xs its ∧ s.heap.get? p = some { cls := .type "list", data := .seq its.toArray n } ∧ xs.length ≤ sizeLine := by
  obtain ⟨z, its, n, r, e⟩ := I.hok p _ h
  exact ⟨its, n, r, e, z⟩
def rSetL : V → V → V → Hp → (Hp → Prop) → Prop := fun o i v H Q => ∃ p xs k j, o = .ref p ∧ i = .int k ∧ H p = some (.lst xs) ∧ ixN xs.length k = some j ∧ Q (upd H p (.lst (xs.set j v)))
/-! ### slices -/
theorem slice_bounds (lo hi : Option Int) (n : Nat) : (sliceBounds lo hi none n).1 = ((HT.sIx n 0 lo : Nat) : Int) ∧ (sliceBounds lo hi none n).2.1 = ((HT.sIx n n hi : Nat) : Int) ∧ (sliceBounds lo hi none n).2.2 = 1 := by
  refine ⟨?_, ?_, rfl⟩
  · cases lo with
    | none => simp [sliceBounds, HT.sIx]
    | some i =>
      simp only [sliceBounds, HT.sIx, Option.getD_none, show (1 : Int) > 0 by decide, if_true]
      by_cases h : i < 0
      · simp only [h, if_true] <;> omega
      · simp only [h, if_false] <;> omega
  · cases hi with
    | none => simp [sliceBounds, HT.sIx]
    | some i =>
      simp only [sliceBounds, HT.sIx, Option.getD_none, show (1 : Int) > 0 by decide, if_true]
      by_cases h : i < 0
      · simp only [h, if_true] <;> omega
      · simp only [h, if_false] <;> omega
theorem slicePick_cut (its : List Value) (lo hi : Option Int) : slicePick its.toArray lo hi none = ((its.drop (HT.sIx its.length 0 lo)).take (HT.sIx its.length its.length hi - HT.sIx its.length 0 lo)).toArray := by
  obtain ⟨h1, h2, h3⟩ := slice_bounds lo hi its.toArray.size
  unfold slicePick
  rw [h1, h2, h3]
  simp only [sliceRange_one, pick_run, List.size_toArray] <;> rfl
/-- xs[lo:hi] of a list: a new list -/
def rSlL (K : PySem.W.Frag) : V → Option Int → Option Int → Hp → VK → Prop := fun x lo hi H Q => ∃ a xs, x = .ref a ∧ SqL K H a xs ∧ ∀ p, H p = none → Q (.ref p) (upd H p (.lst (cutV xs lo hi)))
theorem sl_list : SlR X (rSlL X.K) := by
  intro pins s σ H x v vl vu lo hi sl Q I rx hs pl pu h
  obtain ⟨a, xs, rfl, hx, q⟩ := h
  cases rx
  obtain ⟨its, r, ht, hz⟩ := I.list hx
  have hlen := r.length
  refine ⟨"list", _, slot_list_getitem.lookup, ht.isList.typeIs, ?_⟩
  refine wpAny_getItem_list_slice ht.isList hs pl pu .none (by simp) ?_ (by rw [List.size_toArray] <;> omega)
  rw [slicePick_cut, ← hlen]
  refine ⟨.ref s.heap.objs.size, _, I.laid (t' := s.toks) (o := .lst (cutV xs lo hi)) (fun b ob q => Heap.get?_push_of_some _ q) (Nat.le_refl _) ?_, rfl, q _ (I.hok.fresh (Nat.le_refl _))⟩
  exact ⟨Nat.le_trans (cutV_length xs lo hi) hz, _, 0, (r.drop (HT.sIx xs.length 0 lo)).take (HT.sIx xs.length xs.length hi - HT.sIx xs.length 0 lo), Heap.get?_push_size _ rfl⟩

/-! ### in, not in: flat items -/
def flatV : V → Bool
  | .non => true
  | .bl _ => true
  | .int _ => true
  | .str _ => true
  | _ => false
/-- == of flat values -/
def eqV : V → V → Bool
  | .non, .non => true
  | .bl a, .bl b => a == b
  | .bl a, .int b => (if a then 1 else 0) == b
  | .int a, .bl b => a == (if b then 1 else 0)
  | .int a, .int b => a == b
  | .str a, .str b => a == b
  | _, _ => false
theorem eqAt_V {A : Around} {s : Shared} {y x : V} {u v : Value} (ry : RelV y u) (rx : RelV x v) (fy : flatV y = true) (fx : flatV x = true) : SeqAt.EqAt A s u v (eqV y x) := by
  cases y with
  | non =>
    cases ry
    cases x with
    | non => cases rx; exact SeqAt.EqAt.same _
    | bl b => cases rx; exact SeqAt.EqAt.none_bool b
    | int b => obtain ⟨t, rfl⟩ := rx; exact SeqAt.EqAt.none_int b t
    | str b => obtain ⟨t, rfl⟩ := rx; exact SeqAt.EqAt.none_str b t
    | _ => exact absurd (show false = true from fx) Bool.false_ne_true
  | bl a =>
    cases ry
    cases x with
    | non => cases rx; exact SeqAt.EqAt.bool_none a
    | bl b => cases rx; exact SeqAt.EqAt.bool_bool a b
    | int b => obtain ⟨t, rfl⟩ := rx; exact SeqAt.EqAt.bool_int a b t
    | str b => obtain ⟨t, rfl⟩ := rx; exact SeqAt.EqAt.bool_str a b t
    | _ => exact absurd (show false = true from fx) Bool.false_ne_true
  | int a =>
    obtain ⟨t', rfl⟩ := ry
    cases x with
    | non => cases rx; exact SeqAt.EqAt.int_none a t'
    | bl b => cases rx; exact SeqAt.EqAt.int_bool a t' b
    | int b => obtain ⟨t, rfl⟩ := rx; exact SeqAt.EqAt.int_int a t' b t
    | str b => obtain ⟨t, rfl⟩ := rx; exact SeqAt.EqAt.int_str a t' b t
    | _ => exact absurd (show false = true from fx) Bool.false_ne_true
  | str a =>
    obtain ⟨t', rfl⟩ := ry
    cases x with
    | non => cases rx; exact SeqAt.EqAt.str_none a t'
    | bl b => cases rx; exact SeqAt.EqAt.str_bool a t' b
    | int b => obtain ⟨t, rfl⟩ := rx; exact SeqAt.EqAt.str_int a t' b t
    | str b => obtain ⟨t, rfl⟩ := rx; exact SeqAt.EqAt.str_str a t' b t
    | _ => exact absurd (show false = true from fx) Bool.false_ne_true
  | _ => exact absurd (show false = true from fy) Bool.false_ne_true
/-- the items' answers, read off the values (a value's own answer does not lean on its token) -/
def eqU (x : V) (u : Value) : Bool := match u with
  | .none => eqV .non x
  | .bool b => eqV (.bl b) x
  | .int i _ => eqV (.int i) x
  | .str z _ => eqV (.str z) x
  | _ => false
def inV (x : V) (xs : List V) : Bool := xs.any fun y => eqV y x
/-- x in a list or tuple of flat items -/
def rIn (K : PySem.W.Frag) (neg : Bool) : R2 := fun x y H Q => ∃ p xs, y = .ref p ∧ (SqL K H p xs ∨ SqT K H p xs) ∧ flatV x = true ∧ xs.all flatV = true ∧ Q (.bl (if neg then !inV x xs else inV x xs)) H
/-! ### len, list(x), tuple(x) of any list or tuple that is read -/
theorem call_len_seq : CallR X (.builtin "len") (fun xs H Q => ∃ p ys, xs = [.ref p] ∧ (SqL X.K H p ys ∨ SqT X.K H p ys) ∧ Q (.int ys.length) H) := by
  intro pins s σ H xs us Q I r h
  obtain ⟨p, ys, rfl, hq, q⟩ := h
  obtain ⟨u, rfl, rx⟩ := vals1 r
  cases rx
  have hn := line63
  rcases hq with hq | hq
  · obtain ⟨its, r', pl, hz⟩ := I.list hq
    have hlen := r'.length
    exact Calls.call_len_list pl.isList (by simp only [List.size_toArray] <;> omega) ⟨.int ys.length, H, I.tok _, ⟨s.toks + 1, by rw [List.size_toArray, hlen]⟩, q⟩
  · obtain ⟨its, r', pl, hz⟩ := I.tuple hq
    have hlen := r'.length
    exact len_tuple pl (by simp only [List.size_toArray] <;> omega) ⟨.int ys.length, H, I.tok _, ⟨s.toks + 1, by rw [List.size_toArray, hlen]⟩, q⟩
theorem CallR.or {f : Value} {r r' : List V → Hp → VK → Prop} (h : CallR X f r) (h' : CallR X f r') : CallR X f (fun xs H Q => r xs H Q ∨ r' xs H Q) := by
  intro pins s σ H xs us Q I rs q
  rcases q with q | q
  · exact h pins s σ H xs us Q I rs q
  · exact h' pins s σ H xs us Q I rs q
theorem call_list_of : CallR X (.type "list") (fun xs H Q => ∃ p ys, xs = [.ref p] ∧ (SqL X.K H p ys ∨ SqT X.K H p ys) ∧ ∀ l, H l = none → Q (.ref l) (upd H l (.lst ys))) := by
  intro pins s σ H xs us Q I r h
  obtain ⟨p, ys, rfl, hq, q⟩ := h
  obtain ⟨u, rfl, rx⟩ := vals1 r
  cases rx
  have fin : ∀ (its : List Value), Vals ys its → ys.length ≤ sizeLine → ∀ (h' : Heap) (c' : Nat), (∀ b o', s.heap.get? b = some o' → h'.get? b = some o') →
      h'.get? s.heap.objs.size = some { cls := .type "list", dict := none, data := .seq its.toArray c', slots := #[] } → EP X pins σ Q (.ref s.heap.objs.size) { s with heap := h' } := fun its r' hz h' c' kp e =>
    ⟨.ref s.heap.objs.size, _, I.laid (t' := s.toks) kp (Nat.le_refl _) (show ObjOk X.prog X.w _ h' _ (.lst ys) from ⟨hz, its, c', r', e⟩), rfl, q _ (I.hok.fresh (Nat.le_refl _))⟩
  rcases hq with hq | hq
  · obtain ⟨its, r', pl, hz⟩ := I.list hq
    have hlen := r'.length
    obtain ⟨o, ho, hc, n, hd⟩ := pl.isList
    exact call_list_seq p (.inl rfl) ho hc hd (fun h' c' kp e => fin its r' hz h' c' kp e) (by simp only [List.size_toArray] <;> omega)
  · obtain ⟨its, r', pl, hz⟩ := I.tuple hq
    have hlen := r'.length
    obtain ⟨o, ho, hc, n, hd⟩ := pl
    exact call_list_seq p (.inr rfl) ho hc hd (fun h' c' kp e => fin its r' hz h' c' kp e) (by simp only [List.size_toArray] <;> omega)
/-! ### the call of a builtin's method: o.m(..) -/
/-- the value is of that builtin type -/
def tyV (K : PySem.W.Frag) (T : String) (x : V) (H : Hp) : Prop := match x with
  | .str _ => T = "str"
  | .int _ => T = "int"
  | .ref p => (T = "list" ∧ ∃ xs, SqL K H p xs) ∨ (T = "tuple" ∧ ∃ o, K.lookup p = some o ∧ o.cls = .type "tuple" ∧ o.dict = none) ∨
      (T = "dict" ∧ ((∃ kvs, H p = some (.dK kvs)) ∨ ∃ kvs, H p = some (.dT kvs))) ∨ (T = "set" ∧ ∃ S n, H p = some (.set S n))
  | _ => False
theorem tyV_is {pins : List (Addr × Obj)} {σ : St} {H : Hp} {s : Shared} {T : String} {x : V} {v : Value} (I : Inv X pins σ H s) (r : RelV x v) (ty : tyV X.K T x H) :
    s.TypeIs v T ∧ ∀ a, v = .ref a → ∃ ob, s.heap.get? a = some ob ∧ ob.dict = none := by
  cases x with
  | str z =>
    obtain ⟨t, rfl⟩ := r
    cases (show T = "str" from ty)
    exact ⟨typeIs_str s z t, fun _ e => nomatch e⟩
  | int i =>
    obtain ⟨t, rfl⟩ := r
    cases (show T = "int" from ty)
    exact ⟨typeIs_int s i t, fun _ e => nomatch e⟩
  | ref p =>
    cases r
    rcases ty with ⟨rfl, xs, hq⟩ | ⟨rfl, o, hk, hc, hd⟩ | ⟨rfl, hk⟩ | ⟨rfl, S, n, hk⟩
    · obtain ⟨its, _, pl, _⟩ := I.list hq
      refine ⟨pl.isList.typeIs, fun a e => ?_⟩
      cases e
      obtain ⟨o, n, e, c, hd, _⟩ := pl
      exact ⟨o, e, hd⟩
    · refine ⟨⟨o, I.kIn p o hk, hc⟩, fun a e => ?_⟩
      cases e
      exact ⟨o, I.kIn _ o hk, hd⟩
    · have z : ∃ o, s.heap.get? p = some o ∧ o.ExactDict := by
        rcases hk with ⟨kvs, hk⟩ | ⟨kvs, hk⟩
        · obtain ⟨_, _, _, _, o, _, _, e, ex, _⟩ := I.hok p _ hk
          exact ⟨o, e, ex⟩
        · obtain ⟨_, _, _, _, o, _, _, e, ex, _⟩ := I.hok p _ hk
          exact ⟨o, e, ex⟩
      obtain ⟨o, e, ex⟩ := z
      refine ⟨⟨o, e, ex.1⟩, fun a e2 => ?_⟩
      cases e2
      exact ⟨o, e, ex.2.1⟩
    · obtain ⟨o, _, _, _, e, ex, _⟩ := I.hok p _ hk
      refine ⟨⟨o, e, ex.1⟩, fun a e2 => ?_⟩
      cases e2
      exact ⟨o, e, ex.2.1⟩
  | _ => exact False.elim ty
def tBM0 (K : PySem.W.Frag) (T : String) (r : V → List V → Hp → VK → Prop) (to : TE) : TE := fun σ H Q => to σ H fun x H1 => tyV K T x H1 ∧ r x [] H1 Q
def tBM (K : PySem.W.Frag) (T : String) (r : V → List V → Hp → VK → Prop) (to : TE) (t : TA) : TE := fun σ H Q => to σ H fun x H1 => tyV K T x H1 ∧ t σ H1 fun xs H2 => r x xs H2 Q
variable {o e : Expr} {es : List Expr} {to : TE} {t : TA} {name : Str} {apos cpos : Pos} {T id : String} {r : V → List V → Hp → VK → Prop}
theorem pe_bm (pa : PlainAttrs T) (slot : Slot T name id) (hty : typeOf (.builtin id) = pure (.type "method_descriptor")) (hm : MtR X id r) (ho : PE X o to) (ha : PA X (e :: es) t)
    (hbase : attributeBase o name X.env (eval o X.env) = eval o X.env := by rfl)
    (hfew : ((backTo cpos (starEach (e :: es) X.env)).all (fun x => !x.1) && (backToKw cpos (keywordEach [] X.env)).all (fun x => x.1.isSome)
      && decide ((e :: es).length + ([] : List Keyword).length + (if ([] : List Keyword).isEmpty then 0 else 1) < 30)) = true := by rfl)
    (hline : (apos.endLine == cpos.line) = true := by rfl) (hs : starEach (e :: es) X.env = (false, eval e X.env) :: starEach es X.env := by rfl) (hplain : (backTo cpos (starEach es X.env)).any (·.1) = false := by rfl) :
    PE X (.Call (.Attribute o name apos) (e :: es) [] cpos) (tBM X.K T r to t) := by
  intro pins s σ H Q I h
  refine wpAny_Call_method_late hbase hfew hline rfl (thn (ho pins s σ H _ I h) fun v s1 ⟨x, H1, I1, r1, ty, q1⟩ => ?_)
  obtain ⟨h1, h2⟩ := tyV_is I1 r1 ty
  refine ⟨T, id, pa, slot, hty, h1, h2, ?_⟩
  have hA := ha cpos pins s1 σ H1 _ I1 q1
  rw [hs] at hA ⊢
  refine Calls.callWith_builtin (by show (false || (backTo cpos (starEach es X.env)).any (·.1)) = false; rw [hplain] <;> rfl) (Calls.evalArgs_plain ?_)
  exact thn hA fun us s2 ⟨vs, H2, I2, r2, q2⟩ => hm pins s2 σ H2 x vs v us Q I2 r1 r2 q2
/- xs.append(e), list.index on a module's tuple .. are MtR facts of 06m -/
end
end L2

namespace L2
open PySem PySem.Spec PyProof.Rows

def MtM (X : Cx) (id : String) (r : V → List V → Hp → VK → Prop) : Prop :=
  ∀ (pins : List (Addr × Obj)) (s : Shared) (σ : St) (H : Hp) (x : V) (xs : List V) (v : Value) (us : List Value) (Q : VK), Inv X pins σ H s → RelV x v → Vals xs us → r x xs H Q →
    wpAny (model X.prog X.w) X.A (call (.builtin id) (v :: us)) (EP X pins σ Q) X.xe s

/-! ### lists of values -/
theorem Vals.one : ∀ {x : V} {us : List Value}, Vals [x] us → ∃ u, us = [u] ∧ RelV x u
  | _, _, .cons r .nil => ⟨_, rfl, r⟩
theorem Vals.two : ∀ {x y : V} {us : List Value}, Vals [x, y] us → ∃ u v, us = [u, v] ∧ RelV x u ∧ RelV y v
  | _, _, _, .cons r (.cons q .nil) => ⟨_, _, rfl, r, q⟩
theorem Vals.zero : ∀ {us : List Value}, Vals [] us → us = []
  | _, .nil => rfl
theorem Vals.dropLast {xs : List V} {us : List Value} (h : Vals xs us) : Vals xs.dropLast us.dropLast := by
  induction h with
  | nil => exact .nil
  | cons r t ih =>
    cases t with
    | nil => exact .nil
    | cons q t' => exact .cons r ih
theorem Vals.eraseIdx : ∀ {xs : List V} {us : List Value} (i : Nat), Vals xs us → Vals (xs.eraseIdx i) (us.eraseIdx i)
  | _, _, _, .nil => .nil
  | _, _, 0, .cons _ t => t
  | _, _, i + 1, .cons r t => .cons r (Vals.eraseIdx i t)
theorem Vals.reverse {xs : List V} {us : List Value} (h : Vals xs us) : Vals xs.reverse us.reverse := by
  induction h with
  | nil => exact .nil
  | cons r t ih => rw [List.reverse_cons, List.reverse_cons]; exact Vals.append ih (.cons r .nil)
section
variable {X : Cx} {pins : List (Addr × Obj)} {σ : St} {H : Hp} {s : Shared} {l b : Addr} {xs ys zs : List V}

/-! ### the two steps: a tracked list is rewritten, a new list is laid -/
theorem Inv.lset {its its' : List Value} {n : Nat} {f : Array Value → Array Value} {t' : Nat} (I : Inv X pins σ H s) (hH : H l = some (.lst xs))
    (e : s.heap.get? l = some { cls := .type "list", data := .seq its.toArray n }) (hf : f its.toArray = its'.toArray) (hv : Vals ys its') (hz : ys.length ≤ sizeLine) :
    Inv X pins σ (upd H l (.lst ys)) { s with heap := s.heap.update l (Obj.mapSeq f), toks := t' } := by
  have q := PySem.IsL.update e f
  rw [hf] at q
  refine I.write (x := l) (e := l) (by rw [hH]; exact trivial) (.inl rfl) (fun b' u hb hu => (Heap.get?_update_other s.heap (Obj.mapSeq f) (Ne.symm hb)).trans hu) ⟨_, q⟩ ?_
  exact ⟨hz, its', _, hv, q⟩
theorem Inv.fresh (I : Inv X pins σ H s) : H s.heap.objs.size = none := I.hok.fresh (Nat.le_refl _)
theorem Inv.lstM (I : Inv X pins σ H s) (hH : H l = some (.lst xs)) : xs.length ≤ sizeLine ∧ ∃ (its : List Value) (n : Nat), Vals xs its ∧ xs.length = its.length ∧ s.heap.get? l = some { cls := .type "list", data := .seq its.toArray n } := by
  obtain ⟨z, its, n, r, e⟩ := I.hok l _ hH
  exact ⟨z, its, n, r, r.length, e⟩

end

section
variable {X : Cx}

/-! ### methods -/
def rAppend : V → List V → Hp → VK → Prop := fun x vs H Q => ∃ l xs y, x = .ref l ∧ vs = [y] ∧ H l = some (.lst xs) ∧ xs.length < sizeLine ∧ Q .non (upd H l (.lst (xs ++ [y])))
theorem mt_append : MtM X "list.append" rAppend := by
  intro pins s σ H x vs v us Q I rx rv h
  obtain ⟨l, xs, y, rfl, rfl, hH, hz, q⟩ := h
  cases rx
  obtain ⟨u, rfl, ru⟩ := rv.one
  obtain ⟨z, its, n, r, hl, e⟩ := I.lstM hH
  refine call_meets F.slot_list_append ⟨_, e, rfl⟩ F.entry_list_append (F.args_list_append_2 _ _) (PySem.list_append l its.toArray n u (by rw [List.size_toArray]; omega)) ⟨e, ?_⟩
  refine ⟨.non, _, I.lset (its' := its ++ [u]) hH e (by simp) (r.append (.cons ru .nil)) ?_, rfl, q⟩
  rw [List.length_append, List.length_singleton]
  omega

def rExtend : V → List V → Hp → VK → Prop := fun x vs H Q => ∃ l b xs zs, x = .ref l ∧ vs = [.ref b] ∧ H l = some (.lst xs) ∧ H b = some (.lst zs) ∧ xs.length + zs.length ≤ sizeLine ∧ Q .non (upd H l (.lst (xs ++ zs)))
def rPop : V → List V → Hp → VK → Prop := fun x vs H Q => ∃ l xs y, x = .ref l ∧ vs = [] ∧ H l = some (.lst xs) ∧ xs[xs.length - 1]? = some y ∧ Q y (upd H l (.lst xs.dropLast))
def rPopAt : V → List V → Hp → VK → Prop := fun x vs H Q => ∃ l xs i k y, x = .ref l ∧ vs = [.int i] ∧ H l = some (.lst xs) ∧ -(2 ^ 63) ≤ i ∧ i < 2 ^ 63 ∧ seqIndex? i xs.length = some k ∧ xs[k]? = some y ∧ Q y (upd H l (.lst (xs.eraseIdx k)))
def rReverse : V → List V → Hp → VK → Prop := fun x vs H Q => ∃ l xs, x = .ref l ∧ vs = [] ∧ H l = some (.lst xs) ∧ Q .non (upd H l (.lst xs.reverse))
def rClear : V → List V → Hp → VK → Prop := fun x vs H Q => ∃ l xs, x = .ref l ∧ vs = [] ∧ H l = some (.lst xs) ∧ Q .non (upd H l (.lst []))
/-! ### list + list, list += list, list * int -/
def rCat : R2 := fun x y H Q => ∃ l b xs zs, x = .ref l ∧ y = .ref b ∧ H l = some (.lst xs) ∧ H b = some (.lst zs) ∧ xs.length + zs.length ≤ sizeLine ∧ ∀ p, H p = none → Q (.ref p) (upd H p (.lst (xs ++ zs)))
/-- a list times an int (a negative one is nothing) -/
def rRep : R2 := fun x y H Q => ∃ l k xs, x = .ref l ∧ y = .int k ∧ H l = some (.lst xs) ∧ -(2 ^ 63) ≤ k ∧ k < 2 ^ 63 ∧ xs.length * k.toNat ≤ sizeLine ∧
  ∀ p, H p = none → Q (.ref p) (upd H p (.lst (List.replicate k.toNat xs).flatten))
/-! ### del xs[i] -/
end

/-! ### xs[a:b] = ys -/
section
variable {prog : Program} {w : World} {A : Around} {E : Value → Shared → Prop} {s : Shared}
set_option maxRecDepth 100000 in
end

section
variable {X : Cx}
end
end L2

namespace Att
open PySem PySem.W PySem.Calls PyProof.Rows

/-! ### the script -/
theorem ints_of_wellAll {P : Params} {h : Heap} : ∀ (ns : List Int) (vs : List Value), WellAll P h vs (ns.map WData.int) → IntsAre vs ns := by
  intro ns
  induction ns with
  | nil =>
    intro vs w
    rw [List.map_nil] at w
    cases w
    exact .nil
  | cons n ns ih =>
    intro vs w
    rw [List.map_cons] at w
    cases w with
    | cons a b =>
      cases a
      exact .cons _ _ (ih _ b)

theorem script_of {l : OpenLaw} {n : Nat} (hn : l.most = some n) {P : Params} {h : Heap} {args : List WData} {vals : List Value}
    (hpre : l.row.toRowW.claim.pre args = true) (hwl : WellAll P h vals args) :
    ∃ a vs ns, vals = [Value.ref a] ∧ args = [WData.list (ns.map WData.int)] ∧ h.get? a = some { cls := .type "list", data := .seq vs.toArray } ∧ IntsAre vs ns ∧ ns.length ≤ n := by
  have hsh : WShape.hasAll [] args [.list .int] = true := (pre_splitW hpre).1
  have hc : l.pre.holds [] { args := args } = true := (pre_splitW hpre).2
  obtain ⟨d, r, rfl, h1, h2⟩ := hasAllW_cons hsh
  obtain rfl := hasAllW_nil h2
  obtain ⟨xs, rfl, h3⟩ := hasW_list h1
  obtain ⟨ns, rfl⟩ := items_int h3
  have hlen : ns.length ≤ n := by
    unfold OpenLaw.pre at hc
    have h4 : (WTm.not (.lt (.lit (.int (n : Int))) (.len (.arg 0)))).holds [] { args := [.list (ns.map .int)] } = true := by
      have h4 := (holds_andW hc).1
      rw [hn] at h4
      exact h4
    have h5 := condW_of h4 (w_not (w_lt w_lit (w_len_list (w_arg rfl))))
    rw [List.length_map] at h5
    refine Nat.le_of_not_lt fun q => ?_
    have q' : (n : Int) < ((ns.length : Nat) : Int) := by omega
    first
      | (rw [decide_eq_true q'] at h5; exact absurd h5 (by decide))
      | (simp at h5; omega)
  cases hwl with
  | cons w1 w2 =>
    cases w2
    cases w1 with
    | list ho hall => exact ⟨_, _, ns, rfl, rfl, ho, ints_of_wellAll ns _ hall, hlen⟩

theorem post_true (l : OpenLaw) (args : List WData) : l.row.toRowW.claim.post args (.bool true) args = true :=
  postW_of (r := l.row.toRowW) (X := (true == true))
    (show WShape.has [] (.bool true) .bool = true by first | rfl | decide | simp [WShape.has, WShape.arms, WShape.armsAll])
    (show (WTm.eq .res (.lit (.bool true))).value [] { args := args, res := some (.bool true), after := args } = some (.bool (true == true)) from w_eq_bool (w_res rfl) w_lit) rfl

/-! ### the attachment: holds_open's last premise (the goal 'hc' behind k_head) from a wpAny of the law's body -/
/-- the same from a codeAny of the CALL (for a layer whose function contracts speak of calls) -/
theorem attach_call {l : OpenLaw} {n : Nat} {q : Program} {loose : List Str} {XP : (Str → Option Value) → Heap → Prop} {YP : World → Heap → Prop} {d : DefRec}
    (hn : l.most = some n) (hdf : d.params.defaults = [])
    (call : ∀ (w : World) (s₀ s₁ : Shared) (mg mb : Str → Option Value) (fa : Addr) (o : Obj) (pm cd doc : Value) (a : Addr) (vs : List Value) (ns : List Int),
      Ground q loose [] XP w s₀ mg mb s₁.heap → YP w s₁.heap →
      s₁.heap.get? fa = some o → o.data = .func (docDef d.name d.params d.body d.scope pm cd doc) → s₁.heap.CodeRec cd d.name → mg d.name = some (.ref fa) →
      s₁.heap.get? a = some { cls := .type "list", data := .seq vs.toArray } → IntsAre vs ns → ns.length ≤ n → s₁.gens = #[] →
      codeAny (model l.prog w) callerA (.call (.ref fa) ⟨[.ref a], []⟩) (fun r s' => r = .ok (.ret (.bool true)) ∧ OldK s₁.heap s'.heap ∧ s'.os = s₁.os ∧ AllBare s'.gens) s₁) :
    WalkO q loose XP YP l.row.toRowW d [] (fun f vs => PySem.call f vs) := by
  intro w s₀ s₁ mg mb G Y fa o pm cd doc dV kV ho hd hcd hD hmg hg args vals as hpre hlay hrd hwl hlo
  obtain rfl : dV = .none := Dflts.none hD hdf
  obtain rfl : kV = .none := Dflts.noKw hD
  obtain ⟨a, vs, ns, rfl, rfl, hobj, hints, hlen⟩ := script_of hn hpre hwl
  refine enter_call (codeAny_mono (call w s₀ s₁ mg mb fa o pm cd doc a vs ns G Y ho (fd_plain hd) hcd hmg hobj hints hlen hg) fun r s' hq => ?_)
  obtain ⟨rfl, h2, h3, h4⟩ := hq
  exact ⟨.inl ⟨.bool true, .bool true, [], rfl, fun _ => rfl, .bool true, post_true l _, fun _ => ⟨List.Pairwise.nil, fun _ hm => (nomatch hm)⟩⟩, h2, h3, h4⟩

/-! ### rules over ANY heap (no ledger) from facts about the written part K: the library's own take a ledger (News) for what they write -/
section
variable {prog : Program} {w : World} {A : Around} {E : Value → Shared → Prop} {s : Shared} {K : Frag}

/-! the whole heap as the ledger: makes every rule that writes through a ledger a rule over any heap -/
def noObjs (h : Heap) : Heap := { h with objs := #[] }
def ledger (h : Heap) (L d : Addr) : List (Addr × Obj) := (List.range h.objs.size).filterMap fun a => if a = L ∨ a = d then none else (h.get? a).map fun o => (a, o)
end
end Att

namespace L2
open PySem PySem.Spec PyProof.Rows

theorem vals_ints : ∀ {vs : List Value} {ns : List Int}, IntsAre vs ns → Vals (ns.map V.int) vs
  | _, _, .nil => .nil
  | _, _, .cons n t h => .cons ⟨t, rfl⟩ (vals_ints h)

/-- nothing is tracked but the script, known to the object (or it is an object of the module) -/
def Only (H : Hp) : Prop := ∀ b, H b = none ∨ ∃ o xs, H b = some (.frz o (.lst xs))

/-- THE HEAD: the law's promise, at the heap behind the top. F, the promise of the law's def, may use that base is part of the heap (so K.In base, base.Ns mainGlobals mg stand in Mod) -/
theorem law_call {P : Program} {w : World} {K : PySem.W.Frag} {mg mb : Str → Option Value} {CX : CXT} {k : Nat} {fa a : Addr} {fd : FuncData} {x : Str} {sp : Sp} {s₁ : Shared} {vs : List Value} {ns : List Int}
    (KX : K.In s₁.heap) (hns : s₁.heap.Ns mainGlobals mg) (hb : s₁.heap.Ns builtinsNs mb) (hbb : ∀ x : Str, x ≠ "__name__" → mb x = bootBuiltins x) (hlim : s₁.heap.NoLimit) (hg : s₁.gens = #[])
    (ha : s₁.heap.get? a = some { cls := .type "list", data := .seq vs.toArray }) (hi : IntsAre vs ns) (hl : ns.length ≤ sizeLine) (hr : Room k callerA)
    (F : ∀ base : Heap, K.In base → base.Ns mainGlobals mg → FnOk P w K mg base CX k fa fd [x] sp) (hbind : ∀ (s : Shared) (u : Value), BindsTo s fd ⟨[u], []⟩ [(x, u)])
    (hsp : ∀ H : Hp, Only H → SqL K H a (ns.map V.int) → sp [.ref a] H (fun v _ => v = .bl true) fun _ _ _ => False)
    (hCX : ∀ H e s', CX [] H s₁ (fun _ _ _ => False) e s' → False) :
    codeAny (model P w) callerA (.call (.ref fa) ⟨[.ref a], []⟩) (fun r s' => r = .ok (.ret (.bool true)) ∧ OldK s₁.heap s'.heap ∧ s'.os = s₁.os ∧ AllBare s'.gens) s₁ := by
  have rv := vals_ints hi
  have lenV := hi.length
  -- from an abstract heap in which nothing but the script may be tracked
  have core : ∀ H : Hp, Only H → SqL K H a (ns.map V.int) → HOk P w H s₁.heap → (∀ b, H b ≠ none → b = a) → (H a ≠ none → K.lookup a = none) →
      codeAny (model P w) callerA (.call (.ref fa) ⟨[.ref a], []⟩) (fun r s' => r = .ok (.ret (.bool true)) ∧ OldK s₁.heap s'.heap ∧ s'.os = s₁.os ∧ AllBare s'.gens) s₁ := by
    intro H hO hS hok hA hK
    have base_of : ∀ {b : Addr} {o : Obj}, s₁.heap.get? b = some o → H b = none → (hidT s₁.heap H).get? b = some o := fun e n => hidT_get e n
    have noA : ∀ {b : Addr} {o : Obj} {es : Array DictEntry} {ep : Nat}, s₁.heap.get? b = some o → o.data = .dict es ep → H b = none := fun {b o es ep} e d => by
      cases q : H b with
      | none => rfl
      | some u =>
        have e' : b = a := hA b (by rw [q]; simp)
        subst e'
        rw [ha] at e; cases e
        have d' : Data.seq vs.toArray _ = Data.dict es ep := d
        cases d'
    have nsK : ∀ {b : Addr} {m : Str → Option Value}, s₁.heap.Ns b m → (hidT s₁.heap H).Ns b m := fun {b m} ⟨o, es, ep, e, d, r⟩ => ⟨o, es, ep, base_of e (noA e d), d, r⟩
    have hKb : K.In (hidT s₁.heap H) := fun b o e => base_of (KX b o e) (by
      cases q : H b with
      | none => rfl
      | some u =>
        have e' : b = a := hA b (by rw [q]; simp)
        subst e'
        rw [hK (by rw [q]; simp)] at e; cases e)
    have hM : Mod K mg (hidT s₁.heap H) := ⟨hKb, nsK hns, ⟨mb, nsK hb, hbb⟩, let ⟨mc, h1, h2⟩ := hlim; ⟨mc, nsK h1, h2⟩⟩
    have e0 : Env0 P w K mg (hidT s₁.heap H) callerA [] s₁ H := ⟨rfl, hM, fun b o e => of_hidT e, Nat.le_of_eq (hidT_size _ _), trivial, fun b hb => absurd (show b ∈ ([] : List Addr) from hb) (by simp), hok, .of_eq hg⟩
    refine codeAny_mono ((F _ hKb (nsK hns)).run callerA [] s₁ H ⟨[.ref a], []⟩ [.ref a] [.ref a] _ _ hr e0 (hbind s₁ (.ref a)) (.cons rfl .nil) (hsp H hO hS)) fun r s' h => ?_
    cases r with
    | error e => exact (hCX H e s' h).elim
    | ok fl =>
      cases fl with
      | next => exact False.elim h
      | brk => exact False.elim h
      | cont => exact False.elim h
      | ret u =>
        obtain ⟨v, H', os, bare, un, hok', r', q⟩ := h
        have q' : v = .bl true := q
        subst q'
        obtain rfl : u = Value.bool true := r'
        refine ⟨rfl, OldK.of_keep fun b o e => ?_, os, bare⟩
        cases q : H b with
        | none => exact un.keep b o e q (by intro z; exact absurd (show b ∈ ([] : List Addr) from z) (by simp)) (by simp)
        | some u =>
          rcases hO b with z | ⟨ob, xs, z⟩
          · rw [q] at z; cases z
          · have z2 := un.frzs b ob _ z
            obtain ⟨e1, _⟩ := hok b _ z
            obtain ⟨e2, _⟩ := hok' b _ z2
            rw [e] at e1; cases e1
            exact e2
  cases hk : K.lookup a with
  | some o =>
    -- the script is one of the module's own objects
    have e := KX a o hk
    rw [ha] at e
    cases e
    refine core (fun _ => none) (fun _ => .inl rfl) (.inr ⟨_, vs.toArray, _, hk, rfl, rfl, rfl, by rw [List.size_toArray, lenV]; exact hl, by simpa using rv⟩) (fun b u z => by have z' : (none : Option HO) = some u := z; cases z') (fun b z => absurd rfl z) fun z => absurd rfl z
  | none =>
    refine core (fun b => if b = a then some (.frz { cls := .type "list", data := .seq vs.toArray } (.lst (ns.map V.int))) else none) (fun b => ?_) (.inl (.inr ⟨{ cls := .type "list", data := .seq vs.toArray }, if_pos rfl⟩)) (fun b u z => ?_) (fun b z => ?_) fun _ => hk
    · by_cases hb : b = a
      · exact .inr ⟨_, _, if_pos hb⟩
      · exact .inl (if_neg hb)
    · by_cases hb : b = a
      · have z' := (if_pos hb).symm.trans z
        cases z'
        subst hb
        exact ⟨ha, by rw [List.length_map]; exact hl, vs, _, rv, ha⟩
      · have z' := (if_neg hb).symm.trans z
        cases z'
    · by_cases hb : b = a
      · exact hb
      · exact absurd (if_neg hb) z
end L2

namespace L2
open PySem PySem.Spec PyProof.Rows

abbrev KOf {K : PySem.W.Frag} {h : Heap} (_ : K.In h) : PySem.W.Frag := K

/-- the goal that k_head leaves (case hc), from the law's promise. F gives the function object fd (K's own) once, then the promise over every base -/
theorem walk_of {l : PySem.W.OpenLaw} {n k : Nat} {q : Program} {loose : List Str} {XP : (Str → Option Value) → Heap → Prop} {YP : World → Heap → Prop} {d : DefRec} {K : Params → PySem.W.Frag} {CX : World → CXT} {sp : World → Sp} {x : Str}
    (hn : l.most = some n) (hn2 : n ≤ sizeLine) (hdf : d.params.defaults = []) (hr : Room k callerA)
    (hY : ∀ (w : World) (h : Heap), YP w h → (K w.params).In h)
    (F : ∀ (w : World) (mg : Str → Option Value) (fa : Addr) (h : Heap), (K w.params).In h → h.Ns mainGlobals mg → mg d.name = some (.ref fa) →
      ∃ fd : FuncData, (∀ (s : Shared) (u : Value), BindsTo s fd ⟨[u], []⟩ [(x, u)]) ∧
        ∀ base : Heap, (K w.params).In base → base.Ns mainGlobals mg → FnOk l.prog w (K w.params) mg base (CX w) k fa fd [x] (sp w))
    (hsp : ∀ (w : World) (H : Hp) (a : Addr) (ns : List Int), ns.length ≤ n → Only H → SqL (K w.params) H a (ns.map V.int) → sp w [.ref a] H (fun v _ => v = .bl true) fun _ _ _ => False)
    (hCX : ∀ (w : World) (H : Hp) (s : Shared) (e : Value) (s' : Shared), CX w [] H s (fun _ _ _ => False) e s' → False) :
    PySem.W.WalkO q loose XP YP l.row.toRowW d [] (fun f vs => PySem.call f vs) := by
  refine Att.attach_call hn hdf fun w s₀ s₁ mg mb fa o pm cd doc a vs ns G Y ho hd hcd hmg hobj hints hlen hg => ?_
  have KX := hY w _ Y
  obtain ⟨fd, hb, hF⟩ := F w mg fa _ KX G.T.g hmg
  exact law_call KX G.T.g G.T.b G.T.builtins G.T.nolimit hg hobj hints (Nat.le_trans hlen hn2) hr hF hb (fun H hO hS => hsp w H a ns hlen hO hS) fun H e s' => hCX w H s₁ e s'
end L2

/- THE LAST THEOREM (shape; LID, My.* are yours):
   My.Adr: a structure of the addresses that your layer names (classes, functions); My.Txt K t: a structure (Prop) of the equations over K;
   My.txt_mk : {K} {implicit addresses ..} (e1 : nsIn K mainGlobals "law" = some (some (.ref f))) (e2 : K.lookup f = some ⟨oc, od, .func (fnOf "law" "law" params body scope dV kV doc pm an cdv ct), sl⟩) (e3 : codeIn K cdv "law" = true) .. : ∃ t, My.Txt K t

set_option maxRecDepth 100000 in
set_option maxHeartbeats 0 in
theorem PySem.Challenge.cw_LID_holds : PySem.Challenge.rw_LID.Holds := by
  w_on; o_law; k_head; (case hw => w_witness2)
  k_fill
  refine L2.walk_of (l := PySem.Challenge.rw_LID) (n := 63) (k := 40) (x := "script") (CX := fun w => ..) (sp := fun _ => My.sp_law) rfl (by decide) rfl ⟨rfl, by decide, by decide⟩ (fun w h Y => PySem.W.kIn_of Y) ?F ?S ?C
  case F =>
    intro w mg fa h KX G hmg
    have T : ∃ t, My.Txt (L2.KOf KX) t := by
      dsimp only [L2.KOf]                          -- K must stand as «<heap const> w.params» for k_is
      refine' My.txt_mk ?e1 ?e2 ?e3 ..
      (case e1 => PySem.W.k_is)                    -- in the order: a name -> its address -> its object -> its parts
      (case e2 => PySem.W.k_is)
      ..
    obtain ⟨t, T⟩ := T
    have e0 := hmg.symm.trans (PySem.W.mg_of KX G T.law)
    cases e0                                       -- fa is the law's own address
    exact ⟨_, fun s u => .of_eq rfl, fun base kb nb => My.law_fn T kb nb⟩     -- if «.of_eq rfl» comes too early: refine' ⟨_, ?b, fun base kb nb => My.law_fn T kb nb⟩; exact fun s u => .of_eq rfl
  case S => exact fun w H a ns hl hO hS => ..
  case C => exact ..
(the tactic k_is has no namespace: write k_is) -/

/-! SHORT WORDS over the layer: a def of the text, its body, what a loop and a test want. -/
namespace L2
open PySem PySem.Spec PyProof.Rows

/-! ### the text by places -/
/-- the j-th statement of a class's body -/
def inClass (s : Stmt) (j : Nat) : Stmt := match s with
  | .ClassDef _ _ _ body _ _ _ _ _ _ _ => body.getD j (.Pass ⟨0, 0, 0, 0⟩)
  | _ => .Pass ⟨0, 0, 0, 0⟩
def defArgs (s : Stmt) : Arguments := match s with
  | .FunctionDef _ a _ _ _ _ _ _ _ _ => a
  | _ => { posonlyargs := [], args := [], vararg := none, kwonlyargs := [], kw_defaults := [], kwarg := none, defaults := [] }
def defBody (s : Stmt) : List Stmt := match s with
  | .FunctionDef _ _ b _ _ _ _ _ _ _ => b
  | _ => []
def defScope (s : Stmt) : Scope := match s with
  | .FunctionDef _ _ _ _ _ _ sc _ _ _ => sc
  | _ => { kind := .function, names := [], isGenerator := false, isCoroutine := false }

/-! ### no exception leaves a def -/
abbrev CX0 : CXT := fun _ _ _ _ _ _ => False
abbrev E0 : XK := fun _ _ _ => False
theorem pass0 {X : Cx} : Passes CX0 X E0 := fun _ _ _ _ _ _ _ h => h.elim

/-! ### a def (or method) of the text as it stands behind the top -/
structure Fun (K : PySem.W.Frag) (x qual : Str) (st : Stmt) (f : Addr) (fd : FuncData) : Prop where
  ex : ∃ (oc : Value) (od : Option Addr) (kV doc pm : Value) (an : Option Addr) (cdv ct : Value) (osl : Array (Option Value)),
    fd = PySem.W.fnOf x qual (defArgs st) (defBody st) (defScope st) .none kV doc pm an cdv ct ∧ K.lookup f = some ⟨oc, od, .func fd, osl⟩ ∧ PySem.W.codeIn K cdv qual = true
  kp : PySem.W.keepIn K (.ref f) = true
section
variable {P : Program} {w : World} {K : PySem.W.Frag} {mg : Str → Option Value} {base : Heap}
/-- THE RULE for a def: its body as a term of rules, and the reading of that term -/
theorem Fun.ok {x qual : Str} {st : Stmt} {f : Addr} {fd : FuncData} {N ps : List Str} {k : Nat} {sp : Sp} (F : Fun K x qual st f fd) (S : FnScope N ps (defScope st)) (len : ∀ vs H Q E, sp vs H Q E → vs.length = ps.length)
    (hbody : ∀ (cdv : Value) (A : Around) (outer : List Env) (s : Shared) (H : Hp) (vs : List V) (Q : VK) (E : XK), Room k (A.deeper (envOfC qual (defScope st) s.heap.objs.size f cdv)) → sp vs H Q E →
      ∃ t, PSs (cxOf CX0 P w K mg base N qual (defScope st) f cdv A outer s H E).nox (defBody st) t ∧ t { nx := fun _ H' => Q .non H', rt := Q } (start N vs) H) : FnOk P w K mg base CX0 (k + 1) f fd ps sp := by
  obtain ⟨oc, od, kV, doc, pm, an, cdv, ct, osl, rfl, lk, hcd⟩ := F.ex
  refine fn_of lk hcd S len fun A outer s H vs Q E hr hsp => ?_
  obtain ⟨t, h, q⟩ := hbody cdv A outer s H vs Q E hr hsp
  exact ⟨t, h.nox, q⟩
/-- how its arguments bind (no defaults): h is «fun _ _ _ _ _ _ us hl => match us, hl with | [_, _], _ => rfl», one _ a parameter -/
theorem Fun.binds {x qual : Str} {st : Stmt} {f : Addr} {fd : FuncData} {ps : List Str} (F : Fun K x qual st f fd)
    (h : ∀ (kV doc pm : Value) (an : Option Addr) (cdv ct : Value) (us : List Value), us.length = ps.length → bindArgs (PySem.W.fnOf x qual (defArgs st) (defBody st) (defScope st) .none kV doc pm an cdv ct) ⟨us, []⟩ = pure (ps.zip us)) : Binds K fd ps [] := by
  obtain ⟨oc, od, kV, doc, pm, an, cdv, ct, osl, rfl, lk, hcd⟩ := F.ex
  exact .all (h kV doc pm an cdv ct)
theorem fun_mk {x qual : Str} {st : Stmt} {f : Addr} {oc : Value} {od an : Option Addr} {osl : Array (Option Value)} {kV doc pm cdv ct : Value} (l : K.lookup f = some ⟨oc, od, .func (PySem.W.fnOf x qual (defArgs st) (defBody st) (defScope st) .none kV doc pm an cdv ct), osl⟩)
    (c : PySem.W.codeIn K cdv qual = true) (k : PySem.W.keepIn K (.ref f) = true) : Fun K x qual st f (PySem.W.fnOf x qual (defArgs st) (defBody st) (defScope st) .none kV doc pm an cdv ct) := ⟨⟨oc, od, kV, doc, pm, an, cdv, ct, osl, rfl, l, c⟩, k⟩
end
theorem small1000 {n : Nat} (h : n ≤ 1000) : n < sizeLine := Nat.lt_of_le_of_lt h (by decide)

/-! ### expressions in short: the name that stands in the i-th slot -/
section
variable {X : Cx}
theorem pv (i : Nat) {x : Str} {pos : Pos} (hN : X.N[i]? = some x := by rfl) (hv : Vis X.env.scope x := by first | exact Or.inl rfl | exact Or.inr (Or.inl rfl) | exact Or.inr (Or.inr rfl)) (hd : (x == ("__debug__" : Str)) = false := by decide)
    (hcd : (x == ("__classdict__" : Str)) = false := by decide) : PE X (.Name x pos) (tVar i) := pe_var hN hv hd hcd
end

/-! ### tests -/
theorem iteF {A B : Prop} (h : B) : if false = true then A else B := by
  rw [if_neg Bool.false_ne_true]
  exact h
theorem iteT {A B : Prop} (h : A) : if true = true then A else B := by
  rw [if_pos rfl]
  exact h
theorem ite2 {c A B : Prop} [Decidable c] (h1 : c → A) (h2 : ¬ c → B) : if c then A else B := by
  by_cases h : c
  · rw [if_pos h]
    exact h1 h
  · rw [if_neg h]
    exact h2 h
/-! ### heaps -/
/-- all that was tracked is as it was -/
def Same (H H' : Hp) : Prop := ∀ b o, H b = some o → H' b = some o
theorem Same.refl (H : Hp) : Same H H := fun _ _ h => h
theorem Same.trans {H H1 H2 : Hp} (a : Same H H1) (b : Same H1 H2) : Same H H2 := fun c o h => b c o (a c o h)
theorem Same.free {H H' : Hp} (e : Same H H') {l : Addr} (h : H' l = Option.none) : H l = Option.none := by
  cases q : H l with
  | none => rfl
  | some o =>
    rw [e l o q] at h
    cases h
theorem Same.seq {K : PySem.W.Frag} {H H' : Hp} {a : Addr} {xs : List V} (e : Same H H') (h : SqL K H a xs) : SqL K H' a xs := by
  rcases h with (h | ⟨o, h⟩) | h
  · exact .inl (.inl (e _ _ h))
  · exact .inl (.inr ⟨o, e _ _ h⟩)
  · exact .inr h

end L2

set_option maxHeartbeats 4000000
namespace L2
open PySem PySem.Spec PyProof.Rows
/-! ### lists of pairs as tables -/
section
variable {κ : Type} [DecidableEq κ]
def valV (kvs : List (κ × V)) (k : κ) : Option V := (kvs.find? fun kv => decide (kv.1 = k)).map (·.2)
/-- in its place, or at the end -/
def putK (kvs : List (κ × V)) (k : κ) (v : V) : List (κ × V) :=
  if (kvs.any fun kv => decide (kv.1 = k)) = true then kvs.map (fun kv => if kv.1 = k then (kv.1, v) else kv) else kvs ++ [(k, v)]
def dropK (kvs : List (κ × V)) (k : κ) : List (κ × V) := kvs.filter fun kv => decide (kv.1 ≠ k)

theorem valV_pos {p : κ × V} {r : List (κ × V)} {k : κ} (e : p.1 = k) : valV (p :: r) k = some p.2 := by simp [valV, List.find?_cons, e]
theorem valV_neg {p : κ × V} {r : List (κ × V)} {k : κ} (e : ¬ p.1 = k) : valV (p :: r) k = valV r k := by simp [valV, List.find?_cons, e]
theorem valV_any (k : κ) : ∀ kvs : List (κ × V), (kvs.any fun kv => decide (kv.1 = k)) = (valV kvs k).isSome
  | [] => rfl
  | p :: r => by
    rw [List.any_cons]
    by_cases e : p.1 = k
    · simp only [valV_pos e, decide_eq_true e, Bool.true_or, Option.isSome_some]
    · rw [valV_neg e, decide_eq_false e, Bool.false_or]; exact valV_any k r
theorem putK_new {kvs : List (κ × V)} {k : κ} (v : V) (h : valV kvs k = none) : putK kvs k v = kvs ++ [(k, v)] := by
  unfold putK
  rw [valV_any, h]
  exact if_neg (by decide)

theorem RelO.isSome_eq {o : Option V} {u : Option Value} (r : RelO o u) : o.isSome = u.isSome := by
  cases o with
  | none => cases u with
    | none => rfl
    | some _ => exact (show False from r).elim
  | some _ => cases u with
    | none => exact (show False from r).elim
    | some _ => rfl
theorem RelO.getD {o : Option V} {u : Option Value} {d : V} {d' : Value} (r : RelO o u) (rd : RelV d d') : RelV (o.getD d) (u.getD d') := by
  cases o with
  | none => cases u with
    | none => exact rd
    | some _ => exact (show False from r).elim
  | some _ => cases u with
    | none => exact (show False from r).elim
    | some _ => exact r

/-- raw tables of the same keys -/
theorem KV.val {kvs : List (κ × V)} {vs : List (κ × Value)} (r : KV kvs vs) (k : κ) : RelO (valV kvs k) (valueAt vs k) := by
  unfold KV at r
  induction r with
  | nil => exact True.intro
  | @cons p q ps qs h t ih =>
    obtain ⟨h1, h2⟩ := h
    by_cases e : p.1 = k
    · have e' : q.1 = k := h1.symm.trans e
      have b : valueAt (q :: qs) k = some q.2 := by simp [valueAt, List.find?_cons, e']
      rw [valV_pos e, b]; exact h2
    · have e' : ¬ q.1 = k := fun z => e (h1.trans z)
      have b : valueAt (q :: qs) k = valueAt qs k := by simp [valueAt, List.find?_cons, e']
      rw [valV_neg e, b]; exact ih
theorem KV.any {kvs : List (κ × V)} {vs : List (κ × Value)} (r : KV kvs vs) (k : κ) : (kvs.any fun kv => decide (kv.1 = k)) = vs.any fun kv => decide (kv.1 = k) := by
  unfold KV at r
  induction r with
  | nil => rfl
  | cons h t ih => rw [List.any_cons, List.any_cons, ih, h.1]
theorem KV.repl {kvs : List (κ × V)} {vs : List (κ × Value)} (r : KV kvs vs) (k : κ) {y : V} {u : Value} (ry : RelV y u) :
    KV (kvs.map fun kv => if kv.1 = k then (kv.1, y) else kv) (vs.map fun kv => if kv.1 = k then (kv.1, u) else kv) := by
  unfold KV at r ⊢
  induction r with
  | nil => exact .nil
  | @cons p q ps qs h t ih =>
    rw [List.map_cons, List.map_cons]
    refine .cons ?_ ih
    obtain ⟨h1, h2⟩ := h
    by_cases e : p.1 = k
    · rw [if_pos e, if_pos (h1.symm.trans e)]; exact ⟨h1, ry⟩
    · rw [if_neg e, if_neg (fun z => e (h1.trans z))]; exact ⟨h1, h2⟩
theorem KV.put {kvs : List (κ × V)} {vs : List (κ × Value)} (r : KV kvs vs) (k : κ) {y : V} {u : Value} (ry : RelV y u) : KV (putK kvs k y) (stored vs k u) := by
  unfold putK stored
  rw [r.any k]
  by_cases e : (vs.any fun kv => decide (kv.1 = k)) = true
  · rw [if_pos e, if_pos e]; exact r.repl k ry
  · rw [if_neg e, if_neg e]; exact Paired.snoc r ⟨rfl, ry⟩
theorem KV.drop {kvs : List (κ × V)} {vs : List (κ × Value)} (r : KV kvs vs) (k : κ) : KV (dropK kvs k) (without vs k) := by
  unfold KV at r ⊢
  unfold dropK without
  induction r with
  | nil => exact .nil
  | @cons p q ps qs h t ih =>
    obtain ⟨h1, h2⟩ := h
    rw [List.filter_cons, List.filter_cons]
    by_cases e : p.1 = k
    · have a : ¬ decide (p.1 ≠ k) = true := by simp [e]
      have b : ¬ decide (q.1 ≠ k) = true := by simp [h1.symm.trans e]
      rw [if_neg a, if_neg b]; exact ih
    · have e' : ¬ q.1 = k := fun z => e (h1.trans z)
      have a : decide (p.1 ≠ k) = true := by simp [e]
      have b : decide (q.1 ≠ k) = true := by simp [e']
      rw [if_pos a, if_pos b]; exact .cons ⟨h1, h2⟩ ih
theorem KV.keys {kvs : List (κ × V)} {vs : List (κ × Value)} (r : KV kvs vs) : kvs.map (·.1) = vs.map (·.1) := by
  unfold KV at r
  induction r with
  | nil => rfl
  | cons h t ih => rw [List.map_cons, List.map_cons, ih, h.1]
theorem KV.length {kvs : List (κ × V)} {vs : List (κ × Value)} (r : KV kvs vs) : kvs.length = vs.length := Paired.length r
end


/-! ### a tracked dict, its keys ints and texts or tuples of these -/
/-- raw entries of a dict with tuple keys -/
abbrev KT (H : Hp) : List (List Key × V) → List (List Key × Addr × Value) → Prop := Paired fun p q => p.1 = q.1 ∧ H q.2.1 = some (.tup (p.1.map kV)) ∧ RelV p.2 q.2.2
theorem KT.val {H : Hp} {kvs : List (List Key × V)} {xs : List (List Key × Addr × Value)} (r : KT H kvs xs) (k : List Key) : RelO (valV kvs k) ((atKey xs k).map (·.2)) := by
  induction r with
  | nil => exact True.intro
  | @cons p q ps qs h t ih =>
    obtain ⟨h1, _, h2⟩ := h
    by_cases e : p.1 = k
    · have e' : q.1 = k := h1.symm.trans e
      have b : atKey (q :: qs) k = some q.2 := by simp [atKey, List.find?_cons, e']
      rw [valV_pos e, b]; exact h2
    · have e' : ¬ q.1 = k := fun z => e (h1.trans z)
      have b : atKey (q :: qs) k = atKey qs k := by simp [atKey, List.find?_cons, e']
      rw [valV_neg e, b]; exact ih
theorem KT.repl {H : Hp} {kvs : List (List Key × V)} {xs : List (List Key × Addr × Value)} (r : KT H kvs xs) (k : List Key) {y : V} {u : Value} (ry : RelV y u) :
    KT H (kvs.map fun kv => if kv.1 = k then (kv.1, y) else kv) (xs.map (putAt k u)) := by
  induction r with
  | nil => exact .nil
  | @cons p q ps qs h t ih =>
    rw [List.map_cons, List.map_cons]
    refine .cons ?_ ih
    obtain ⟨h1, h2, h3⟩ := h
    unfold putAt
    by_cases e : p.1 = k
    · rw [if_pos e, if_pos (h1.symm.trans e)]; exact ⟨h1, h2, ry⟩
    · rw [if_neg e, if_neg (fun z => e (h1.trans z))]; exact ⟨h1, h2, h3⟩
theorem KT.put {H : Hp} {kvs : List (List Key × V)} {xs : List (List Key × Addr × Value)} (r : KT H kvs xs) (k : List Key) {b : Addr} {y : V} {u : Value} (hb : H b = some (.tup (k.map kV))) (ry : RelV y u) :
    KT H (putK kvs k y) (storedH xs k b u) := by
  have e : (kvs.any fun kv => decide (kv.1 = k)) = (atKey xs k).isSome := by
    rw [valV_any, (r.val k).isSome_eq, Option.isSome_map]
  unfold putK storedH
  rw [e]
  by_cases q : (atKey xs k).isSome = true
  · rw [if_pos q, if_pos q]; exact r.repl k ry
  · rw [if_neg q, if_neg q]; exact Paired.snoc r ⟨rfl, hb, ry⟩
theorem KT.keeps {H H' : Hp} {kvs : List (List Key × V)} {xs : List (List Key × Addr × Value)} (r : KT H kvs xs) (ht : ∀ b ys, H b = some (.tup ys) → H' b = some (.tup ys)) : KT H' kvs xs :=
  Paired.mapP r fun _ _ z => ⟨z.1, ht _ _ z.2.1, z.2.2⟩

section
variable {P : Program} {w : World} {H : Hp} {h : Heap} {a : Addr}
end

/-- what the dict at a holds at the key y -/
def DGet (H : Hp) (a : Addr) (y : V) (r : Option V) : Prop :=
  (∃ kvs k, Rd H a (.dK kvs) ∧ y = kV k ∧ r = valV kvs k) ∨ ∃ kvs k b, Rd H a (.dT kvs) ∧ y = .ref b ∧ H b = some (.tup (k.map kV)) ∧ r = valV kvs k
/-- the heap behind a[y] = v -/
def DPut (H : Hp) (a : Addr) (y v : V) (H' : Hp) : Prop :=
  (∃ kvs k, H a = some (.dK kvs) ∧ y = kV k ∧ kvs.length < sizeLine ∧ H' = upd H a (.dK (putK kvs k v))) ∨
  ∃ kvs k b, H a = some (.dT kvs) ∧ y = .ref b ∧ H b = some (.tup (k.map kV)) ∧ kvs.length < sizeLine ∧ H' = upd H a (.dT (putK kvs k v))
theorem DGet.k {H : Hp} {a : Addr} {kvs : List (Key × V)} {k : Key} (e : H a = some (.dK kvs)) : DGet H a (kV k) (valV kvs k) := .inl ⟨kvs, k, .inl e, rfl, rfl⟩
theorem DGet.t {H : Hp} {a b : Addr} {kvs : List (List Key × V)} {k : List Key} (e : H a = some (.dT kvs)) (eb : H b = some (.tup (k.map kV))) : DGet H a (.ref b) (valV kvs k) := .inr ⟨kvs, k, b, .inl e, rfl, eb, rfl⟩
theorem DPut.k {H : Hp} {a : Addr} {kvs : List (Key × V)} {k : Key} {v : V} (e : H a = some (.dK kvs)) (hl : kvs.length < sizeLine) : DPut H a (kV k) v (upd H a (.dK (putK kvs k v))) := .inl ⟨kvs, k, e, rfl, hl, rfl⟩
theorem DPut.t {H : Hp} {a b : Addr} {kvs : List (List Key × V)} {k : List Key} {v : V} (e : H a = some (.dT kvs)) (eb : H b = some (.tup (k.map kV))) (hl : kvs.length < sizeLine) :
    DPut H a (.ref b) v (upd H a (.dT (putK kvs k v))) := .inr ⟨kvs, k, b, e, rfl, eb, hl, rfl⟩


section
variable {X : Cx} {pins : List (Addr × Obj)} {σ : St} {H : Hp} {s : Shared} {a : Addr} {y v : V} {u r : Value} {o : Option V} {A : Around} {E : Value → Shared → Prop}

end

section
variable {X : Cx} {pins : List (Addr × Obj)} {σ : St} {H : Hp} {s : Shared} {a : Addr} {kvs : List (Key × V)} {k : Key} {u : Value} {A : Around} {E : Value → Shared → Prop}
end


/-! ### readings and rules -/
/-- the element of a subscription, not a slice -/
def NoSl (i : Expr) : Prop := ∀ ov iv, subscripted i false ov iv = operate [ov, iv] (getItem ov iv)
/-- d[y] -/
def tDGet (td ty : TE) : TE := fun σ H Q => td σ H fun x H1 => ty σ H1 fun y H2 => ∃ a v, x = .ref a ∧ DGet H2 a y (some v) ∧ Q v H2
/-- y in d, y not in d -/
def tDIn (ty td : TE) : TE := fun σ H Q => ty σ H fun y H1 => td σ H1 fun x H2 => ∃ a o, x = .ref a ∧ DGet H2 a y o ∧ Q (.bl o.isSome) H2
def tDNotIn (ty td : TE) : TE := fun σ H Q => ty σ H fun y H1 => td σ H1 fun x H2 => ∃ a o, x = .ref a ∧ DGet H2 a y o ∧ Q (.bl (!o.isSome)) H2
/-- d[y] = v -/
def sDPut (td ty tv : TE) : TS := fun D σ H => tv σ H fun v H1 => td σ H1 fun x H2 => ty σ H2 fun y H3 => ∃ a H4, x = .ref a ∧ DPut H3 a y v H4 ∧ D.nx σ H4
/-- d[y] op= v -/
def sDAug (td ty tv : TE) (rd : V → V → Hp → VK → Prop) : TS := fun D σ H => td σ H fun x H1 => ty σ H1 fun y H2 => ∃ a v, x = .ref a ∧ DGet H2 a y (some v) ∧
  tv σ H2 fun y2 H3 => rd v y2 H3 fun z H4 => ∃ H5, DPut H4 a y z H5 ∧ D.nx σ H5
/-- del d[y] -/
def sDDel (td ty : TE) : TS := fun D σ H => td σ H fun x H1 => ty σ H1 fun y H2 => ∃ a kvs k, x = .ref a ∧ H2 a = some (.dK kvs) ∧ y = kV k ∧ (valV kvs k).isSome = true ∧ D.nx σ (upd H2 a (.dK (dropK kvs k)))

section
variable {X : Cx} {o i e value : Expr} {pos pos' tpos : Pos} {td ty tv : TE}
end


/-! ### displays -/
/-- {}, to be a dict of the kind that is wanted -/
def tDNewK : TE := fun _ H Q => ∀ p, H p = none → Q (.ref p) (upd H p (.dK []))
def tDNewT : TE := fun _ H Q => ∀ p, H p = none → Q (.ref p) (upd H p (.dT []))
section
variable {X : Cx} {pos : Pos}
end

/-- the pairs of a display, from the left -/
def tPairs : List (TE × TE) → St → Hp → (List (V × V) → Hp → Prop) → Prop
  | [], _, H, Q => Q [] H
  | (tk, tv) :: r, σ, H, Q => tk σ H fun x H1 => tv σ H1 fun y H2 => tPairs r σ H2 fun ps H3 => Q ((x, y) :: ps) H3
abbrev VV : List (V × V) → List (Value × Value) → Prop := Paired fun p q => RelV p.1 q.1 ∧ RelV p.2 q.2
def PPs (X : Cx) (pos : Pos) (keys : List (Option Expr)) (values : List Expr) (trs : List (TE × TE)) : Prop :=
  ∀ (pins : List (Addr × Obj)) (s : Shared) (σ : St) (H : Hp) (Q : List (V × V) → Hp → Prop), Inv X pins σ H s → tPairs trs σ H Q →
    wpAny (model X.prog X.w) X.A (evalPairs (pairTrees keys values X.env pos)) (fun vs s' => ∃ ps H', Inv X pins σ H' s' ∧ VV ps vs ∧ Q ps H') X.xe s
def mergeK (kvs more : List (Key × V)) : List (Key × V) := more.foldl (fun acc kv => putK acc kv.1 kv.2) kvs
/-- {k: v, ..} with keys ints and texts; the new dict stands empty while the pairs are made -/
def tDisp (trs : List (TE × TE)) : TE := fun σ H Q => ∀ p, H p = none → tPairs trs σ (upd H p (.dK [])) fun ps H2 => H2 p = some (.dK []) ∧ ∃ kvs : List (Key × V), ps = kvs.map (fun kv => (kV kv.1, kv.2)) ∧ kvs.length ≤ 15 ∧ Q (.ref p) (upd H2 p (.dK (mergeK [] kvs)))
/-! ### methods -/
/-- a method call o.m(e) of a built-in, with one argument: what must be seen of the text -/
structure M1 (X : Cx) (o : Expr) (m : Str) (apos : Pos) (e : Expr) (cpos : Pos) : Prop where
  base : attributeBase o m X.env (eval o X.env) = eval o X.env
  few : ((backTo cpos (starEach [e] X.env)).all (fun x => !x.1) && (backToKw cpos (keywordEach [] X.env)).all (fun x => x.1.isSome)
    && decide (([e] : List Expr).length + ([] : List Keyword).length + (if ([] : List Keyword).isEmpty then 0 else 1) < 30)) = true
  line : (apos.endLine == cpos.line) = true
  trees : backTo cpos (starEach [e] X.env) = [(false, eval e X.env)]
structure M2 (X : Cx) (o : Expr) (m : Str) (apos : Pos) (e f : Expr) (cpos : Pos) : Prop where
  base : attributeBase o m X.env (eval o X.env) = eval o X.env
  few : ((backTo cpos (starEach [e, f] X.env)).all (fun x => !x.1) && (backToKw cpos (keywordEach [] X.env)).all (fun x => x.1.isSome)
    && decide (([e, f] : List Expr).length + ([] : List Keyword).length + (if ([] : List Keyword).isEmpty then 0 else 1) < 30)) = true
  line : (apos.endLine == cpos.line) = true
  trees : backTo cpos (starEach [e, f] X.env) = [(false, eval e X.env), (false, eval f X.env)]

/-- a is a dict, whatever its keys -/
def IsD (H : Hp) (a : Addr) : Prop := (∃ kvs, Rd H a (.dK kvs)) ∨ ∃ kvs, Rd H a (.dT kvs)
section
variable {X : Cx} {pins : List (Addr × Obj)} {σ : St} {H : Hp} {s : Shared} {a : Addr} {y d : V} {u r : Value} {o : Option V} {A : Around} {E : Value → Shared → Prop}
end

def tDGet1 (td ty : TE) : TE := fun σ H Q => td σ H fun x H1 => ∃ a, x = .ref a ∧ IsD H1 a ∧ ty σ H1 fun y H2 => ∃ o, DGet H2 a y o ∧ Q (o.getD .non) H2
def tDGet2 (td ty tx : TE) : TE := fun σ H Q => td σ H fun x H1 => ∃ a, x = .ref a ∧ IsD H1 a ∧ ty σ H1 fun y H2 => tx σ H2 fun z H3 => ∃ o, DGet H3 a y o ∧ Q (o.getD z) H3
/-- d.pop(k): there; d.pop(k, x): there or not -/
def tDPop1 (td ty : TE) : TE := fun σ H Q => td σ H fun x H1 => ∃ a, x = .ref a ∧ IsD H1 a ∧ ty σ H1 fun y H2 => ∃ kvs k v, H2 a = some (.dK kvs) ∧ y = kV k ∧ valV kvs k = some v ∧ Q v (upd H2 a (.dK (dropK kvs k)))
def tDPop2 (td ty tx : TE) : TE := fun σ H Q => td σ H fun x H1 => ∃ a, x = .ref a ∧ IsD H1 a ∧ ty σ H1 fun y H2 => tx σ H2 fun z H3 => ∃ kvs k, H3 a = some (.dK kvs) ∧ y = kV k ∧
  (∀ v, valV kvs k = some v → Q v (upd H3 a (.dK (dropK kvs k)))) ∧ (valV kvs k = none → Q z H3)
section
variable {X : Cx} {o e f : Expr} {apos cpos : Pos} {td ty tx : TE}
end

/-! ### dict(d): a copy -/
section
variable {X : Cx} {pins : List (Addr × Obj)} {σ : St} {H : Hp} {s : Shared} {a : Addr} {kvs : List (Key × V)} {A : Around} {E : Value → Shared → Prop}
end


section
variable {X : Cx} {pins : List (Addr × Obj)} {σ : St} {H : Hp} {s : Shared} {a : Addr} {y : V} {u : Value} {A : Around} {E : Value → Shared → Prop}
end
end L2

namespace L2
open PySem PySem.Spec PyProof.Rows
section
variable {X : Cx}
end
/-! ### a dict's pairs: keys that differ -/
section
variable {κ : Type} [DecidableEq κ]
theorem nd_snoc : ∀ {l : List κ} {k : κ}, l.Nodup → ¬ k ∈ l → (l ++ [k]).Nodup
  | [], k, _, _ => by simp
  | a :: r, k, h, hk => by
    obtain ⟨h1, h2⟩ := List.nodup_cons.mp h
    show (a :: (r ++ [k])).Nodup
    refine List.nodup_cons.mpr ⟨fun m => ?_, nd_snoc h2 fun m => hk (List.mem_cons.mpr (Or.inr m))⟩
    rcases List.mem_append.mp m with q | q
    · exact h1 q
    · exact hk (List.mem_cons.mpr (Or.inl (List.mem_singleton.mp q).symm))
end
end L2

namespace Blk
open PySem
/-- parts joined by a blank -/
def J : List (List Nat) → List Nat
  | [] => []
  | [x] => x
  | x :: y :: r => x ++ 32 :: J (y :: r)
/-- cut at blanks -/
def C : List Nat → List (List Nat)
  | [] => [[]]
  | c :: r => if c = 32 then [] :: C r else match C r with
    | [] => [[c]]
    | p :: ps => (c :: p) :: ps
theorem C_free : ∀ (x : List Nat), 32 ∉ x → C x = [x]
  | [], _ => rfl
  | c :: r, h => by
    have h1 : ¬ c = 32 := fun e => h (by rw [e]; exact List.mem_cons_self)
    have ih := C_free r fun m => h (List.mem_cons_of_mem _ m)
    show (if c = 32 then _ else _) = _
    rw [if_neg h1, ih]
theorem C_app : ∀ (x r : List Nat), 32 ∉ x → C (x ++ 32 :: r) = x :: C r
  | [], r, _ => by
    show (if 32 = 32 then _ else _) = _
    rw [if_pos rfl]
  | c :: x, r, h => by
    have h1 : ¬ c = 32 := fun e => h (by rw [e]; exact List.mem_cons_self)
    have ih := C_app x r fun m => h (List.mem_cons_of_mem _ m)
    show (if c = 32 then _ else match C (x ++ 32 :: r) with | [] => [[c]] | p :: ps => (c :: p) :: ps) = _
    rw [if_neg h1, ih]
theorem C_J : ∀ (ps : List (List Nat)), ps ≠ [] → (∀ p ∈ ps, 32 ∉ p) → C (J ps) = ps
  | [], h, _ => absurd rfl h
  | [x], _, h => C_free x (h x List.mem_cons_self)
  | x :: y :: r, _, h => by
    show C (x ++ 32 :: J (y :: r)) = _
    rw [C_app x _ (h x List.mem_cons_self), C_J (y :: r) (by intro e; cases e) fun p hp => h p (List.mem_cons_of_mem _ hp)]
theorem J_snoc : ∀ (ws : List (List Nat)) (w : List Nat), J (ws ++ [w]) = (ws.map (· ++ [32])).flatten ++ w
  | [], w => rfl
  | [x], w => by
    show x ++ 32 :: w = _
    simp
  | x :: y :: r, w => by
    have ih := J_snoc (y :: r) w
    show x ++ 32 :: J (y :: r ++ [w]) = _
    rw [ih]
    simp
/-- texts by their signs -/
def sg (x : Str) : List Nat := x.cps.toList
theorem sg_inj {x y : Str} (h : sg x = sg y) : x = y := by
  obtain ⟨a⟩ := x
  obtain ⟨b⟩ := y
  have e : a.toList = b.toList := h
  rw [Array.toList_inj.mp e]
theorem sg_app (x y : Str) : sg (x ++ y) = sg x ++ sg y := Array.toList_append ..
theorem map_sg_inj : ∀ {a b : List Str}, a.map sg = b.map sg → a = b
  | [], [], _ => rfl
  | [], _ :: _, h => by cases h
  | _ :: _, [], h => by cases h
  | x :: a, y :: b, h => by
    have e := List.cons.inj h
    rw [sg_inj e.1, map_sg_inj e.2]
theorem J_join : ∀ ps : List Str, ps ≠ [] → sg (Str.join ⟨#[32]⟩ ps) = J (ps.map sg)
  | [], h => absurd rfl h
  | [x], _ => rfl
  | x :: y :: r, _ => by
    have ih := J_join (y :: r) (by intro e; cases e)
    show sg (x ++ ⟨#[32]⟩ ++ Str.join ⟨#[32]⟩ (y :: r)) = sg x ++ 32 :: J ((y :: r).map sg)
    rw [sg_app, sg_app, ih]
    show sg x ++ [32] ++ _ = _
    rw [List.append_assoc] <;> rfl
/-- two ways to part one text at its blanks are one -/
theorem part_unique {z : Str} {a b : List Str} (ha : a ≠ []) (hb : b ≠ []) (fa : ∀ p ∈ a, 32 ∉ sg p) (fb : ∀ p ∈ b, 32 ∉ sg p) (ja : J (a.map sg) = sg z) (jb : J (b.map sg) = sg z) : a = b := by
  have h1 := C_J (a.map sg) (by simpa using ha) (by intro p hp; obtain ⟨q, hq, rfl⟩ := List.mem_map.mp hp; exact fa q hq)
  have h2 := C_J (b.map sg) (by simpa using hb) (by intro p hp; obtain ⟨q, hq, rfl⟩ := List.mem_map.mp hp; exact fb q hq)
  rw [ja] at h1
  rw [jb] at h2
  exact map_sg_inj (h1.symm.trans h2)
/-- what holds between two turns of the parting loop: the parts that are done, the one under way -/
structure Parts (pre : List Nat) (ws : List Str) (w : Str) : Prop where
  free : ∀ p ∈ ws ++ [w], 32 ∉ sg p
  join : ((ws.map sg).map (· ++ [32])).flatten ++ sg w = pre
  many : ws.length ≤ pre.length
  len : w.length ≤ pre.length
theorem Parts.start : Parts [] [] ⟨#[]⟩ := by
  refine ⟨?_, rfl, Nat.le_refl _, Nat.le_refl _⟩
  intro p hp
  rw [List.mem_singleton.mp hp]
  intro h
  cases h
theorem Parts.blank {pre : List Nat} {ws : List Str} {w : Str} (P : Parts pre ws w) : Parts (pre ++ [32]) (ws ++ [w]) ⟨#[]⟩ := by
  refine ⟨?_, ?_, ?_, Nat.zero_le _⟩
  · intro p hp
    rcases List.mem_append.mp hp with h | h
    · exact P.free p h
    · rw [List.mem_singleton.mp h]
      intro h
      cases h
  · rw [← P.join]
    simp [sg]
  · have := P.many
    simp only [List.length_append, List.length_singleton]
    omega
theorem Parts.sign {pre : List Nat} {ws : List Str} {w : Str} {c : Nat} (P : Parts pre ws w) (h : c ≠ 32) : Parts (pre ++ [c]) ws (w ++ ⟨#[c]⟩) := by
  have e : sg (w ++ ⟨#[c]⟩) = sg w ++ [c] := sg_app ..
  refine ⟨?_, ?_, ?_, ?_⟩
  · intro p hp
    rcases List.mem_append.mp hp with q | q
    · exact P.free p (List.mem_append_left _ q)
    · rw [List.mem_singleton.mp q, e]
      intro m
      rcases List.mem_append.mp m with m | m
      · exact P.free w (List.mem_append_right _ (List.mem_singleton.mpr rfl)) m
      · exact h (List.mem_singleton.mp m).symm
  · rw [← P.join, e, List.append_assoc]
  · have := P.many
    simp only [List.length_append, List.length_singleton]
    omega
  · have := P.len
    have e2 := congrArg List.length e
    simp only [List.length_append, List.length_singleton] at e2 ⊢
    have e3 : (sg (w ++ ⟨#[c]⟩)).length = (w ++ ⟨#[c]⟩ : Str).length := by simp [sg, Str.length]
    have e4 : (sg w).length = w.length := by simp [sg, Str.length]
    omega
theorem Parts.done {z : Str} {ws : List Str} {w : Str} (P : Parts (sg z) ws w) {b : List Str} (hb : b ≠ []) (fb : ∀ p ∈ b, 32 ∉ sg p) (jb : Str.join ⟨#[32]⟩ b = z) : ws ++ [w] = b := by
  refine part_unique (z := z) (by simp) hb P.free fb ?_ ?_
  · rw [List.map_append, List.map_singleton, J_snoc]
    exact P.join
  · rw [← J_join b hb, jb]
end Blk

namespace L2
open PySem PySem.Spec PyProof.Rows
theorem small {n : Nat} (h : n ≤ 1000) : n ≤ sizeLine := Nat.le_of_lt (small1000 h)
theorem len_toList (z : Str) : z.cps.toList.length = z.length := by simp [Str.length]
theorem at_in {α : Type} {xs : List α} {i : Int} (h0 : 0 ≤ i) (h1 : i < (xs.length : Int)) : ∃ v, xs[i.toNat]? = some v ∧ atI xs i = some v := by
  have hk : i.toNat < xs.length := by omega
  have q : atI xs ((i.toNat : Nat) : Int) = some xs[i.toNat] := atI_nat (List.getElem?_eq_getElem hk)
  have e : ((i.toNat : Nat) : Int) = i := by omega
  rw [e] at q
  exact ⟨_, List.getElem?_eq_getElem hk, q⟩
theorem bt_list : bootBuiltins "list" = some (.type "list") := by decide +kernel
theorem bt_bool : bootBuiltins "bool" = some (.type "bool") := by decide +kernel
theorem bt_int : bootBuiltins "int" = some (.type "int") := by decide +kernel
theorem bt_isi : bootBuiltins "isinstance" = some (.builtin "isinstance") := by decide +kernel
theorem bt_min : bootBuiltins "min" = some (.builtin "min") := by decide +kernel
theorem bt_max : bootBuiltins "max" = some (.builtin "max") := by decide +kernel
theorem rel_ty (n : String) : RelV (.ty n) (.type n) := rfl
theorem rel_int (x : Int) (t : Tok) : RelV (.int x) (.int x t) := ⟨t, rfl⟩
/-! ### a text walked sign by sign -/
def Itx (z : Str) : It := ⟨fun i _ => i < z.cps.size, fun i H x H' => H' = H ∧ ∃ c, z.cps[i]? = some c ∧ x = .str ⟨#[c]⟩, fun i _ => i = z.cps.size⟩
section
variable {X : Cx} {tg : Expr}
def iStr (tl : TE) : TI := fun σ H R => tl σ H fun x H1 => ∃ z, x = .str z ∧ R (Itx z) H1
end
section
variable {X : Cx}
/-! ### a sign of a text, at a place that lies in it -/
def rIxSA : R2 := fun x y H Q => ∃ z i, x = .str z ∧ y = .int i ∧ z.length ≤ sizeLine ∧ 0 ≤ i ∧ i < ((z.length : Nat) : Int) ∧ ∀ c, z.cps.toList[i.toNat]? = some c → Q (.str ⟨#[c]⟩) H
theorem ix_strA : IxR X rIxSA := by
  intro value slice pins s σ H x y v u Q I rx ry h hs
  obtain ⟨z, i, rfl, rfl, hz, h0, h1, q⟩ := h
  obtain ⟨c, e1, e2⟩ := at_in (xs := z.cps.toList) h0 (by rw [len_toList]; exact h1)
  exact ix_str value slice pins s σ H _ _ v u Q I rx ry ⟨z, i, c, rfl, rfl, hz, e2, q c e1⟩ hs
/-! ### isinstance(x, a built-in class) -/
def rIsi (K : PySem.W.Frag) : List V → Hp → VK → Prop := fun xs H Q => ∃ x n t b, xs = [x, .ty n] ∧ TyOf K H x t ∧ PySem.W.kitOne K t (.type n) = some b ∧ Q (.bl b) H
theorem call_isi : CallR X (.builtin "isinstance") (rIsi X.K) := by
  intro pins s σ H xs us Q I r h
  obtain ⟨x, n, t, b, rfl, ty, e, q⟩ := h
  obtain ⟨u, w', rfl, r1, r2⟩ := vals2 r
  cases (show w' = Value.type n from r2)
  exact isinst_ok I r1 ty e fun tk => ⟨.bl b, H, I.tok tk, rfl, q⟩
theorem kit_same {K : PySem.W.Frag} (n : String) : PySem.W.kitOne K (.type n) (.type n) = some true := by
  unfold PySem.W.kitOne
  rw [if_pos (beq_self_eq_true _)]
/-! ### lists of flat things: == and != -/
def eqVs (xs ys : List V) : Bool := xs.length == ys.length && (List.range xs.length).all fun j => eqV (xs.getD j .non) (ys.getD j .non)
theorem flat_at {xs : List V} (f : xs.all flatV = true) (j : Nat) : flatV (xs.getD j .non) = true := by
  by_cases h : j < xs.length
  · rw [List.getD_eq_getElem?_getD, List.getElem?_eq_getElem h]
    exact (List.all_eq_true.mp f) _ (List.getElem_mem h)
  · rw [List.getD_eq_getElem?_getD, List.getElem?_eq_none (by omega)]
    rfl
theorem vals_at {xs : List V} {us : List Value} (r : Vals xs us) (j : Nat) (h : j < us.toArray.size) : RelV (xs.getD j .non) (us.toArray[j]) := by
  have hl := r.length
  have h' : j < us.length := by simpa using h
  have h2 : j < xs.length := by omega
  obtain ⟨u, e1, e2⟩ := r.get (List.getElem?_eq_getElem h2)
  rw [List.getD_eq_getElem?_getD, List.getElem?_eq_getElem h2]
  have e3 : us.toArray[j] = u := by
    rw [List.getElem?_eq_getElem h'] at e1
    simpa using Option.some.inj e1
  rw [e3]
  exact e2
def rEqL (K : PySem.W.Frag) (neg : Bool) : R2 := fun x y H Q => ∃ p q xs ys, x = .ref p ∧ y = .ref q ∧ SqL K H p xs ∧ SqL K H q ys ∧ xs.all flatV = true ∧ ys.all flatV = true ∧ Q (.bl (if neg then !eqVs xs ys else eqVs xs ys)) H
theorem eqV_refl {x : V} (f : flatV x = true) : eqV x x = true := by
  cases x with
  | non => rfl
  | bl b => exact beq_self_eq_true b
  | int i => exact beq_self_eq_true i
  | str z => exact beq_self_eq_true z
  | _ => exact absurd (show false = true from f) Bool.false_ne_true
/-! ### x.split(y) -/
def rSplit : V → List V → Hp → VK → Prop := fun x vs H Q => ∃ z y, x = .str z ∧ vs = [.str y] ∧ (y.length == 0) = false ∧ z.length + 2 ≤ sizeLine ∧ ∀ p, H p = none → Q (.ref p) (upd H p (.lst ((Txt.split z y).map V.str)))
end
/-! ### heaps -/
theorem same_new {H : Hp} {p : Addr} (h : H p = none) (o : HO) : Same H (upd H p o) := fun b u q => by rw [upd_ne (ne_of_none q h)]; exact q
theorem same_on {H H' : Hp} {p : Addr} (h : H p = none) (e : Same H H') (o : HO) : Same H (upd H' p o) := fun b u q => by rw [upd_ne (ne_of_none q h)]; exact e b u q
end L2

namespace L2
open PySem PySem.Spec PyProof.Rows
/-! ### the cells that a comprehension's block takes along -/
def closOf (cells : List (Str × Addr)) : List (Str × NameKind) → List (Str × Addr) → List (Str × Addr)
  | [], acc => acc
  | (n, k) :: r, acc => closOf cells r (if (k == .free) = true then (n, (cells.lookup n).getD 0) :: acc else acc)
/-- the context of a comprehension's block -/
def compCx (X : Cx) (scope : Scope) (N' : List Str) (C : Addr) (ex : List Addr) (s₂ : Shared) (H₂ : Hp) : Cx where
  prog := X.prog
  w := X.w
  K := X.K
  mg := X.mg
  base := X.base
  A := X.A
  N := N'
  s₀ := s₂
  H₀ := H₂
  env := compEnvC scope (closOf X.env.cells scope.names []) C X.env
  outer := X.stack
  stack := X.stack
  ex := ex
  fn := fun _ => false
  calm := X.calm
  pn := []
  xe := fun _ _ => False
def FreesOk (X : Cx) (scope : Scope) : List (Str × Nat) → Prop
  | [] => True
  | p :: r => (X.N[p.2]? = some p.1 ∧ X.env.kindOf p.1 = some .cell ∧ (relabel scope X.env).names.lookup p.1 = some .cell ∧ (p.1, NameKind.free) ∈ scope.names) ∧ FreesOk X scope r
theorem FreesOk.at {X : Cx} {scope : Scope} : ∀ {fr : List (Str × Nat)}, FreesOk X scope fr → ∀ p ∈ fr, X.N[p.2]? = some p.1 ∧ X.env.kindOf p.1 = some .cell ∧ (relabel scope X.env).names.lookup p.1 = some .cell ∧ (p.1, NameKind.free) ∈ scope.names
  | [], _, p, hp => by cases hp
  | _ :: _, h, p, hp => by
    rcases List.mem_cons.mp hp with e | hp
    · rw [e]; exact h.1
    · exact FreesOk.at h.2 p hp
/-- the block's names: the loop's own, then those of the def around it -/
def inSt (frees : List (Str × Nat)) (σ : St) (x : Option V) : St := x :: frees.map fun p => (σ[p.2]?).join
/-- the tests of a clause -/
def PIfs (X : Cx) (ifs : List Expr) (t : TT) : Prop :=
  ∀ (pins : List (Addr × Obj)) (s : Shared) (σ : St) (H : Hp) (Q : Bool → Hp → Prop), Inv X pins σ H s → t σ H Q →
    wpAny (model X.prog X.w) X.A (forIn ifs true fun c r => if r = true then do let ok ← isTrue c X.env (eval c X.env); pure (ForInStep.yield ok) else pure (ForInStep.yield r)) (TP X pins σ Q) X.xe s
/-- what the block wants: W, by the turn, a measure, the items so far, the heap -/
def CompB (J : It) (tc : TT) (te : TE) (σf : Option V → St) (H1 : Hp) (Q : VK) : Prop := ∀ D, H1 D = none →
  ∃ W : Nat → Nat → List V → Hp → Prop, (∃ m, W 0 m [] (upd H1 D (.lst []))) ∧ ∀ i m ys H2, W i m ys H2 → H2 D = some (.lst ys) ∧
    ((J.stop i H2 ∧ Q (.ref D) H2) ∨ (J.go i H2 ∧ ys.length < sizeLine ∧ ∀ x H3, J.yld i H2 x H3 → tc (σf (some x)) H3 fun b H4 =>
      if b = true then te (σf (some x)) H4 fun y H5 => H5 D = some (.lst ys) ∧ ∃ m', m' < m ∧ W (i + 1) m' (ys ++ [y]) (upd H5 D (.lst (ys ++ [y]))) else ∃ m', m' < m ∧ W (i + 1) m' ys H4))
section
variable {prog : Program} {w : World} {A : Around} {R : Result → Shared → Prop} {s : Shared}
end
section
variable {X : Cx} {elt iter : Expr} {x : Str} {px pos : Pos} {ifs : List Expr} {scope : Scope} {frees : List (Str × Nat)} {tc : TT} {te : TE}
/-- what the text of a comprehension must be -/
structure CompOk (X : Cx) (scope : Scope) (x : Str) (frees : List (Str × Nat)) : Prop where
  cell : ∀ y ∈ scope.names, y.2 ≠ .cell
  kind : scope.kind = .function
  own : scope.names.lookup x = some .local
  names : ∀ y ∈ scope.names, y.2 = .local → scope.names.lookup y.1 = some .local
  fr : FreesOk X scope frees
  nd : (x :: frees.map (·.1)).Nodup
  cl : ∀ p ∈ scope.names, p.2 = .free → (X.env.cells.lookup p.1).isSome = true
  calm : X.calm = true
/-- [elt for x in iter if ..] -/
def tComp (frees : List (Str × Nat)) (tc : TT) (te : TE) (wi : TI) : TE := fun σ H Q => wi σ H fun J H1 => CompB J tc te (inSt frees σ) H1 Q
end
end L2

namespace L2
open PySem PySem.Spec PyProof.Rows
section
variable {X : Cx}
/-! ### all(..) of a list of truths -/
/-! ### methods of texts -/
/-- x[lo:hi] of a text -/
def rSlS : V → Option Int → Option Int → Hp → VK → Prop := fun x lo hi H Q => ∃ z, x = .str z ∧ z.length ≤ sizeLine ∧ Q (.str (Txt.slice z lo hi)) H
theorem part_of {v : Value} {o : Option Int} (p : IsPart v o) : ∃ l : Option (Int × Tok), v = partValue l ∧ l.map (·.1) = o := by
  cases p with
  | none => exact ⟨none, rfl, rfl⟩
  | int i t => exact ⟨some (i, t), rfl, rfl⟩
theorem sl_str : SlR X rSlS := by
  intro pins s σ H x v vl vu lo hi sl Q I rx hs pl pu h
  obtain ⟨z, rfl, hz, q⟩ := h
  obtain ⟨t, rfl⟩ := rx
  obtain ⟨l, rfl, rfl⟩ := part_of pl
  obtain ⟨u, rfl, rfl⟩ := part_of pu
  exact ⟨"str", _, F.slot_str_getitem.lookup, typeIs_str _ _ _, wpAny_getItem_str_slice (l := l) (u := u) (st := none) hs rfl
    (post_val_or_str ⟨Nat.le_trans (Txt.slice_le z _ _) hz, fun t' k => ⟨.str _, H, I.tok _, ⟨t', rfl⟩, q⟩⟩)⟩
/-! ### signs in texts -/
/-! ### o.m(..) where the fragment is named (within a comprehension) -/
/-! ### weaker readings: a statement's (or a block's) reading by one of your own -/
end
/-! ### comprehensions whose items are reckoned without a change of the heap -/
structure Seq (J : It) (H1 : Hp) (xs : List V) : Prop where
  go : ∀ i H, Same H1 H → i < xs.length → J.go i H
  yld : ∀ i H x H', Same H1 H → i < xs.length → J.yld i H x H' → H' = H ∧ xs[i]? = some x
  stop : ∀ H, Same H1 H → J.stop xs.length H
/-- what is asked of a comprehension's text, in short -/
def cellsFor (cells : List (Str × Addr)) (names : List (Str × NameKind)) : Bool := names.all fun p => if (p.2 == NameKind.free) = true then (cells.lookup p.1).isSome else true
end L2

namespace L2
open PySem PySem.Spec PyProof.Rows
section
variable {X : Cx}
/-! ### text * number, int(text) -/
theorem mul_len (z : Str) (n : Int) : (Txt.mul z n).length ≤ z.length * n.toNat := by
  unfold Txt.mul
  split
  · exact Nat.zero_le _
  · rename_i h1
    split
    · rename_i h2
      rw [Bool.or_eq_true, beq_iff_eq, beq_iff_eq] at h2
      rcases h2 with h2 | h2
      · rw [h2]
        exact Nat.le_of_eq (Nat.mul_one _).symm
      · rw [h2]
        exact Nat.zero_le _
    · have go : ∀ (k : Nat) (acc : Array Nat), ((List.replicate k z.cps).foldl (· ++ ·) acc).size = acc.size + z.length * k := fun k => by
        induction k with
        | zero => intro acc; simp
        | succ k ih =>
          intro acc
          rw [List.replicate_succ, List.foldl_cons, ih, Array.size_append, Nat.mul_succ]
          show acc.size + z.length + z.length * k = _
          omega
      show ((List.replicate n.toNat z.cps).foldl (· ++ ·) #[]).size ≤ _
      rw [go]
      simp
theorem op_mul_str : OpR X (binaryOp .Mult) (fun x y H Q => ∃ z n, x = .str z ∧ y = .int n ∧ z.length ≤ 1000 ∧ 0 ≤ n ∧ n ≤ 1000 ∧ ∀ u : Str, u.length ≤ z.length * n.toNat → Q (.str u) H) := by
  intro pins s σ H x y v u Q I rx ry h
  obtain ⟨z, n, rfl, rfl, hz, h0, h1, q⟩ := h
  obtain ⟨t, rfl⟩ := rx
  obtain ⟨t', rfl⟩ := ry
  exact SB.mul (mulOk_of 1000 1000 hz (by omega) (by omega) (by decide) (by decide)) fun t2 k => ⟨.str _, H, I.tok _, ⟨t2, rfl⟩, q _ (mul_len z n)⟩
theorem kit_int_bool (K : PySem.W.Frag) : PySem.W.kitOne K (.type "int") (.type "bool") = some false := by
  have e1 : PySem.W.kitMeta "bool" = true := by decide +kernel
  have e2 : PySem.W.subIn K (.type "int") (.type "bool") = some false := by
    show (fastBuiltinMro "int").map (·.contains (Value.type "bool")) = some false
    decide +kernel
  show (if (Value.type "int" == Value.type "bool") = true then some true else (if PySem.W.kitMeta "bool" = true then PySem.W.subIn K (.type "int") (.type "bool") else none)) = some false
  rw [if_neg (by decide), if_pos e1]
  exact e2
/-! ### a list's item, at a place that lies in it -/
def rIxLA (K : PySem.W.Frag) : R2 := fun x y H Q => ∃ p xs i, x = .ref p ∧ y = .int i ∧ SqL K H p xs ∧ 0 ≤ i ∧ i < ((xs.length : Nat) : Int) ∧ ∀ v, xs[i.toNat]? = some v → Q v H
theorem ix_listA : IxR X (rIxLA X.K) := by
  intro value slice pins s σ H x y v u Q I rx ry h hs
  obtain ⟨p, xs, i, rfl, rfl, hq, h0, h1, q⟩ := h
  obtain ⟨c, e1, e2⟩ := at_in (xs := xs) h0 h1
  exact ix_list value slice pins s σ H _ _ v u Q I rx ry ⟨p, xs, i, c, rfl, rfl, hq, e2, q c e1⟩ hs
def intV : V → Bool
  | .int _ => true
  | _ => false
end
end L2

namespace L2
open PySem PySem.Spec PyProof.Rows
section
variable {X : Cx}
/-! ### readings that lean on a token's being made already (x.replace(y, z) asks whether y and z are one object) -/
def PSk (X : Cx) (st : Stmt) (t : TS) : Prop :=
  ∀ (pins : List (Addr × Obj)) (s : Shared) (σ : St) (H : Hp) (D : Ends), Inv X pins σ H s → 1 ≤ s.toks → t D σ H → wpAny (model X.prog X.w) X.A (exec st X.env) (SP X pins D) X.xe s
def PSsK (X : Cx) (st : List Stmt) (t : TS) : Prop :=
  ∀ (pins : List (Addr × Obj)) (s : Shared) (σ : St) (H : Hp) (D : Ends), Inv X pins σ H s → 1 ≤ s.toks → t D σ H → wpAny (model X.prog X.w) X.A (execs st X.env) (SP X pins D) X.xe s
def PEk (X : Cx) (e : Expr) (t : TE) : Prop :=
  ∀ (pins : List (Addr × Obj)) (s : Shared) (σ : St) (H : Hp) (Q : VK), Inv X pins σ H s → 1 ≤ s.toks → t σ H Q → wpAny (model X.prog X.w) X.A (eval e X.env) (EP X pins σ Q) X.xe s
/-- a value behind which a token was made -/
def PE1 (X : Cx) (e : Expr) (t : TE) : Prop :=
  ∀ (pins : List (Addr × Obj)) (s : Shared) (σ : St) (H : Hp) (Q : VK), Inv X pins σ H s → t σ H Q → wpAny (model X.prog X.w) X.A (eval e X.env) (fun u s' => 1 ≤ s'.toks ∧ EP X pins σ Q u s') X.xe s
def PS1 (X : Cx) (st : Stmt) (t : TS) : Prop :=
  ∀ (pins : List (Addr × Obj)) (s : Shared) (σ : St) (H : Hp) (D : Ends), Inv X pins σ H s → t D σ H → wpAny (model X.prog X.w) X.A (exec st X.env) (fun f s' => 1 ≤ s'.toks ∧ SP X pins D f s') X.xe s
theorem PS.k {st : Stmt} {t : TS} (h : PS X st t) : PSk X st t := fun pins s σ H D I _ hw => h pins s σ H D I hw
theorem PSs.k {st : List Stmt} {t : TS} (h : PSs X st t) : PSsK X st t := fun pins s σ H D I _ hw => h pins s σ H D I hw
/-- o.replace('..', '..'), two unlike texts written there -/
def tRepl (y z : Str) (to : TE) : TE := fun σ H Q => to σ H fun v H1 => ∃ x, v = .str x ∧ x.length + (x.length + 1) * z.length ≤ 16777216 ∧ ∀ u : Str, u.length ≤ x.length + (x.length + 1) * z.length → Q (.str u) H1
end
end L2

namespace L2
open PySem PySem.Spec PyProof.Rows
/-! ### enumerate(xs), enumerate(xs, start=j) over a list -/
section
variable {prog : Program} {w : World} {A : Around} {E : Value → Shared → Prop} {s : Shared}
set_option maxHeartbeats 2000000 in
end
end L2

namespace L2
open PySem PySem.Spec PyProof.Rows
section
variable {prog : Program} {w : World} {A : Around} {E : Value → Shared → Prop} {s : Shared}
end
end L2

namespace L2
open PySem PySem.Spec PyProof.Rows
section
variable {prog : Program} {w : World} {A : Around} {E : Value → Shared → Prop} {s : Shared}
end
/-- j, j + 1, .. beside the list's things -/
def Ite (K : PySem.W.Frag) (a : Addr) (j : Int) : It :=
  ⟨fun i H => ∃ xs x, SqL K H a xs ∧ xs[i]? = some x, fun i H x H' => ∃ p y, x = .ref p ∧ H p = none ∧ H' = upd H p (.tup [.int (j + (i : Nat)), y]) ∧ ∀ xs, SqL K H a xs → xs[i]? = some y, fun i H => ∃ xs, SqL K H a xs ∧ xs.length = i⟩
section
variable {X : Cx} {elts : List Expr} {x1 : Nat} {tpos : Pos}
/-- enumerate(l, start=j) -/
def iEnumK (K : PySem.W.Frag) (tl : TA) (tj : TA) : TI := fun σ H R => tl σ H fun vs H1 => tj σ H1 fun zs H2 => ∃ a j, vs = [.ref a] ∧ zs = [.int j] ∧ (∃ xs, SqL K H2 a xs) ∧ Builtin.SmallTypes.fitsIndex j = true ∧ R (Ite K a j) H2
def iEnum (K : PySem.W.Frag) (tl : TA) : TI := fun σ H R => tl σ H fun vs H1 => ∃ a, vs = [.ref a] ∧ (∃ xs, SqL K H1 a xs) ∧ R (Ite K a 0) H1
end
end L2

namespace L2
open PySem PySem.Spec PyProof.Rows
section
variable {X : Cx} {pins : List (Addr × Obj)} {σ : St} {H : Hp} {s : Shared} {d : Addr} {kvs : List (Key × V)}
/-! ### a dict is held still while a loop walks it -/
def tFrz (t : TE) : TE := fun σ H Q => ∃ (d : Addr) (kvs : List (Key × V)), H d = some (.dK kvs) ∧ ∀ o, t σ (upd H d (.frz o (.dK kvs))) fun v H' => H' d = some (.frz o (.dK kvs)) ∧ Q v (upd H' d (.dK kvs))
def sFrz (t : TS) : TS := fun D σ H => ∃ (d : Addr) (kvs : List (Key × V)), H d = some (.dK kvs) ∧ ∀ o, t { nx := fun σ' H' => H' d = some (.frz o (.dK kvs)) ∧ D.nx σ' (upd H' d (.dK kvs)), rt := fun v H' => H' d = some (.frz o (.dK kvs)) ∧ D.rt v (upd H' d (.dK kvs)), bk := fun σ' H' => H' d = some (.frz o (.dK kvs)) ∧ D.bk σ' (upd H' d (.dK kvs)), ct := fun σ' H' => H' d = some (.frz o (.dK kvs)) ∧ D.ct σ' (upd H' d (.dK kvs)) } σ (upd H d (.frz o (.dK kvs)))
end
/-- a dict's keys, in order -/
def Itd (d : Addr) (o : Obj) (kvs : List (Key × V)) : It :=
  ⟨fun i H => H d = some (.frz o (.dK kvs)) ∧ i < kvs.length, fun i H x H' => H' = H ∧ ∃ k v, kvs[i]? = some (k, v) ∧ x = kV k, fun i H => H d = some (.frz o (.dK kvs)) ∧ kvs.length = i⟩
section
variable {X : Cx} {tg : Expr}
def iDict (tl : TE) : TI := fun σ H R => tl σ H fun x H1 => ∃ d o kvs, x = .ref d ∧ H1 d = some (.frz o (.dK kvs)) ∧ R (Itd d o kvs) H1
/-! ### xs.insert(i, y) at a place that lies in it -/
def rInsert : V → List V → Hp → VK → Prop := fun x vs H Q => ∃ l xs i y, x = .ref l ∧ vs = [.int i, y] ∧ H l = some (.lst xs) ∧ 0 ≤ i ∧ i ≤ ((xs.length : Nat) : Int) ∧ xs.length < sizeLine ∧ Q .non (upd H l (.lst (xs.take i.toNat ++ y :: xs.drop i.toNat)))
/-! ### a def of the text, all in one -/
structure Dfn (P : Program) (w : World) (K : PySem.W.Frag) (mg : Str → Option Value) (base : Heap) (k : Nat) (x : Str) (ps : List Str) (sp : Sp) : Prop where
  ex : ∃ f fd, FnOk P w K mg base CX0 k f fd ps sp ∧ Binds K fd ps [] ∧ PySem.W.keepIn K (.ref f) = true ∧ mg x = some (.ref f)
theorem pe_callD {k : Nat} {x : Str} {ps : List Str} {sp : Sp} {e : Expr} {es : List Expr} {t : TA} {p pos : Pos} (D : Dfn X.prog X.w X.K X.mg X.base k x ps sp) (hr : Room k X.A) (hg : Gl X x) (ha : PA X (e :: es) t) (hdb : (x == ("__debug__" : Str)) = false := by decide)
    (he : starEach (e :: es) X.env = (false, eval e X.env) :: starEach es X.env := by rfl) (hpl : (backTo pos (starEach es X.env)).any (·.1) = false := by rfl) : PE X (.Call (.Name x p) (e :: es) [] pos) (tCall sp [] E0 t) := by
  obtain ⟨f, fd, F, b, kp, m⟩ := D.ex
  exact pe_call F hr hg m kp b .nil pass0 ha hdb he hpl
structure GS (mg : Str → Option Value) (x : Str) (z : Str) : Prop where
  ex : ∃ t, mg x = some (.str z t)
structure GI (mg : Str → Option Value) (x : Str) (z : Int) : Prop where
  ex : ∃ t, mg x = some (.int z t)
theorem pe_gi {x : Str} {z : Int} {pos : Pos} (G : GI X.mg x z) (hg : Gl X x) (hd : (x == ("__debug__" : Str)) = false := by decide) : PE X (.Name x pos) (tC (.int z)) := by
  obtain ⟨t, e⟩ := G.ex
  exact pe_glob hg e (rel_int _ _) hd
end
end L2

namespace L2
open PySem PySem.Spec PyProof.Rows
section
variable {X : Cx}
/-! ### a class that is made; a method: all in one -/
structure MkD (P : Program) (w : World) (K : PySem.W.Frag) (mg : Str → Option Value) (base : Heap) (k : Nat) (x : Str) (C : Addr) (ps : List Str) (sp : Sp) : Prop where
  ex : ∃ f fd, Mk K C f ∧ FnOk P w K mg base CX0 k f fd ps sp ∧ Binds K fd ps [] ∧ mg x = some (.ref C)
structure MtD (P : Program) (w : World) (K : PySem.W.Frag) (mg : Str → Option Value) (base : Heap) (k : Nat) (m : Str) (C : Addr) (ps : List Str) (sp : Sp) : Prop where
  ex : ∃ f fd, Meth K C m f ∧ FnOk P w K mg base CX0 k f fd ps sp ∧ Binds K fd ps []
theorem pe_ixK {K : PySem.W.Frag} {a b : Expr} {ta tb : TE} {pos : Pos} {r : PySem.W.Frag → R2} (hK : X.K = K) (hr : IxR X (r X.K)) (ha : PE X a ta) (hb : PE X b tb) (hs : PlainIx b) : PE X (.Subscript a b pos) (tOp (r K) ta tb) := by
  subst hK
  exact pe_ix hr ha hb hs
/-! ### the names' values written out anew -/
def tAt (t : TS) : TS := fun D σ H => ∃ σ', σ = σ' ∧ t D σ' H
/-! ### classes by isinstance: tuples, lists, texts, numbers, truths, None -/
end
end L2

namespace PySem.W
open PySem PySem.Spec PySem.Calls PyProof.Rows Builtin Builtin.ObjectAttr Builtin.Getset_descriptor
/-! ### own classes of refusals: made by ValueError's new, by an own __init__ -/
abbrev veMro : List Value := [.type "ValueError", .type "Exception", .type "BaseException", .type "object"]
def excMk (K : Frag) (C : Addr) : Bool := match K.lookup C with
  | some ⟨.type "type", _, .cls cd, sls⟩ => (match cd.mro, sls.toList with
    | .ref C' :: tlm, [_, _, _, _, some (.builtin n), _] => C' == C && n == "ValueError.__new__" && !cd.hasDel && tailIn K veMro tlm
    | _, _ => false)
  | _ => false
def ExcAt (h : Heap) (C : Addr) (tlm : List Value) : Prop := ∃ N nm q bs hdct sn sub ab col dd q0 q1 q2 q3 q5, h.get? C = some (excClassObj nm q C N bs tlm hdct sn sub ab col dd q0 q1 q2 q3 q5 "ValueError.__new__")
abbrev excTup (us : List Value) : Obj := { cls := .type "tuple", data := .seq us.toArray }
abbrev excNew (C t0 : Addr) : Obj := { cls := .ref C, data := .fields #[.ref t0, .none, .none, .none, .bool false, .none] }
section
variable {prog : Program} {w : World} {A : Around} {K : Frag} {C f : Addr} {R : Result → Shared → Prop} {h : Heap} {g : Array GenState} {d : Drawn} {t : Nat} {os : OsState}
end
end PySem.W

namespace PySem.W
open PySem PySem.Spec PySem.Calls PyProof.Rows Builtin Builtin.ObjectAttr Builtin.Getset_descriptor
/-! ### attributes of a refusal -/
def onlyVE : List Value → Bool
  | .ref _ :: r => onlyVE r
  | .type n :: r => (.type n :: r) == veMro
  | _ => false
def excOver (K : Frag) (C : Addr) : Bool := (clsIn K C).any fun cdt => onlyVE cdt.mro
section
variable {prog : Program} {w : World} {A : Around} {K : Frag} {C x : Addr} {s : Shared} {R : Result → Shared → Prop}
variable {E : Value → Shared → Prop} {vs : Array Value} {sl : Array (Option Value)} {nm : Str} {v : Value}
end
end PySem.W

namespace PySem.W
open PySem PySem.Spec PySem.Calls PyProof.Rows Builtin Builtin.ObjectAttr Builtin.Getset_descriptor
section
variable {prog : Program} {w : World} {A : Around} {K : Frag} {C x : Addr} {s : Shared} {E : Value → Shared → Prop} {ox : Obj} {od : Option Obj} {nm : Str} {v : Value} {Q : Value → Shared → Prop} {expr : Bool}
end
end PySem.W

namespace L2
open PySem PyProof.Rows PySem.Spec PySem.Calls
/-! ### refusals: made and not raised; caught; their dicts -/
def XO (e C : Addr) (d : Option Addr) : HO := .ext fun h => ∃ t0, h.get? e = some ⟨.ref C, d, .fields #[.ref t0, .none, .none, .none, .bool false, .none], #[]⟩
def XC (e C : Addr) (d : Option Addr) : HO := .ext fun h => ∃ vs sl, h.get? e = some ⟨.ref C, d, .fields vs, sl⟩
def XD (a : Addr) (fs : List (Str × V)) : HO := .ext fun h => fs.length ≤ 1000 ∧ ∃ mA, h.Ns1 a mA ∧ (∀ f, RelO (fs.lookup f) (mA f)) ∧ PySem.Within mA (fs.map (·.1))
def IsX (H : Hp) (e C : Addr) (d : Option Addr) : Prop := H e = some (XO e C d) ∨ H e = some (XC e C d)
section
variable {P : Program} {w : World} {H : Hp} {h : Heap} {e C a : Addr} {d : Option Addr} {fs : List (Str × V)}
end
/-- what a class of refusals must have -/
structure ClsX (K : PySem.W.Frag) (C : Addr) : Prop where
  hd : PySem.W.hasDictIn K C = true
  po : PySem.W.excOver K C = true
  sa : PySem.W.findIn K (.ref C) "__setattr__" = some (some (.builtin "object.__setattr__"))
  ga : PySem.W.findIn K (.ref C) "__getattribute__" = some (some (.builtin "BaseException.__getattribute__"))
  gn : PySem.W.findIn K (.ref C) "__getattr__" = some none
section
variable {X : Cx} {pins : List (Addr × Obj)} {σ : St} {H : Hp} {s : Shared} {a C dx : Addr} {d : Option Addr} {fs : List (Str × V)} {f : Str} {v y : V} {u : Value} {A : Around} {E : Value → Shared → Prop}
end
end L2

namespace PySem.W
open PySem PySem.Spec PySem.Calls PyProof.Rows Builtin Builtin.ObjectAttr Builtin.Getset_descriptor
section
variable {prog : Program} {w : World} {A : Around} {K : Frag} {C x t0 : Addr} {s : Shared} {E : Value → Shared → Prop} {od : Option Addr} {Q : Value → Shared → Prop}
end
end PySem.W

namespace PySem.W
open PySem PySem.Spec PySem.Calls PyProof.Rows Builtin Builtin.ObjectAttr Builtin.Getset_descriptor
section
variable {prog : Program} {w : World} {A : Around} {K : Frag} {C x : Addr} {s : Shared} {E : Value → Shared → Prop} {ox : Obj} {od : Obj}
structure ClsAt (K : Frag) (C : Addr) : Prop where
  hd : hasDictIn K C = true
  po : excOver K C = true
  ga : findIn K (.ref C) "__getattribute__" = some (some (.builtin "BaseException.__getattribute__"))
  gn : findIn K (.ref C) "__getattr__" = some none
  ca : findIn K (.ref C) "__class__" = some (some (.builtin "object.__class__"))
  cn : specialIn K (.builtin "object.__class__") "__get__" = some (some (.builtin "getset_descriptor.__get__"))
  ct : takesIn K (.builtin "object.__class__") = some true
end
end PySem.W

namespace L2
open PySem PyProof.Rows PySem.Spec PySem.Calls
theorem ClsX.at {K : PySem.W.Frag} {C : Addr} (c : ClsX K C) (ca : PySem.W.findIn K (.ref C) "__class__" = some (some (.builtin "object.__class__")))
    (cn : PySem.W.specialIn K (.builtin "object.__class__") "__get__" = some (some (.builtin "getset_descriptor.__get__"))) (ct : PySem.W.takesIn K (.builtin "object.__class__") = some true) : PySem.W.ClsAt K C :=
  ⟨c.hd, c.po, c.ga, c.gn, ca, cn, ct⟩
/-- what a class of refusals must have to be made -/
structure MkX (K : PySem.W.Frag) (C f : Addr) : Prop where
  makes : PySem.W.excMk K C = true
  init : PySem.W.findIn K (.ref C) "__init__" = some (some (.ref f))
  fn : PySem.W.isFn K (.ref f) = true
  kp : PySem.W.keepIn K (.ref C) = true
def tMakeX (C : Addr) (sp : Sp) (E : XK) (t : TA) : TE := fun σ H Q => t σ H fun vs H1 => ∀ x, H1 x = none → sp (.ref x :: vs) (upd H1 x (XO x C none)) (fun v H2 => v = .non ∧ Q (.ref x) H2) E
section
variable {X : Cx} {CX : CXT} {k : Nat} {f C : Addr} {fd : FuncData} {ps : List Str} {sp : Sp} {E : XK} {x m : Str} {p pos apos : Pos} {e o : Expr} {es : List Expr} {ta : TE} {t : TA}
/-- Base.__init__(self, ..), Base an own class of refusals without an __init__ of its own -/
structure InX (K : PySem.W.Frag) (B : Addr) : Prop where
  sp : PySem.W.specialIn K (.ref B) "__getattribute__" = some (some (.builtin "type.__getattribute__"))
  rd : PySem.W.readsIn K B (.type "type") = true
  fc : PySem.W.findCls K (.ref B) (.type "type") "__init__" = some (.val (.builtin "ValueError.__init__"))
def tInX (K : PySem.W.Frag) (t : TA) : TE := fun σ H Q => t σ H fun vs H1 => ∃ a C d xs, vs = .ref a :: xs ∧ xs.length ≤ 1000 ∧ H1 a = some (XO a C d) ∧ PySem.W.excMk K C = true ∧ Q .non H1
end
end L2

namespace L2
open PySem PyProof.Rows PySem.Spec PySem.Calls
/-! ### a refusal with its values, whatever the addresses -/
def XF (H : Hp) (e C : Addr) (fs : List (Str × V)) : Prop := ∃ dx, H e = some (XO e C (some dx)) ∧ H dx = some (XD dx fs) ∧ dx ≠ e
theorem XF.keep {H H' : Hp} {e C : Addr} {fs : List (Str × V)} (x : XF H e C fs) (k : Same H H') : XF H' e C fs := let ⟨d, a, b, c⟩ := x; ⟨d, k _ _ a, k _ _ b, c⟩
theorem XF.upd {H : Hp} {e C p : Addr} {fs : List (Str × V)} {o : HO} (x : XF H e C fs) (k : ∀ φ, H p ≠ some (.ext φ)) : XF (L2.upd H p o) e C fs := by
  obtain ⟨d, a, b, c⟩ := x
  have h1 : e ≠ p := fun z => k _ (by rw [← z]; exact a)
  have h2 : d ≠ p := fun z => k _ (by rw [← z]; exact b)
  exact ⟨d, by rw [upd_ne h1]; exact a, by rw [upd_ne h2]; exact b, c⟩
def sFldX (K : PySem.W.Frag) (ta tv : TE) (f : Str) : TS := fun D σ H => tv σ H fun y H1 => ta σ H1 fun x H2 =>
  (∃ a C, x = .ref a ∧ H2 a = some (XO a C none) ∧ ClsX K C ∧ NoAttr K C f ∧ ∀ dx, H2 dx = none → dx ≠ a → D.nx σ (upd (upd H2 dx (XD dx [(f, y)])) a (XO a C (some dx)))) ∨
  (∃ a C dx fs, x = .ref a ∧ IsX H2 a C (some dx) ∧ H2 dx = some (XD dx fs) ∧ dx ≠ a ∧ ClsX K C ∧ NoAttr K C f ∧ fs.length < 1000 ∧ D.nx σ (upd H2 dx (XD dx (putF f y fs))))
def tFldX (K : PySem.W.Frag) (ta : TE) (f : Str) : TE := fun σ H Q => ta σ H fun x H1 => ∃ a C fs v, x = .ref a ∧ XF H1 a C fs ∧ ClsX K C ∧ NoAttr K C f ∧ fs.lookup f = some v ∧ Q v H1
/-- isinstance(e, C) of a refusal -/
structure ClsI (K : PySem.W.Frag) (C : Addr) : Prop where
  c : ClsX K C
  ca : PySem.W.findIn K (.ref C) "__class__" = some (some (.builtin "object.__class__"))
  cn : PySem.W.specialIn K (.builtin "object.__class__") "__get__" = some (some (.builtin "getset_descriptor.__get__"))
  ct : PySem.W.takesIn K (.builtin "object.__class__") = some true
def clV : V → Value
  | .ref a => .ref a
  | .ty n => .type n
  | _ => .none
def rIsX (K : PySem.W.Frag) : List V → Hp → VK → Prop := fun xs H Q => ∃ a C fs c b, xs = [.ref a, c] ∧ XF H a C fs ∧ ClsI K C ∧ (∀ u, RelV c u → u = clV c) ∧ PySem.W.kitOne K (.ref C) (clV c) = some b ∧ Q (.bl b) H
/-- d.update(e), two dicts of ints and texts -/
def rUpd : V → List V → Hp → VK → Prop := fun x vs H Q => ∃ d e kvs more, x = .ref d ∧ vs = [.ref e] ∧ H d = some (.dK kvs) ∧ H e = some (.dK more) ∧ d ≠ e ∧ kvs.length + more.length ≤ 1000 ∧ Q .non (upd H d (.dK (mergeK kvs more)))
section
variable {X : Cx} {o e value : Expr} {f : Str} {pos pos' tpos : Pos} {ta tv : TE}
end
end L2

namespace L2
open PySem PyProof.Rows PySem.Spec PySem.Calls
/-! ### equality of lists and tuples within each other, where they are equal -/
def Deq (K : PySem.W.Frag) (H : Hp) : Nat → V → V → Prop
  | 0, x, y => x = y ∧ flatV x = true
  | n + 1, x, y => (x = y ∧ flatV x = true) ∨ ∃ a b xs ys, x = .ref a ∧ y = .ref b ∧ ((SqL K H a xs ∧ SqL K H b ys) ∨ (SqT K H a xs ∧ SqT K H b ys)) ∧ xs.length = ys.length ∧ ∀ j, j < xs.length → Deq K H n (xs.getD j .non) (ys.getD j .non)
theorem deq_eqAt {X : Cx} {pins : List (Addr × Obj)} {σ : St} {H : Hp} {s : Shared} (I : Inv X pins σ H s) : ∀ (n : Nat) (A : Around) (x y : V) (u v : Value), A.units + n < cLine → Deq X.K H n x y → RelV x u → RelV y v → SeqAt.EqAt A s u v true
  | 0, A, x, y, u, v, _, ⟨e, f⟩, rx, ry => by
    subst e
    have := eqAt_V (A := A) (s := s) rx ry f f
    rwa [eqV_refl f] at this
  | n + 1, A, x, y, u, v, hu, h, rx, ry => by
    rcases h with ⟨e, f⟩ | ⟨a, b, xs, ys, rfl, rfl, hs, hl, he⟩
    · subst e
      have := eqAt_V (A := A) (s := s) rx ry f f
      rwa [eqV_refl f] at this
    · cases rx
      cases ry
      by_cases hab : a = b
      · subst hab; exact SeqAt.EqAt.same _
      have hu1 : A.in1.units + n < cLine := by
        have : A.in1.units = A.units + 1 := by first | rfl | exact Around.units_in1 A
        omega
      refine SeqAt.EqAt.of_refs hab ?_
      rcases hs with ⟨h1, h2⟩ | ⟨h1, h2⟩
      · obtain ⟨its, r1, l1, _⟩ := I.list h1
        obtain ⟨jts, r2, l2, _⟩ := I.list h2
        have e1 := r1.length
        have e2 := r2.length
        have := SeqAt.RcAt.lists (A := A) (e := fun _ => true) l1.isList l2.isList (by simp; omega) (by omega) (fun j q1 q2 => deq_eqAt I n A.in1 _ _ _ _ hu1 (he j (by simp at q1; omega)) (vals_at r1 j q1) (vals_at r2 j q2))
        rwa [show (List.range its.toArray.size).all (fun _ => true) = true from List.all_eq_true.mpr fun _ _ => rfl] at this
      · obtain ⟨its, r1, l1, _⟩ := I.tuple h1
        obtain ⟨jts, r2, l2, _⟩ := I.tuple h2
        have e1 := r1.length
        have e2 := r2.length
        have := SeqAt.RcAt.tuples (A := A) (e := fun _ => true) l1 l2 (by omega) (fun j q1 q2 => deq_eqAt I n A.in1 _ _ _ _ hu1 (he j (by simp at q1; omega)) (vals_at r1 j q1) (vals_at r2 j q2))
        rw [show (List.range (min its.toArray.size jts.toArray.size)).all (fun _ => true) = true from List.all_eq_true.mpr fun _ _ => rfl, Bool.true_and, beq_iff_eq.mpr (by simp; omega)] at this
        exact this
def rEqD (K : PySem.W.Frag) (n : Nat) : R2 := fun x y H Q => ∃ a b xs ys, x = .ref a ∧ y = .ref b ∧ SqL K H a xs ∧ SqL K H b ys ∧ xs.length = ys.length ∧ (∀ j, j < xs.length → Deq K H n (xs.getD j .non) (ys.getD j .non)) ∧ Q (.bl true) H
/-! ### a class of refusals, all in one -/
structure MkXD (P : Program) (w : World) (K : PySem.W.Frag) (mg : Str → Option Value) (base : Heap) (k : Nat) (x : Str) (C : Addr) (ps : List Str) (sp : Sp) : Prop where
  ex : ∃ f fd, MkX K C f ∧ FnOk P w K mg base CX0 k f fd ps sp ∧ Binds K fd ps [] ∧ mg x = some (.ref C)
  few : ps.length ≤ 1000
/-- what is seen of a class of refusals -/
def xcls (K : PySem.W.Frag) (C : Addr) (fs : List Str) : Bool :=
  PySem.W.hasDictIn K C && PySem.W.excOver K C && PySem.W.findIn K (.ref C) "__setattr__" == some (some (.builtin "object.__setattr__")) && PySem.W.findIn K (.ref C) "__getattribute__" == some (some (.builtin "BaseException.__getattribute__")) &&
  PySem.W.findIn K (.ref C) "__getattr__" == some none && PySem.W.findIn K (.ref C) "__class__" == some (some (.builtin "object.__class__")) && fs.all fun f => PySem.W.findIn K (.ref C) f == some none
structure XCl (K : PySem.W.Frag) (C : Addr) (fs : List Str) : Prop where
  i : ClsI K C
  n : ∀ f ∈ fs, NoAttr K C f
  m : PySem.W.excMk K C = true
theorem XCl.of {K : PySem.W.Frag} {C : Addr} {fs : List Str} (h : xcls K C fs = true) (m : PySem.W.excMk K C = true) (cn : PySem.W.specialIn K (.builtin "object.__class__") "__get__" = some (some (.builtin "getset_descriptor.__get__"))) (ct : PySem.W.takesIn K (.builtin "object.__class__") = some true) : XCl K C fs := by
  unfold xcls at h
  simp only [Bool.and_eq_true, beq_iff_eq, List.all_eq_true] at h
  obtain ⟨⟨⟨⟨⟨⟨h1, h2⟩, h3⟩, h4⟩, h5⟩, h6⟩, h7⟩ := h
  exact ⟨⟨⟨h1, h2, h3, h4, h5⟩, h6, cn, ct⟩, fun f hf => h7 f hf, m⟩
end L2

namespace L2
open PySem PyProof.Rows PySem.Spec PySem.Calls
/-- which class is under which, of a list of classes of refusals and what they are all under -/
def kitTab (K : PySem.W.Frag) (cs : List Addr) (b : Addr) : Bool :=
  (List.range cs.length).all fun i => PySem.W.kitOne K (.ref (cs.getD i 0)) (.ref b) == some true && PySem.W.kitOne K (.ref (cs.getD i 0)) (.type "ValueError") == some true && (List.range cs.length).all fun j => PySem.W.kitOne K (.ref (cs.getD i 0)) (.ref (cs.getD j 0)) == some (i == j)
theorem valV_at {kvs : List (Key × V)} {ks : List Key} {j : Nat} {k : Key} {v : V} (e : kvs.map (·.1) = ks) (n : ks.Nodup) (h : kvs[j]? = some (k, v)) : valV kvs k = some v := by
  subst e
  unfold valV
  induction kvs generalizing j with
  | nil => cases h
  | cons p r ih =>
    rw [List.map_cons, List.nodup_cons] at n
    cases j with
    | zero =>
      cases Option.some.inj h
      rw [List.find?_cons_of_pos (by simp)]
      rfl
    | succ j =>
      have h' : r[j]? = some (k, v) := h
      have ne : p.1 ≠ k := fun z => n.1 (List.mem_map.mpr ⟨(k, v), List.mem_of_getElem? h', z.symm⟩)
      rw [List.find?_cons_of_neg (by simpa using ne)]
      exact ih h' n.2
theorem DGet.look {H : Hp} {a : Addr} {kvs : List (Key × V)} {ks : List Key} {j : Nat} {k : Key} {v : V} (eH : H a = some (.dK kvs)) (e : kvs.map (·.1) = ks) (n : ks.Nodup) (h : kvs[j]? = some (k, v)) : DGet H a (kV k) (some v) := by
  rw [← valV_at e n h]
  exact DGet.k eH
/-! ### a text's own copy, of texts, lists of these, a pair of a text and such a list, a list of one such pair -/
def spC (m : Nat) : Sp := fun vs H Q _ =>
  (1 ≤ m ∧ ∃ z : Str, vs = [.str z] ∧ Q (.str z) H) ∨
  (2 ≤ m ∧ ∃ (a : Addr) (zs : List Str), vs = [.ref a] ∧ H a = some (.lst (zs.map V.str)) ∧ zs.length ≤ 100 ∧ ∀ p H', Same H H' → H p = none → H' p = some (.lst (zs.map V.str)) → Q (.ref p) H') ∨
  (3 ≤ m ∧ ∃ (a l : Addr) (z : Str) (zs : List Str), vs = [.ref a] ∧ H a = some (.tup [.str z, .ref l]) ∧ H l = some (.lst (zs.map V.str)) ∧ zs.length ≤ 100 ∧
    ∀ p q H', Same H H' → H p = none → H q = none → H' p = some (.tup [.str z, .ref q]) → H' q = some (.lst (zs.map V.str)) → Q (.ref p) H') ∨
  (4 ≤ m ∧ ∃ (a b l : Addr) (z : Str) (zs : List Str), vs = [.ref a] ∧ H a = some (.lst [.ref b]) ∧ H b = some (.tup [.str z, .ref l]) ∧ H l = some (.lst (zs.map V.str)) ∧ zs.length ≤ 100 ∧
    ∀ r p q H', Same H H' → H r = none → H' r = some (.lst [.ref p]) → H' p = some (.tup [.str z, .ref q]) → H' q = some (.lst (zs.map V.str)) → Q (.ref r) H')
theorem Fun.never {P : Program} {w : World} {K : PySem.W.Frag} {mg : Str → Option Value} {base : Heap} {x qual : Str} {st : Stmt} {f : Addr} {fd : FuncData} (_F : Fun K x qual st f fd) : FnOk P w K mg base CX0 0 f fd ["value"] (spC 0) := by
  have no : ∀ vs H Q E, spC 0 vs H Q E → False := fun vs H Q E h => by
    rcases h with h | h | h | h <;> exact absurd h.1 (by decide)
  exact ⟨fun vs H Q E q => (no _ _ _ _ q).elim, fun A outer s H args us vs Q E _ _ _ _ hs => (no _ _ _ _ hs).elim⟩
end L2

namespace PySem.W
open PySem
/-! ### an exception passes a frame: what stays -/
structure Noted (e : Addr) (cl : Value) (d : Option Addr) (fr : List Addr) (off : Addr → Prop) (h h' : Heap) : Prop where
  exc : ∃ vs sl T oT ts, h'.get? e = some ⟨cl, d, .fields vs, sl⟩ ∧ vs[1]? = some (.ref T) ∧ T ≠ e ∧ h.objs.size ≤ T ∧ h'.get? T = some oT ∧ oT.data = .fields ts ∧ ts[3]? = some .none
  keep : ∀ b o, b ≠ e → ¬ off b → b ∉ fr → h.get? b = some o → h'.get? b = some o
  slot : ∀ b o, b ≠ e → ¬ off b → h.get? b = some o → ∃ sl, h'.get? b = some { o with slots := sl }
abbrev tbObj (ws : Array Value) : Obj := { cls := .type "traceback", dict := none, data := .fields ws }
section
variable {M : Model} {E : Value → Shared → Prop} {A : Around} {s : Shared}
/-- the record of the way so far -/
def HeadAt (h : Heap) (e T : Addr) : Prop := T ≠ e ∧ ∃ oT ts, h.get? T = some oT ∧ oT.data = .fields ts ∧ ts[3]? = some .none
end
end PySem.W

namespace L2
open PySem PyProof.Rows PySem.Spec PySem.Calls
/-! ### refusals that pass: how one lies behind a call -/
def TrX (n : Nat) (H : Hp) (ea : Addr) (h : Heap) : Prop := ∃ cl d vs sl T, h.get? ea = some ⟨cl, d, .fields vs, sl⟩ ∧ vs[1]? = some (.ref T) ∧ PySem.W.HeadAt h ea T ∧ n ≤ T ∧ H T = none
def CXe (P : Program) (w : World) : CXT := fun outer H s E e s' => ∃ ea C d H', e = .ref ea ∧ s'.os = s.os ∧ AllBare s'.gens ∧ Un (frs outer) [] H H' s.heap s'.heap ∧ HOk P w H' s'.heap ∧ H' ea = some (XC ea C d) ∧
  TrX s.heap.objs.size H' ea s'.heap ∧ E (.ref C) (some ea) H'
/-- .. in a body -/
def TrI (X : Cx) (pins : List (Addr × Obj)) (H : Hp) (ea : Addr) (h : Heap) : Prop := ∃ cl d vs sl T, h.get? ea = some ⟨cl, d, .fields vs, sl⟩ ∧ vs[1]? = some (.ref T) ∧ PySem.W.HeadAt h ea T ∧ X.s₀.heap.objs.size ≤ T ∧ H T = none ∧
  T ≠ X.env.locals ∧ (∀ x c, X.env.cells.lookup x = some c → c ≠ T) ∧ ∀ p ∈ X.pn ++ pins, p.1 ≠ T
/-- the frame of a def runs on top -/
structure Top (X : Cx) : Prop where
  ex : X.ex = []
  stk : X.stack = X.env :: X.outer
  fr : X.env.frame = some X.env.locals
def PassesS (X : Cx) (G : St → XK) : Prop := ∀ (pins : List (Addr × Obj)) (σ : St) (H : Hp) (s : Shared) (e : Value) (s' : Shared), Inv X pins σ H s → CXe X.prog X.w X.stack H s (G σ) e s' → X.xe e s'
def RaisesS (X : Cx) (G : St → XK) : Prop := ∀ (pins : List (Addr × Obj)) (σ : St) (H : Hp) (s : Shared) (ea C : Addr) (d : Option Addr), Inv X pins σ H s → H ea = some (XO ea C d) → G σ (.ref C) (some ea) (upd H ea (XC ea C d)) → X.xe (.ref ea) s
abbrev G0 : St → XK := fun _ _ _ _ => False
section
variable {X : Cx} {pins : List (Addr × Obj)} {σ : St} {H H' : Hp} {s s' : Shared} {ea C : Addr} {d : Option Addr} {h' : Heap}
theorem TrI.tr (t : TrI X pins H ea h') : TrX X.s₀.heap.objs.size H ea h' := let ⟨cl, d, vs, sl, T, a, b, c, e, f, _⟩ := t; ⟨cl, d, vs, sl, T, a, b, c, e, f⟩
end
/-! ### a def that lets refusals pass -/
section
variable {P : Program} {w : World} {K : PySem.W.Frag} {mg : Str → Option Value} {base : Heap} {N ps : List Str} {qual x : Str} {scope : Scope} {f : Addr} {cd : Value} {A : Around} {outer : List Env} {s : Shared} {H : Hp} {E : XK} {k : Nat}
abbrev cxE (P : Program) (w : World) (K : PySem.W.Frag) (mg : Str → Option Value) (base : Heap) (N : List Str) (qual : Str) (scope : Scope) (f : Addr) (cd : Value) (A : Around) (outer : List Env) (s : Shared) (H : Hp) (E : XK) : Cx :=
  cxOf (CXe P w) P w K mg base N qual scope f cd A outer s H E
theorem FnOk.lift {CX : CXT} {fd : FuncData} {sp : Sp} (F : FnOk P w K mg base CX0 k f fd ps sp) : FnOk P w K mg base CX k f fd ps sp :=
  ⟨F.len, fun A outer s H args us vs Q E hr e0 hb r h => codeAny_mono (F.run A outer s H args us vs Q E hr e0 hb r h) fun r s' q => match r, q with
    | .ok (.ret _), q => q
    | .ok .next, q => q
    | .ok .brk, q => q
    | .ok .cont, q => q
    | .error _, q => False.elim q⟩
structure DfE (P : Program) (w : World) (K : PySem.W.Frag) (mg : Str → Option Value) (base : Heap) (k : Nat) (x : Str) (ps : List Str) (sp : Sp) : Prop where
  ex : ∃ f fd, FnOk P w K mg base (CXe P w) k f fd ps sp ∧ Binds K fd ps [] ∧ PySem.W.keepIn K (.ref f) = true ∧ mg x = some (.ref f)
structure MtE (P : Program) (w : World) (K : PySem.W.Frag) (mg : Str → Option Value) (base : Heap) (k : Nat) (m : Str) (C : Addr) (ps : List Str) (sp : Sp) : Prop where
  ex : ∃ f fd, Meth K C m f ∧ FnOk P w K mg base (CXe P w) k f fd ps sp ∧ Binds K fd ps []
theorem MtD.e {m : Str} {C : Addr} {sp : Sp} (D : MtD P w K mg base k m C ps sp) : MtE P w K mg base k m C ps sp := let ⟨f, fd, a, b, c⟩ := D.ex; ⟨f, fd, a, b.lift, c⟩
theorem Dfn.e {sp : Sp} (D : Dfn P w K mg base k x ps sp) : DfE P w K mg base k x ps sp := let ⟨f, fd, a, b, c⟩ := D.ex; ⟨f, fd, a.lift, b, c⟩
end
/-! ### calls -/
def tCallE (sp : Sp) (G : St → XK) (t : TA) : TE := fun σ H Q => t σ H fun vs H1 => sp vs H1 Q (G σ)
/-- o.m(..), whatever own class o is of: the method is told by the reading -/
def tMethE (P : Program) (w : World) (K : PySem.W.Frag) (mg : Str → Option Value) (base : Heap) (k : Nat) (m : Str) (G : St → XK) (ta : TE) (t : TA) : TE := fun σ H Q => ta σ H fun x H1 => ∃ a C dx fs ps sp, x = .ref a ∧ H1 a = some (.ins C dx fs) ∧ fs.lookup m = none ∧ Cls K C ∧ MtE P w K mg base k m C ps sp ∧
  t σ H1 fun vs H2 => sp (x :: vs) H2 Q (G σ)
section
variable {X : Cx} {k : Nat} {ps : List Str} {sp : Sp} {G : St → XK} {x m : Str} {p pos apos : Pos} {e o : Expr} {es : List Expr} {ta : TE} {t : TA}
end
end L2

namespace PySem.W
open PySem PyProof.Rows PySem.Spec PySem.Calls
/-! ### raising and catching own refusals -/
def mroHas (K : Frag) (C : Addr) (c : Value) : Bool := match K.lookup C with
  | some ⟨_, _, .cls cd, _⟩ => cd.mro.contains c
  | _ => false
section
variable {M : Model} {A : Around} {E : Value → Shared → Prop} {env : Env} {K : Frag}
end
end PySem.W
namespace L2
open PySem PyProof.Rows PySem.Spec PySem.Calls
def tRaise (K : PySem.W.Frag) (G : St → XK) (te : TE) : TS := fun _ σ H => te σ H fun v H1 => ∃ ea C d, v = .ref ea ∧ H1 ea = some (XO ea C d) ∧ PySem.W.excMk K C = true ∧ G σ (.ref C) (some ea) (upd H1 ea (XC ea C d))
abbrev Cx.caught (X : Cx) (ea : Addr) : Cx := { X with A := X.A.mark (some (.ref ea)), calm := false, xe := fun _ _ => False }
abbrev Cx.inTry (X : Cx) (ps : List (Addr × Obj)) (xe : Value → Shared → Prop) : Cx := { X with pn := X.pn ++ ps, xe := xe }
section
variable {X : Cx} {pins : List (Addr × Obj)} {σ : St} {H : Hp} {s : Shared} {ea : Addr}
theorem Cx.Ok.caught (ok : X.Ok) : (X.caught ea).Ok :=
  ⟨ok.mod, ok.kind, ok.glob, ok.blt, ok.above, ok.inj, ok.has, ok.cab, (fun z => nomatch z), ok.frames, ok.stk, ok.exf, ok.bs, ok.bsz, ok.noex, ok.exfs, ok.funs, ok.frf⟩
theorem Inv.caught (I : Inv X pins σ H s) : Inv (X.caught ea) pins σ H s := ⟨I.ok.caught, I.os, I.bare, I.base, I.loc, I.cell, I.free, I.freeC, I.pin, I.hok, I.len⟩
theorem Cx.Ok.inTry {ps : List (Addr × Obj)} {xe : Value → Shared → Prop} (ok : X.Ok) : (X.inTry ps xe).Ok :=
  ⟨ok.mod, ok.kind, ok.glob, ok.blt, ok.above, ok.inj, ok.has, ok.cab, ok.hd, ok.frames, ok.stk, ok.exf, ok.bs, ok.bsz, ok.noex, ok.exfs, ok.funs, ok.frf⟩
theorem Inv.inTry {xe : Value → Shared → Prop} (I : Inv X pins σ H s) : Inv (X.inTry pins xe) [] σ H s := ⟨I.ok.inTry, I.os, I.bare, I.base, I.loc, I.cell, I.free, I.freeC, fun p hp => I.pin p (by rw [← List.append_nil (X.pn ++ pins)]; exact hp), I.hok, I.len⟩
end
/-! ### handlers -/
abbrev TH := Ends → St → Hp → Addr → Addr → Prop
def PH (X : Cx) (hs : List ExceptHandler) (t : TH) : Prop := ∀ (pins : List (Addr × Obj)) (s : Shared) (σ : St) (H : Hp) (D : Ends) (ea C : Addr) (d : Option Addr), Inv X pins σ H s → H ea = some (XC ea C d) → TrI X pins H ea s.heap → t D σ H C ea →
  wpAny (model X.prog X.w) X.A (handleBy (.ref ea) X.env hs) (SP X pins D) X.xe s
def tNoH : TH := fun _ _ _ _ _ => False
def Ends.less (D : Ends) (i : Nat) : Ends := { nx := fun σ H => D.nx (σ.set i none) H, rt := D.rt, bk := fun σ H => D.bk (σ.set i none) H, ct := fun σ H => D.ct (σ.set i none) H }
def tAs (K : PySem.W.Frag) (B : Addr) (i : Nat) (ts : TS) (tr : TH) : TH := fun D σ H C ea => PySem.W.excMk K C = true ∧ PySem.W.excMk K B = true ∧ ∃ b, PySem.W.mroHas K C (.ref B) = b ∧ if b = true then ts (D.less i) (σ.set i (some (.ref ea))) H else tr D σ H C ea
def tTry (tb : (St → XK) → TS) (th : TH) : TS := fun D σ H => tb (fun σ' c oa H' => ∃ C ea, c = .ref C ∧ oa = some ea ∧ th D σ' H' C ea) D σ H
section
variable {X : Cx}
end
end L2

namespace L2
open PySem PyProof.Rows PySem.Spec PySem.Calls
/-! ### own classes by isinstance; caught refusals; Base.__init__ of own classes -/
def XG (H : Hp) (e C : Addr) (fs : List (Str × V)) : Prop := ∃ dx, IsX H e C (some dx) ∧ H dx = some (XD dx fs) ∧ dx ≠ e
theorem XF.g {H : Hp} {e C : Addr} {fs : List (Str × V)} (x : XF H e C fs) : XG H e C fs := let ⟨d, a, b, c⟩ := x; ⟨d, .inl a, b, c⟩
theorem XG.keep {H H' : Hp} {e C : Addr} {fs : List (Str × V)} (x : XG H e C fs) (k : Same H H') : XG H' e C fs := by
  obtain ⟨d, a, b, c⟩ := x
  rcases a with a | a
  · exact ⟨d, .inl (k _ _ a), k _ _ b, c⟩
  · exact ⟨d, .inr (k _ _ a), k _ _ b, c⟩
/-- a raised one -/
theorem XF.raised {H : Hp} {e C : Addr} {fs : List (Str × V)} (x : XF H e C fs) : ∃ dx, H e = some (XO e C (some dx)) ∧ XG (L2.upd H e (XC e C (some dx))) e C fs :=
  let ⟨d, a, b, c⟩ := x
  ⟨d, a, d, .inr upd_same, by rw [upd_ne c]; exact b, c⟩
def rIsO (K : PySem.W.Frag) : List V → Hp → VK → Prop := fun xs H Q => ∃ x c t b, xs = [x, c] ∧ TyOf K H x t ∧ (∀ u, RelV c u → u = clV c) ∧ PySem.W.kitOne K t (clV c) = some b ∧ Q (.bl b) H
def rIsG (K : PySem.W.Frag) : List V → Hp → VK → Prop := fun xs H Q => ∃ a C fs c b, xs = [.ref a, c] ∧ XG H a C fs ∧ ClsI K C ∧ (∀ u, RelV c u → u = clV c) ∧ PySem.W.kitOne K (.ref C) (clV c) = some b ∧ Q (.bl b) H
def rIsGT (K : PySem.W.Frag) : List V → Hp → VK → Prop := fun xs H Q => ∃ a C fs tp cs b, xs = [.ref a, .ref tp] ∧ XG H a C fs ∧ ClsI K C ∧ H tp = some (.tup cs) ∧ (∀ c ∈ cs, ∀ u, RelV c u → u = clV c) ∧ PySem.W.kitAny K (.ref C) (cs.map clV) = some b ∧ Q (.bl b) H
def tFldG (K : PySem.W.Frag) (ta : TE) (f : Str) : TE := fun σ H Q => ta σ H fun x H1 => ∃ a C fs v, x = .ref a ∧ XG H1 a C fs ∧ ClsX K C ∧ NoAttr K C f ∧ fs.lookup f = some v ∧ Q v H1
section
variable {X : Cx} {e o : Expr} {es : List Expr} {f x : Str} {p pos apos : Pos} {ta : TE} {t : TA} {k : Nat} {ps : List Str} {sp : Sp}
/-- Base.__init__(self, ..), Base an own class with an __init__ of its own -/
structure InO (K : PySem.W.Frag) (B f : Addr) : Prop where
  sp : PySem.W.specialIn K (.ref B) "__getattribute__" = some (some (.builtin "type.__getattribute__"))
  rd : PySem.W.readsIn K B (.type "type") = true
  fc : PySem.W.findCls K (.ref B) (.type "type") "__init__" = some (.val (.ref f))
structure InD (P : Program) (w : World) (K : PySem.W.Frag) (mg : Str → Option Value) (base : Heap) (k : Nat) (x : Str) (B : Addr) (ps : List Str) (sp : Sp) : Prop where
  ex : ∃ f fd, InO K B f ∧ FnOk P w K mg base CX0 k f fd ps sp ∧ Binds K fd ps [] ∧ PySem.W.keepIn K (.ref f) = true ∧ mg x = some (.ref B)
end
section
variable {P : Program} {w : World} {K : PySem.W.Frag} {mg : Str → Option Value} {base : Heap} {j k : Nat} {x m : Str} {C : Addr} {ps : List Str} {sp : Sp}
theorem MtE.mono (D : MtE P w K mg base j m C ps sp) (h : j ≤ k) : MtE P w K mg base k m C ps sp := let ⟨f, fd, a, b, c⟩ := D.ex; ⟨f, fd, a, b.mono h, c⟩
theorem DfE.mono (D : DfE P w K mg base j x ps sp) (h : j ≤ k) : DfE P w K mg base k x ps sp := let ⟨f, fd, a, b⟩ := D.ex; ⟨f, fd, a.mono h, b⟩
end
end L2
namespace L2
open PySem PyProof.Rows PySem.Spec PySem.Calls
structure OwnTy (K : PySem.W.Frag) (C : Addr) : Prop where
  ha : PySem.W.findIn K (.ref C) "__class__" = some (some (.builtin "object.__class__"))
  hn : PySem.W.specialIn K (.builtin "object.__class__") "__get__" = some (some (.builtin "getset_descriptor.__get__"))
  tk : PySem.W.takesIn K (.builtin "object.__class__") = some true
  hm : PySem.W.mroIn K C (.type "object") = some true
theorem OwnTy.ty {K : PySem.W.Frag} {C a dx : Addr} {H : Hp} {fs : List (Str × V)} (o : OwnTy K C) (cl : Cls K C) (e : H a = some (.ins C dx fs)) : TyOf K H (.ref a) (.ref C) := .ins e cl o.ha o.hn o.tk o.hm
end L2
namespace L2
open PySem PyProof.Rows PySem.Spec PySem.Calls
section
variable {X : Cx} {P : Program} {w : World} {K : PySem.W.Frag} {mg : Str → Option Value} {base : Heap} {G : St → XK} {m : Str} {pos apos : Pos} {e o : Expr} {es : List Expr} {ta : TE} {t : TA}
end
end L2
namespace L2
open PySem PyProof.Rows PySem.Spec PySem.Calls
section
variable {X : Cx} {K : PySem.W.Frag} {e : Expr} {f : Str} {pos : Pos} {ta : TE}
end
end L2

namespace L2
open PySem PySem.Spec PyProof.Rows
/-! ### ranges with a step -/
def Its (lo d : Int) (n : Nat) : It := ⟨fun i _ => i < n, fun i H x H' => H' = H ∧ x = .int (lo + i * d), fun i _ => n ≤ i⟩
section
variable {X : Cx} {tg : Expr}
/-- range(i, j, d), d above 0 -/
def iRng3 (ta : TA) : TI := fun σ H R => ta σ H fun vs H1 => ∃ i j d : Int, vs = [.int i, .int j, .int d] ∧ (-(2 ^ 60) ≤ i ∧ i < 2 ^ 60 ∧ -(2 ^ 60) ≤ j ∧ j < 2 ^ 60 ∧ 0 < d ∧ d < 2 ^ 29) ∧ R (Its i d (if i < j then (j - i - 1) / d + 1 else 0).toNat) H1
end
end L2
namespace L2
open PySem PySem.Spec PyProof.Rows
/-! ### a comprehension whose items are new things -/
def New (H H' : Hp) (G : Hp → Prop) : Prop := ∃ S : Addr → Prop, (∀ b, S b → H b = none ∧ ∃ o, H' b = some o) ∧ ∀ H3, (∀ b, S b → H3 b = H' b) → G H3
end L2
namespace L2
open PySem PySem.Spec PyProof.Rows
/-! ### xs.index(y), of flat things -/
def ofVal : Value → V
  | .bool b => .bl b
  | .int i _ => .int i
  | .str x _ => .str x
  | .bytes b _ => .byt b
  | .float b _ => .flt b
  | .ref a => .ref a
  | .type n => .ty n
  | _ => .non
def rIndex : V → List V → Hp → VK → Prop := fun x vs H Q => ∃ l xs y j, x = .ref l ∧ vs = [y] ∧ H l = some (.lst xs) ∧ xs.all flatV = true ∧ flatV y = true ∧ xs.length ≤ 1000 ∧ j < xs.length ∧ eqV (xs.getD j .non) y = true ∧ (∀ m, m < j → eqV (xs.getD m .non) y = false) ∧ Q (.int (j : Nat)) H
end L2

namespace L2
open PySem PyProof.Rows PySem.Spec PySem.Calls
/-! ### == and != of what is equal all through -/
def rDq (K : PySem.W.Frag) (n : Nat) (b : Bool) : R2 := fun x y H Q => ∃ a c xs ys, x = .ref a ∧ y = .ref c ∧ ((SqL K H a xs ∧ SqL K H c ys) ∨ (SqT K H a xs ∧ SqT K H c ys)) ∧ xs.length = ys.length ∧ (∀ j, j < xs.length → Deq K H n (xs.getD j .non) (ys.getD j .non)) ∧ Q (.bl b) H
theorem in1_units {A : Around} {n : Nat} (h : A.units + (n + 1) < cLine) : A.in1.units + n < cLine := by
  have : A.in1.units = A.units + 1 := by first | rfl | exact Around.units_in1 _
  omega
theorem op_eq_dq {X : Cx} {n : Nat} (hu : X.A.units + (n + 1) < cLine) : OpR X (compareOp .Eq) (rDq X.K n true) := by
  intro pins s σ H x y v u Q I rx ry h
  obtain ⟨a, c, xs, ys, rfl, rfl, hs, hl, he, q⟩ := h
  cases rx
  cases ry
  rcases hs with ⟨h1, h2⟩ | ⟨h1, h2⟩
  · obtain ⟨its, r1, l1, _⟩ := I.list h1
    obtain ⟨jts, r2, l2, _⟩ := I.list h2
    have e1 := r1.length
    have e2 := r2.length
    have := SeqAt.RcAt.lists (A := X.A) (e := fun _ => true) l1.isList l2.isList (by simp; omega) (by omega) (fun j q1 q2 => deq_eqAt I n X.A.in1 _ _ _ _ (in1_units hu) (he j (by simp at q1; omega)) (vals_at r1 j q1) (vals_at r2 j q2))
    rw [show (List.range its.toArray.size).all (fun _ => true) = true from List.all_eq_true.mpr fun _ _ => rfl] at this
    exact this X.prog X.w _ _ ⟨.bl true, H, I, rfl, q⟩
  · obtain ⟨its, r1, l1, _⟩ := I.tuple h1
    obtain ⟨jts, r2, l2, _⟩ := I.tuple h2
    have e1 := r1.length
    have e2 := r2.length
    have := SeqAt.RcAt.tuples (A := X.A) (e := fun _ => true) l1 l2 (by omega) (fun j q1 q2 => deq_eqAt I n X.A.in1 _ _ _ _ (in1_units hu) (he j (by simp at q1; omega)) (vals_at r1 j q1) (vals_at r2 j q2))
    rw [show (List.range (min its.toArray.size jts.toArray.size)).all (fun _ => true) = true from List.all_eq_true.mpr fun _ _ => rfl, Bool.true_and, beq_iff_eq.mpr (by simp; omega)] at this
    exact this X.prog X.w _ _ ⟨.bl true, H, I, rfl, q⟩
theorem op_ne_dq {X : Cx} {n : Nat} (hu : X.A.units + (n + 1) < cLine) : OpR X (compareOp .NotEq) (rDq X.K n false) := by
  intro pins s σ H x y v u Q I rx ry h
  obtain ⟨a, c, xs, ys, rfl, rfl, hs, hl, he, q⟩ := h
  cases rx
  cases ry
  rcases hs with ⟨h1, h2⟩ | ⟨h1, h2⟩
  · obtain ⟨its, r1, l1, _⟩ := I.list h1
    obtain ⟨jts, r2, l2, _⟩ := I.list h2
    have e1 := r1.length
    have e2 := r2.length
    have := SeqAt.RcNeAt.lists (A := X.A) (e := fun _ => true) l1.isList l2.isList (by simp; omega) (by omega) (fun j q1 q2 => deq_eqAt I n X.A.in1 _ _ _ _ (in1_units hu) (he j (by simp at q1; omega)) (vals_at r1 j q1) (vals_at r2 j q2))
    rw [show (List.range its.toArray.size).all (fun _ => true) = true from List.all_eq_true.mpr fun _ _ => rfl] at this
    exact this X.prog X.w _ _ ⟨.bl false, H, I, rfl, q⟩
  · obtain ⟨its, r1, l1, _⟩ := I.tuple h1
    obtain ⟨jts, r2, l2, _⟩ := I.tuple h2
    have e1 := r1.length
    have e2 := r2.length
    have := SeqAt.RcNeAt.tuples (A := X.A) (e := fun _ => true) l1 l2 (by omega) (fun j q1 q2 => deq_eqAt I n X.A.in1 _ _ _ _ (in1_units hu) (he j (by simp at q1; omega)) (vals_at r1 j q1) (vals_at r2 j q2))
    rw [show (List.range (min its.toArray.size jts.toArray.size)).all (fun _ => true) = true from List.all_eq_true.mpr fun _ _ => rfl, Bool.true_and, beq_iff_eq.mpr (by simp; omega)] at this
    exact this X.prog X.w _ _ ⟨.bl false, H, I, rfl, q⟩
end L2
namespace L2
open PySem PyProof.Rows PySem.Spec PySem.Calls
theorem hu_n {A : Around} {k : Nat} (hr : Room k A) (n : Nat) (h : n ≤ 60) : A.units + (n + 1) < cLine := Nat.lt_of_le_of_lt (Nat.add_le_add_left (by omega : n + 1 ≤ 64) _) hr.units
end L2


namespace L2
open PySem PyProof.Rows PySem.Spec PySem.Calls
/-! ### comprehensions over pairs -/
def inSt2 (frees : List (Str × Nat)) (σ : St) (x y : Option V) : St := x :: y :: frees.map fun p => (σ[p.2]?).join
def CompB2 (K : PySem.W.Frag) (J : It) (tc : TT) (te : TE) (σf : Option V → Option V → St) (H1 : Hp) (Q : VK) : Prop := ∀ D, H1 D = none →
  ∃ W : Nat → Nat → List V → Hp → Prop, (∃ m, W 0 m [] (upd H1 D (.lst []))) ∧ ∀ i m ys H2, W i m ys H2 → H2 D = some (.lst ys) ∧
    ((J.stop i H2 ∧ Q (.ref D) H2) ∨ (J.go i H2 ∧ ys.length < sizeLine ∧ ∀ z H3, J.yld i H2 z H3 → ∃ a x x2, z = .ref a ∧ SqT K H3 a [x, x2] ∧ tc (σf (some x) (some x2)) H3 fun b H4 =>
      if b = true then te (σf (some x) (some x2)) H4 fun y H5 => H5 D = some (.lst ys) ∧ ∃ m', m' < m ∧ W (i + 1) m' (ys ++ [y]) (upd H5 D (.lst (ys ++ [y]))) else ∃ m', m' < m ∧ W (i + 1) m' ys H4))
section
variable {X : Cx} {elt iter : Expr} {x x2 : Str} {px px2 tp pos : Pos} {kk : Nat} {ifs : List Expr} {scope : Scope} {frees : List (Str × Nat)} {tc : TT} {te : TE}
structure CompOk2 (X : Cx) (scope : Scope) (x x2 : Str) (frees : List (Str × Nat)) : Prop where
  cell : ∀ y ∈ scope.names, y.2 ≠ .cell
  kind : scope.kind = .function
  own : scope.names.lookup x = some .local
  own2 : scope.names.lookup x2 = some .local
  names : ∀ y ∈ scope.names, y.2 = .local → scope.names.lookup y.1 = some .local
  fr : FreesOk X scope frees
  nd : (x :: x2 :: frees.map (·.1)).Nodup
  cl : ∀ p ∈ scope.names, p.2 = .free → (X.env.cells.lookup p.1).isSome = true
  calm : X.calm = true
/-- [elt for x in iter if ..] -/
def tComp2 (K : PySem.W.Frag) (frees : List (Str × Nat)) (tc : TT) (te : TE) (wi : TI) : TE := fun σ H Q => wi σ H fun J H1 => CompB2 K J tc te (inSt2 frees σ) H1 Q
end
end L2

namespace L2
open PySem PySem.Spec PyProof.Rows
/-! ### list(range(i, j)) -/
def rngV (i : Int) (n : Nat) : List V := (List.range n).map fun k => V.int (i + (k : Nat))
theorem vals_of : ∀ {xs : List V} {us : List Value}, xs.length = us.length → (∀ (k : Nat) x u, xs[k]? = some x → us[k]? = some u → RelV x u) → Vals xs us
  | [], [], _, _ => .nil
  | x :: xs, u :: us, e, h => .cons (h 0 x u rfl rfl) (vals_of (Nat.succ.inj e) fun k y w h1 h2 => h (k + 1) y w h1 h2)
  | [], _ :: _, e, _ => nomatch e
  | _ :: _, [], e, _ => nomatch e
theorem rng_vals {i : Int} : ∀ {n : Nat} {acc : Array Value}, ItemsOf (fun k v => ∃ t, v = .int (i + (k : Nat) * 1) t) acc n → Vals (rngV i n) acc.toList := by
  intro n acc h
  refine vals_of (by unfold rngV; rw [List.length_map, List.length_range, Array.length_toList, h.1]) fun k x u hx hu => ?_
  have hu' : acc[k]? = some u := by simpa using hu
  obtain ⟨t, rfl⟩ := h.2 k u hu'
  unfold rngV at hx
  rw [List.getElem?_map] at hx
  obtain ⟨m, em, rfl⟩ := Option.map_eq_some_iff.mp hx
  have : m = k := by
    obtain ⟨_, e⟩ := List.getElem?_eq_some_iff.mp em
    rw [List.getElem_range] at e
    exact e.symm
  subst this
  exact ⟨t, by rw [Int.mul_one]⟩
section
variable {X : Cx}
def tListRange (ta : TA) : TE := fun σ H Q => ta σ H fun vs H1 => ∃ i j : Int, vs = [.int i, .int j] ∧ (-(2 ^ 62) ≤ i ∧ i < 2 ^ 62 ∧ -(2 ^ 62) ≤ j ∧ j < 2 ^ 62) ∧ (j - i).toNat ≤ sizeLine ∧ (j - i).toNat ≤ 2 ^ 24 ∧ ∀ l, H1 l = none → Q (.ref l) (upd H1 l (.lst (rngV i (j - i).toNat)))
end
end L2
namespace L2
open PySem PySem.Spec PyProof.Rows
def rListOf (K : PySem.W.Frag) : List V → Hp → VK → Prop := fun xs H Q => ∃ p ys, xs = [.ref p] ∧ (SqL K H p ys ∨ SqT K H p ys) ∧ ∀ l, H l = none → Q (.ref l) (upd H l (.lst ys))
end L2

namespace PySem
open Sem (wp)
end PySem

namespace PySem
open Sem (wp)
section
variable {prog : Program} {w : World} {K : Type} [DecidableEq K] {knd : KeyKind prog w K} {A : Around} {R : Result → Shared → Prop}
/-- the pairs, put in one behind another -/
def putAll (ps : List (K × Value)) : List (K × Value) := ps.foldl (fun acc p => stored acc p.1 p.2) []
end
end PySem
namespace L2
open PySem PySem.Spec PyProof.Rows
def rDictPairs (K : PySem.W.Frag) : List V → Hp → VK → Prop := fun xs H Q => ∃ p ts kvs, xs = [.ref p] ∧ H p = some (.lst ts) ∧ ts.length = kvs.length ∧ (∀ (i : Nat) y (q : Key × V), ts[i]? = some y → kvs[i]? = some q → ∃ t, y = .ref t ∧ SqT K H t [kV q.1, q.2]) ∧ (kvs.map (·.1)).Nodup ∧
  ∀ d, H d = none → Q (.ref d) (upd H d (.dK kvs))
def rDictOf : List V → Hp → VK → Prop := fun xs H Q => ∃ a kvs, xs = [.ref a] ∧ Rd H a (.dK kvs) ∧ ∀ d, H d = none → Q (.ref d) (upd H d (.dK kvs))
end L2

namespace L2
open PySem PyProof.Rows PySem.Spec PySem.Calls
/-! ### xs[i] op= v -/
section
variable {X : Cx}
def rGetL : V → V → Hp → VK → Prop := fun o i H Q => ∃ p xs k, o = .ref p ∧ i = .int k ∧ H p = some (.lst xs) ∧ 0 ≤ k ∧ k < ((xs.length : Nat) : Int) ∧ ∀ v, xs[k.toNat]? = some v → Q v H
/-! ### tuples of flat things, as long as each other: == and != -/
def rEqT (K : PySem.W.Frag) (neg : Bool) : R2 := fun x y H Q => ∃ p q xs ys, x = .ref p ∧ y = .ref q ∧ SqT K H p xs ∧ SqT K H q ys ∧ xs.length = ys.length ∧ xs.all flatV = true ∧ ys.all flatV = true ∧ Q (.bl (if neg then !eqVs xs ys else eqVs xs ys)) H
end
end L2

namespace L2
open PySem PySem.Spec PyProof.Rows
/-! ### except X: without a name -/
section
variable {X : Cx}
def tPl (K : PySem.W.Frag) (B : Addr) (ts : TS) (tr : TH) : TH := fun D σ H C ea => PySem.W.excMk K C = true ∧ PySem.W.excMk K B = true ∧ ∃ b, PySem.W.mroHas K C (.ref B) = b ∧ if b = true then ts D σ H else tr D σ H C ea
end
end L2

namespace L2
open PySem PyProof.Rows PySem.Spec PySem.Calls
/-! ### a list or a tuple is no string -/
section
variable {X : Cx}
def rNeS (K : PySem.W.Frag) : R2 := fun x y H Q => (∃ a i xs, x = .ref a ∧ y = .str i ∧ (SqL K H a xs ∨ SqT K H a xs) ∧ Q (.bl true) H) ∨ rNe x y H Q
/-! ### the smaller of a pair -/
end
end L2

namespace L2
open PySem PySem.Spec PyProof.Rows
/-! ### a comprehension with a condition whose items are new things -/
end L2

namespace L2
open PySem PySem.Spec PyProof.Rows
/-! ### list(d): the keys of a dict -/
section
variable {X : Cx}
def rListDict : List V → Hp → VK → Prop := fun xs H Q => ∃ p kvs, xs = [.ref p] ∧ H p = some (.dK kvs) ∧ ∀ l, H l = none → Q (.ref l) (upd H l (.lst (kvs.map fun q => kV q.1)))
end
end L2

namespace L2
open PySem PySem.Spec PyProof.Rows
/-! ### sorted() of texts: a list of them, or the keys of a dict -/
section
variable {X : Cx}
def rSortedL (K : PySem.W.Frag) : List V → Hp → VK → Prop := fun xs H Q => ∃ p ss, xs = [.ref p] ∧ SqL K H p (ss.map V.str) ∧ ss.length < 64 ∧ ∀ l ss', H l = none → List.Perm ss' ss → sortedS ss' = true → Q (.ref l) (upd H l (.lst (ss'.map V.str)))
end
end L2
namespace L2
open PySem PySem.Calls PyProof.Rows PyProof.V PySem.Spec PySem.W
end L2
namespace L2
open PySem PySem.Spec PyProof.Rows
section
variable {X : Cx}
/-- the n times that a list holds a flat thing -/
def rCount : V → List V → Hp → VK → Prop := fun x vs H Q => ∃ l xs y, x = .ref l ∧ vs = [y] ∧ H l = some (.lst xs) ∧ xs.all flatV = true ∧ flatV y = true ∧ Q (.int ((xs.countP fun z => eqV z y : Nat) : Int)) H
/-- sorted() of a dict whose keys are texts -/
def rSortedD : List V → Hp → VK → Prop := fun xs H Q => ∃ p kvs ss, xs = [.ref p] ∧ H p = some (.dK kvs) ∧ kvs.map (fun q => kV q.1) = ss.map V.str ∧ ss.length < 64 ∧ ∀ l ss', H l = none → List.Perm ss' ss → sortedS ss' = true → Q (.ref l) (upd H l (.lst (ss'.map V.str)))
end
end L2
namespace L2
open PySem PySem.Spec PyProof.Rows
section
variable {X : Cx}
/-- z.index(y), where y stands in z -/
def rSIndex : V → List V → Hp → VK → Prop := fun x vs H Q => ∃ z y i rest, x = .str z ∧ vs = [.str y] ∧ Builtin.Str.occurrences z y 0 z.length 1 = i :: rest ∧ Q (.int ((i : Nat) : Int)) H
end
end L2
namespace L2
open PySem PyProof.Rows PySem.Spec PySem.Calls
section
variable {X : Cx}
/-! ### d.setdefault(k, v) -/
def rSetD : V → List V → Hp → VK → Prop := fun x vs H Q => ∃ d kvs k y, x = .ref d ∧ vs = [kV k, y] ∧ H d = some (.dK kvs) ∧ kvs.length < 1000 ∧ (∀ u, valV kvs k = some u → Q u H) ∧ (valV kvs k = none → Q y (upd H d (.dK (kvs ++ [(k, y)]))))
/-! ### dicts of flat values compared -/
def hasD (kb : List (Key × V)) (p : Key × V) : Bool := match valV kb p.1 with
  | some y => eqV p.2 y
  | none => false
def eqD (ka kb : List (Key × V)) : Bool := ka.length == kb.length && ka.all (hasD kb)
def rEqDk (neg : Bool) : R2 := fun x y H Q => ∃ a b ka kb, x = .ref a ∧ y = .ref b ∧ H a = some (.dK ka) ∧ H b = some (.dK kb) ∧ (∀ p ∈ ka, flatV p.2 = true) ∧ (∀ p ∈ kb, flatV p.2 = true) ∧ Q (.bl (if neg then !eqD ka kb else eqD ka kb)) H
/-! ### slices with a step -/
def pickV (xs : List V) (lo hi st : Option Int) : List V := (sliceRange (sliceBounds lo hi st xs.length).1 (sliceBounds lo hi st xs.length).2.1 (sliceBounds lo hi st xs.length).2.2).filterMap (xs[·]?)
def tSl3 (K : PySem.W.Frag) (te : TE) (tl th ts : TO) : TE := fun σ H Q => te σ H fun x H1 => tl σ H1 fun l H2 => th σ H2 fun u H3 => ts σ H3 fun c H4 => ∃ a xs, x = .ref a ∧ SqL K H4 a xs ∧ c ≠ some 0 ∧ ∀ p, H4 p = none → Q (.ref p) (upd H4 p (.lst (pickV xs l u c)))
def thirds (n : Nat) : List Nat := (List.range n).filter fun k => k % 3 == 1
/-! ### a comprehension with a pair as target and a condition -/
/-! ### a comprehension whose items are new things, told by their kinds -/
/-! ### a comprehension of which just some items are known to stand -/
end
end L2

namespace L2
open PySem PyProof.Rows PySem.Spec PySem.Calls
/-! ### d.keys(), d.values() and the lists of them -/
def KW (v d : Addr) : HO := .ext fun h => PySem.W.KdlKeysView h v d
def VW (v d : Addr) : HO := .ext fun h => h.IsValuesView v d
section
variable {X : Cx}
def rKeys : V → List V → Hp → VK → Prop := fun x vs H Q => ∃ d kvs, x = .ref d ∧ vs = [] ∧ H d = some (.dK kvs) ∧ ∀ v, H v = none → Q (.ref v) (upd H v (KW v d))
def rListKeys : List V → Hp → VK → Prop := fun xs H Q => ∃ v d kvs, xs = [.ref v] ∧ H v = some (KW v d) ∧ H d = some (.dK kvs) ∧ ∀ l, H l = none → Q (.ref l) (upd H l (.lst (kvs.map fun q => kV q.1)))
def rValues : V → List V → Hp → VK → Prop := fun x vs H Q => ∃ d kvs, x = .ref d ∧ vs = [] ∧ H d = some (.dK kvs) ∧ ∀ v, H v = none → Q (.ref v) (upd H v (VW v d))
def rListVals : List V → Hp → VK → Prop := fun xs H Q => ∃ v d kvs, xs = [.ref v] ∧ H v = some (VW v d) ∧ H d = some (.dK kvs) ∧ ∀ l, H l = none → Q (.ref l) (upd H l (.lst (kvs.map fun q => q.2)))
end
end L2

namespace L2
open PySem PyProof.Rows PySem.Spec PySem.Calls
/-! ### for k, v in d.items() -/
def IW (v d : Addr) : HO := .ext fun h => h.IsItemsView v d
/-- a dict's pairs, in order -/
def Itm (d : Addr) (o : Obj) (kvs : List (Key × V)) : It :=
  ⟨fun i H => H d = some (.frz o (.dK kvs)) ∧ i < kvs.length, fun i H x H' => ∃ p k v, x = .ref p ∧ H p = none ∧ H' = upd H p (.tup [kV k, v]) ∧ kvs[i]? = some (k, v), fun i H => H d = some (.frz o (.dK kvs)) ∧ kvs.length = i⟩
section
variable {X : Cx} {elts : List Expr} {x1 : Nat} {tpos : Pos}
def rItems : V → List V → Hp → VK → Prop := fun x vs H Q => ∃ d o kvs, x = .ref d ∧ vs = [] ∧ H d = some (.frz o (.dK kvs)) ∧ ∀ v, H v = none → Q (.ref v) (upd H v (IW v d))
def iItems (tl : TE) : TI := fun σ H R => tl σ H fun x H1 => ∃ v d o kvs, x = .ref v ∧ H1 v = some (IW v d) ∧ H1 d = some (.frz o (.dK kvs)) ∧ R (Itm d o kvs) H1
end
end L2

namespace L2
open PySem PyProof.Rows PySem.Spec PySem.Calls
/-! ### == of tuples that hold dicts of flat things: the program and its world are fixed -/
def DeqD (H : Hp) (x y : V) : Prop := (x = y ∧ flatV x = true) ∨ ∃ a b ka kb, x = .ref a ∧ y = .ref b ∧ H a = some (.dK ka) ∧ H b = some (.dK kb) ∧ (∀ p ∈ ka, flatV p.2 = true) ∧ (∀ p ∈ kb, flatV p.2 = true) ∧ eqD ka kb = true
def rTd (K : PySem.W.Frag) : R2 := fun x y H Q => ∃ a c xs ys, x = .ref a ∧ y = .ref c ∧ SqT K H a xs ∧ SqT K H c ys ∧ xs.length = ys.length ∧ (∀ j, j < xs.length → DeqD H (xs.getD j .non) (ys.getD j .non)) ∧ Q (.bl true) H
end L2

namespace L2
open PySem PyProof.Rows PySem.Spec PySem.Calls
/-! ### a comprehension over a range whose items change the world, by an invariant -/
section
variable {X : Cx}
def tItems0 (to : TE) : TE := fun σ H Q => to σ H fun x H1 => rItems x [] H1 Q
end
end L2

namespace L2
open PySem PyProof.Rows PySem.Spec PySem.Calls
/-! ### == and != of lists and tuples of flat things, to any depth, with either answer -/
def DeqB (K : PySem.W.Frag) (H : Hp) : Nat → V → V → Bool → Prop
  | 0, x, y, b => flatV x = true ∧ flatV y = true ∧ b = eqV x y
  | n + 1, x, y, b => (flatV x = true ∧ flatV y = true ∧ b = eqV x y) ∨ ∃ a c xs ys, x = .ref a ∧ y = .ref c ∧ (a = c → b = true) ∧ ((SqL K H a xs ∧ SqL K H c ys) ∨ (SqT K H a xs ∧ SqT K H c ys)) ∧ xs.length = ys.length ∧ ∃ e : Nat → Bool, (∀ j, j < xs.length → DeqB K H n (xs.getD j .non) (ys.getD j .non) (e j)) ∧ b = (List.range xs.length).all e
def rDb (K : PySem.W.Frag) (n : Nat) (neg : Bool) : R2 := fun x y H Q => ∃ a c xs ys, x = .ref a ∧ y = .ref c ∧ ((SqL K H a xs ∧ SqL K H c ys ∧ xs.length ≠ ys.length ∧ Q (.bl neg) H) ∨
  (((SqL K H a xs ∧ SqL K H c ys) ∨ (SqT K H a xs ∧ SqT K H c ys)) ∧ xs.length = ys.length ∧ ∃ e : Nat → Bool, (∀ j, j < xs.length → DeqB K H n (xs.getD j .non) (ys.getD j .non) (e j)) ∧ Q (.bl (if neg then !(List.range xs.length).all e else (List.range xs.length).all e)) H))
/-! ### != of lists that hold dicts of flat things, or lists, all equal: the program and its world are fixed -/
def rNeLd (K : PySem.W.Frag) : R2 := fun x y H Q => ∃ a c xs ys, x = .ref a ∧ y = .ref c ∧ SqL K H a xs ∧ SqL K H c ys ∧ xs.length = ys.length ∧ (∀ j, j < xs.length → Deq K H 2 (xs.getD j .non) (ys.getD j .non) ∨ DeqD H (xs.getD j .non) (ys.getD j .non)) ∧ Q (.bl false) H
/-! ### a comprehension by an invariant -/
end L2

namespace L2
open PySem PyProof.Rows PySem.Spec PySem.Calls
/-! ### a lambda of one name that reads one name of its def -/
def cxLam (P : Program) (w : World) (K : PySem.W.Frag) (mg : Str → Option Value) (base : Heap) (x y : Str) (qual : Str) (scope : Scope) (f : Addr) (cd : Value) (cl : List (Str × Addr)) (A : Around) (outer : List Env) (s : Shared) (H : Hp) : Cx where
  prog := P
  w := w
  K := K
  mg := mg
  base := base
  A := A.deeper (PySem.W.envX qual scope s.heap.objs.size f cd cl)
  N := [x, y]
  s₀ := s
  H₀ := H
  env := PySem.W.envX qual scope s.heap.objs.size f cd cl
  outer := outer
  stack := PySem.W.envX qual scope s.heap.objs.size f cd cl :: outer
  ex := []
  fn := fun z => z == x
  calm := true
  pn := []
  xe := fun _ _ => False
structure LamScope (x y : Str) (scope : Scope) : Prop where
  kind : scope.kind = .function
  co : scope.isCoroutine = false
  gen : scope.isGenerator = false
  lx : scope.names.lookup x = some .local
  ly : scope.names.lookup y = some .free
  nocell : ∀ z ∈ scope.names, z.2 ≠ .cell
  one : ∀ z, scope.names.lookup z = some .free → z = y
  ne : x ≠ y
theorem lam_start {P : Program} {w : World} {K : PySem.W.Frag} {mg : Str → Option Value} {base : Heap} {x y qual : Str} {scope : Scope} {f c : Addr} {cd : Value} {A : Around} {outer : List Env} {s : Shared} {H : Hp} {h₁ : Heap} {tk : Nat} {u uy : Value} {v vy : V}
    (S : LamScope x y scope) (hd : A.handled = none) (e0 : Env0 P w K mg base A outer s H) (ru : RelV v u) (ruy : RelV vy uy) (hc : s.heap.IsCell c (some uy)) (hcH : H c = none)
    (hns : h₁.Ns s.heap.objs.size (fun z => [(x, u)].reverse.lookup z)) (hk : ∀ b o, s.heap.get? b = some o → h₁.get? b = some o) :
    Inv (cxLam P w K mg base x y qual scope f cd [(y, c)] A outer s H) [] [some v, some vy] H { s with heap := h₁, toks := tk } := by
  have noA : ∀ b : Addr, b ∉ (cxLam P w K mg base x y qual scope f cd [(y, c)] A outer s H).ex := fun b z => absurd (show b ∈ ([] : List Addr) from z) (by simp)
  have hcl : ∀ z d, (cxLam P w K mg base x y qual scope f cd [(y, c)] A outer s H).env.cells.lookup z = some d → z = y ∧ d = c := fun z d h => by
    have h' : List.lookup z [(y, c)] = some d := h
    rw [List.lookup_cons] at h'
    by_cases e : z = y
    · rw [beq_iff_eq.mpr e] at h'
      exact ⟨e, (Option.some.inj h').symm⟩
    · rw [beq_eq_false_iff_ne.mpr e] at h'
      cases h'
  have hly : List.lookup y [(y, c)] = some c := by rw [List.lookup_cons, beq_self_eq_true]
  obtain ⟨oc, hoc, hdc⟩ := id hc
  have hc1 : h₁.IsCell c (some uy) := ⟨oc, hk _ _ hoc, hdc⟩
  refine ⟨⟨e0.mod, S.kind, rfl, rfl, Nat.le_refl _, fun a b d h1 h2 => (hcl a d h1).1.trans (hcl b d h2).1.symm, fun z hz => ?_, fun z d hf hz => ?_, fun _ => hd, Around.frames_deeper e0.frames, .inr ⟨rfl, rfl⟩, fun b z => absurd z (noA b), e0.bs, e0.bsz, fun b _ _ => noA b, fun b z => absurd z (noA b), e0.funs, e0.frf⟩,
    rfl, e0.bare, Un.kept hk, ⟨_, hns, fun i z r h1 h2 h3 => ?_⟩, fun z d h => ?_, e0.hok.fresh (Nat.le_refl _), fun z d h => ?_, fun p hp => absurd (show p ∈ ([] : List (Addr × Obj)) from hp) (by simp), e0.hok.kept hk, rfl⟩
  · have hz : scope.names.lookup z = some .cell ∨ scope.names.lookup z = some .free := hz
    rcases hz with hz | hz
    · exact absurd rfl (S.nocell _ (PySem.mem_of_lookup hz))
    · rw [S.one z hz]; exact ⟨c, hly⟩
  · have e := (hcl z d hz).1
    have hf' : (z == x) = true := hf
    exact absurd ((beq_iff_eq.mp hf').symm.trans e) S.ne
  · match i, h1, h2 with
    | 0, h1, h2 =>
      obtain rfl : x = z := Option.some.inj h1
      obtain rfl : v = r := Option.some.inj (Option.some.inj h2)
      exact ⟨u, ru, .inl ⟨S.lx, by show List.lookup x [(x, u)] = some u; rw [List.lookup_cons, beq_self_eq_true]⟩⟩
    | 1, h1, h2 =>
      obtain rfl : y = z := Option.some.inj h1
      obtain rfl : vy = r := Option.some.inj (Option.some.inj h2)
      exact ⟨uy, ruy, .inr ⟨.inr S.ly, c, hly, hc1⟩⟩
  · rw [(hcl z d h).2]; exact ⟨_, hc1⟩
  · rw [(hcl z d h).2]; exact hcH
theorem lam_run {P : Program} {w : World} {K : PySem.W.Frag} {mg : Str → Option Value} {base : Heap} {x y qual : Str} {params : Arguments} {body : Expr} {scope : Scope} {f c c' : Addr} {pm ctv : Value} {A : Around} {outer : List Env} {s : Shared} {H : Hp} {u uy : Value} {v vy : V} {t : TE} {Q : VK}
    (S : LamScope x y scope) (hd : A.handled = none) (hdep : A.depth < recursionLimit) (e0 : Env0 P w K mg base A outer s H) (ru : RelV v u) (ruy : RelV vy uy) (hc : s.heap.IsCell c (some uy)) (hcH : H c = none)
    (hf : s.heap.get? f = some (PySem.W.kla_obj "<lambda>" qual params body scope [(y, c)] pm c' ctv)) (hcd : s.heap.CodeRec (.ref c') qual)
    (hbind : bindArgs (PySem.W.kla_fn "<lambda>" qual params body scope [(y, c)] pm (.ref c') ctv) ⟨[u], []⟩ = pure [(x, u)])
    (hb : PE (cxLam P w K mg base x y qual scope f (.ref c') [(y, c)] A outer s H) body t) (hq : t [some v, some vy] H Q) :
    codeAny (model P w) A (.call (.ref f) ⟨[u], []⟩) (fun r s' => match r with | .ok (.ret z) => CE outer P w H s Q z s' | _ => False) s := by
  have lim : s.heap.NoLimit := e0.mod.nolimit.keeps fun b o e => (e0.bs b o e).1
  refine PySem.W.kla_callFunE hdep hf rfl S.co S.gen rfl hcd ?_
  rw [hbind]
  refine wpAny_pure (wpAny_newFunctionEnv S.nocell (fun z hz => ?_) (fun h₁ hns hsb => ⟨lim.fresh _ hsb, ?_⟩) S.kind)
  · rw [List.mem_singleton.mp hz]; exact S.lx
  show codeAny _ _ (.expr body (PySem.W.envX qual scope s.heap.objs.size f (.ref c') [(y, c)])) _ _
  have hk : ∀ b o, s.heap.get? b = some o → h₁.get? b = some o := fun b o e => hsb.extBut b o (Nat.ne_of_lt (Heap.lt_size e)) (Heap.get?_push_of_some _ e)
  have I := lam_start (qual := qual) (f := f) (cd := .ref c') (tk := s.toks + 1) S hd e0 ru ruy hc hcH hns hk
  refine PySem.W.kla_codeExpr (wpAny_mono (hb [] _ _ H Q I hq) (fun z s' h => ?_) fun e s' h => (show False from h).elim)
  obtain ⟨vv, H', J, rv, q⟩ := h
  exact ⟨vv, H', J.os, J.bare, J.base, J.hok, rv, q⟩
end L2

namespace L2
open PySem PyProof.Rows PySem.Spec PySem.Calls
/-! ### t < u of tuples of flat things -/
def lexB (e lt : Nat → Bool) : List Nat → Bool
  | [] => false
  | j :: r => if e j then lexB e lt r else lt j
theorem tuple_ltIn {P : Program} {w : World} (l b : Addr) (xs ys : Array Value) (n m : Nat) (dd de : Option Addr) (sl sm : Array (Option Value)) (e lt : Nat → Bool) (hs : xs.size = ys.size) :
    MeetsIn P w (Builtin.«tuple.__lt__» ⟨[.ref l, .ref b], []⟩)
      (fun A R s => s.heap.get? l = some { cls := .type "tuple", dict := dd, data := .seq xs n, slots := sl } ∧ s.heap.get? b = some { cls := .type "tuple", dict := de, data := .seq ys m, slots := sm } ∧
        (∀ j (h1 : j < xs.size) (h2 : j < ys.size), SeqAt.EqAt A.in1 s xs[j] ys[j] (e j)) ∧
        (∀ j (h1 : j < xs.size) (h2 : j < ys.size) (E : Value → Shared → Prop) (Q : Value → Shared → Prop), Q (.bool (lt j)) s → wpAny (model P w) A.in1 (richCompare .Lt xs[j] ys[j]) Q E s) ∧
        R (.ok (.ret (.bool (lexB e lt (List.range xs.size))))) s) :=
  .of_wp fun A R s h => by
    obtain ⟨hp, g, d, tk, os⟩ := s; obtain ⟨hl, hb, he, hlt, h⟩ := h
    have f2 := AutoSeq1.sub_tuple_tuple
    have hZ : (xs.toList.zip ys.toList).length = xs.size := by simp [hs]
    wp_walk using wpAny_loadPart' hl, wpAny_loadPart' hb, wpAny_forIn_list _ (fun rest b s' => b.1 = none ∧ s' = ⟨hp, g, d, tk, os⟩ ∧ ∃ i, rest = (xs.toList.zip ys.toList).drop i ∧
      R (.ok (.ret (.bool (lexB e lt ((List.range xs.size).drop i))))) ⟨hp, g, d, tk, os⟩) _
    case turn =>
      rintro ⟨y, x⟩ rest b s' ⟨hb', rfl, i, hz, hR⟩
      have hlti : i < (xs.toList.zip ys.toList).length := by
        rcases Nat.lt_or_ge i (xs.toList.zip ys.toList).length with h' | h'
        · exact h'
        · rw [List.drop_of_length_le h'] at hz; cases hz
      have h1 : i < xs.size := hZ ▸ hlti
      have h2 : i < ys.size := hs ▸ h1
      rw [List.drop_eq_getElem_cons hlti] at hz
      injection hz with hyx hrest
      have hy : y = xs[i] := by have := congrArg Prod.fst hyx; simpa using this
      have hx : x = ys[i] := by have := congrArg Prod.snd hyx; simpa using this
      subst hy hx
      have hd : (List.range xs.size).drop i = i :: (List.range xs.size).drop (i + 1) := by simp [List.drop_eq_getElem_cons, h1]
      rw [hd] at hR
      refine wpAny_bind (he i h1 h2 P w _ _ ?_)
      cases hy : e i with
      | true =>
        have hR' : R (.ok (.ret (.bool (lexB e lt ((List.range xs.size).drop (i + 1)))))) ⟨hp, g, d, tk, os⟩ := by
          unfold lexB at hR
          rw [hy, if_pos rfl] at hR
          exact hR
        wp_walk
        exact ⟨rfl, rfl, i + 1, hrest, hR'⟩
      | false =>
        have hR' : R (.ok (.ret (.bool (lt i)))) ⟨hp, g, d, tk, os⟩ := by
          unfold lexB at hR
          rw [hy, if_neg (by decide)] at hR
          exact hR
        wp_walk using hlt i h1 h2
        exact ⟨_, rfl, hR'⟩
    case fin =>
      rintro ⟨b1, b2⟩ s' ⟨hb', rfl, i, hz, hR⟩
      simp only at hb'
      subst hb'
      have hge : xs.size ≤ i := by
        rcases Nat.lt_or_ge i (xs.toList.zip ys.toList).length with h' | h'
        · rw [List.drop_eq_getElem_cons h'] at hz; cases hz
        · exact hZ ▸ h'
      rw [List.drop_of_length_le (by simpa using hge)] at hR
      wp_walk
      exact ⟨_, rfl, by simpa [Builtin.Tuple.tupleCompareSizes, hs, lexB] using hR⟩
    case h =>
      exact ⟨rfl, rfl, 0, rfl, by simpa using h⟩
def ltV (x y : V) : Bool := match x, y with
  | .int i, .int j => decide (i < j)
  | .str i, .str j => decide (i.cps.toList < j.cps.toList)
  | _, _ => false
def OrdV (x y : V) : Prop := (∃ i j, x = .int i ∧ y = .int j) ∨ ∃ i j, x = .str i ∧ y = .str j
def lexV (xs ys : List V) : Bool := lexB (fun j => eqV (xs.getD j .non) (ys.getD j .non)) (fun j => ltV (xs.getD j .non) (ys.getD j .non)) (List.range xs.length)
theorem lt_flat {P : Program} {w : World} {A : Around} {s : Shared} {x y : V} {u v : Value} (o : OrdV x y) (rx : RelV x u) (ry : RelV y v) {E Q : Value → Shared → Prop} (q : Q (.bool (ltV x y)) s) : wpAny (model P w) A (richCompare .Lt u v) Q E s := by
  rcases o with ⟨i, j, rfl, rfl⟩ | ⟨i, j, rfl, rfl⟩
  · obtain ⟨t, rfl⟩ := rx
    obtain ⟨t', rfl⟩ := ry
    exact lt_int q
  · obtain ⟨t, rfl⟩ := rx
    obtain ⟨t', rfl⟩ := ry
    exact lt_str q
theorem lt_tupV {X : Cx} {pins : List (Addr × Obj)} {σ : St} {H : Hp} {s : Shared} (I : Inv X pins σ H s) {A : Around} (hu : A.units < cLine) {p q : Addr} {xs ys : List V} (hp : SqT X.K H p xs) (hq : SqT X.K H q ys) (hl : xs.length = ys.length) (fx : xs.all flatV = true) (fy : ys.all flatV = true)
    (ho : ∀ j, j < xs.length → OrdV (xs.getD j .non) (ys.getD j .non)) {E Q : Value → Shared → Prop} (k : Q (.bool (lexV xs ys)) s) : wpAny (model X.prog X.w) A (richCompare .Lt (.ref p) (.ref q)) Q E s := by
  obtain ⟨its, r1, l1, _⟩ := I.tuple hp
  obtain ⟨jts, r2, l2, _⟩ := I.tuple hq
  have e1 := r1.length
  have e2 := r2.length
  obtain ⟨⟨c1, dd, da, sl⟩, ho1, hc, n, hd⟩ := id l1
  obtain ⟨⟨c2, de, db, sm⟩, ho2, hc2, m, hd2⟩ := id l2
  obtain rfl := hc
  obtain rfl := hd
  obtain rfl := hc2
  obtain rfl := hd2
  refine wpAny_richCompare_same_room (op := .Lt) ⟨_, ho1, rfl⟩ ⟨_, ho2, rfl⟩ PySem.F.slot_tuple_lt (call_meetsIn PySem.F.slot_tuple_lt ⟨_, ho1, rfl⟩ PySem.F.entry_tuple_lt (PySem.F.args_tuple_lt_2 _ _) (tuple_ltIn p q its.toArray jts.toArray n m dd de sl sm (fun j => eqV (xs.getD j .non) (ys.getD j .non)) (fun j => ltV (xs.getD j .non) (ys.getD j .non)) (by simp; omega)) ⟨ho1, ho2, fun j q1 q2 => eqAt_V (vals_at r1 j q1) (vals_at r2 j q2) (flat_at fx j) (flat_at fy j), fun j q1 q2 E Q' hq' => lt_flat (ho j (by simp at q1; omega)) (vals_at r1 j q1) (vals_at r2 j q2) hq', ?_⟩) hu
  rw [show its.toArray.size = xs.length by simp; omega]
  exact ⟨(fun z => nomatch z), k⟩
end L2

namespace L2
open PySem PyProof.Rows PySem.Spec PySem.Calls
/-! ### min(xs, key=f) -/
section
variable {X : Cx} {pins : List (Addr × Obj)} {σ : St}
theorem pin_swap {H : Hp} {s : Shared} {p q : Addr × Obj} (J : Inv X (pins ++ [p, q]) σ H s) : Inv X (pins ++ [q, p]) σ H s := J.pins_of fun r hr => J.pin r (List.mem_append_right _ (by
  rcases List.mem_append.mp hr with hr | hr
  · exact List.mem_append_left _ hr
  · refine List.mem_append_right _ ?_
    rcases List.mem_cons.mp hr with rfl | hr
    · exact .tail _ (.head _)
    · rw [List.mem_singleton.mp hr]; exact .head _))
theorem pin_less {H : Hp} {s : Shared} {l : List (Addr × Obj)} (J : Inv X (pins ++ l) σ H s) : Inv X pins σ H s := J.pins_of fun r hr => J.pin r (List.mem_append_right _ (List.mem_append_left _ hr))
/-- one of two things of one's own changes -/
theorem pin_turn {H : Hp} {s : Shared} {S I : Addr} {so io so' : Obj} {h' : Heap} {t' : Nat} (J : Inv X (pins ++ [(S, so), (I, io)]) σ H s) (k : ∀ b o, b ≠ S → s.heap.get? b = some o → h'.get? b = some o) (e : h'.get? S = some so') (nc : ∀ v, so'.data ≠ .cell v)
    (h1 : X.s₀.heap.objs.size ≤ S) (h2 : ∀ x c, X.env.cells.lookup x = some c → c ≠ S) (h3 : ∀ p ∈ X.pn ++ pins, p.1 ≠ S) (hIS : I ≠ S) : Inv X (pins ++ [(S, so'), (I, io)]) σ H { s with heap := h', toks := t' } := by
  have pS := J.pin (S, so) (List.mem_append_right _ (List.mem_append_right _ (.head _)))
  have pI := J.pin (I, io) (List.mem_append_right _ (List.mem_append_right _ (.tail _ (.head _))))
  have J2 := (pin_less J).turned (t' := t') k pS.2.1 pS.2.2.1 (.inr h1) h2 h3
  refine J2.pins_of fun r hr => ?_
  rcases List.mem_append.mp hr with hr | hr
  · exact J2.pin r (List.mem_append_right _ hr)
  · rcases List.mem_cons.mp hr with rfl | hr
    · exact ⟨e, pS.2.1, pS.2.2.1, pS.2.2.2.1, nc⟩
    · rw [List.mem_singleton.mp hr]
      exact ⟨k _ _ hIS pI.1, pI.2⟩
structure OwnA (X : Cx) (pins : List (Addr × Obj)) (S : Addr) : Prop where
  h1 : X.s₀.heap.objs.size ≤ S
  h2 : ∀ x c, X.env.cells.lookup x = some c → c ≠ S
  h3 : ∀ p ∈ X.pn ++ pins, p.1 ≠ S
theorem min_loop {l q S I : Addr} {xs : List V} {E : Value → Shared → Prop} {R : Result → Shared → Prop} {H0 : Hp} (key : Nat → List V) (hA : X.A.handled = none) (hu : X.A.units + 1 < cLine) (kl : ∀ i j, i < xs.length → j < xs.length → (key i).length = (key j).length ∧ (key i).all flatV = true ∧ ∀ n, n < (key i).length → OrdV ((key i).getD n .non) ((key j).getD n .non))
    (hl : ∀ pins H s, Inv X pins σ H s → Same H0 H → ∃ its : List Value, Vals xs its ∧ s.heap.IsList l its.toArray) (hlI : l ≠ I) (hSI : S ≠ I) (oS : OwnA X pins S) (oI : OwnA X pins I)
    (turn : ∀ (i : Nat) (x : V) (v : Value), xs[i]? = some x → RelV x v → ∀ (ex : List (Addr × Obj)) (H : Hp) (s : Shared), Inv X (pins ++ ex) σ H s → Same H0 H →
      wpAny (model X.prog X.w) X.A.in1 (call (.ref q) [v]) (fun z s' => ∃ p H', z = .ref p ∧ Same H H' ∧ H' p = some (.tup (key i)) ∧ Inv X (pins ++ ex) σ H' s') (fun _ _ => False) s)
    (hR : ∀ x v H s, xs[argBest (fun i j => lexV (key i) (key j)) (xs.length - 1)]? = some x → RelV x v → Same H0 H → Inv X pins σ H s → R (.ok (.ret v)) s) :
    ∀ (r j : Nat) (H : Hp) (s : Shared) (vb : Value) (kb : Addr) (c : Nat) (oI' : Obj) (xb : V), xs.length - (j + 1) = r → j + 1 ≤ xs.length → Same H0 H →
      Inv X (pins ++ [(S, seqObj "list" #[vb, .ref kb] c), (I, oI')]) σ H s → s.heap.IsListIter I l (j + 1) → xs[argBest (fun i j => lexV (key i) (key j)) j]? = some xb → RelV xb vb → H kb = some (.tup (key (argBest (fun i j => lexV (key i) (key j)) j))) →
      codeAny (model X.prog X.w) X.A (.builtin "min.loop" ⟨[.ref I, .ref q, .ref S], []⟩) R s := by
  have hname : (toString "min" ++ toString ".loop" : String) = "min.loop" := by decide
  intro r
  induction r with
  | zero =>
    intro j H s vb kb c oI' xb hr hj sm J hit hvb rvb hkb
    obtain ⟨its, rv, hli⟩ := hl _ _ _ J sm
    have hlen := rv.length
    have W := Walks.list (prog := X.prog) (w := X.w) (A := X.A.in1) hA I l hlI its.toArray
    have hsz : its.toArray.size = xs.length := by rw [List.size_toArray]; exact hlen.symm
    have pS := J.pin (S, seqObj "list" #[vb, .ref kb] c) (List.mem_append_right _ (List.mem_append_right _ (.head _)))
    refine codeAny_builtin PySem.F.entry_min_loop ?_
    rw [Around.under_plainId PySem.F.plain_min_loop _]
    show wpAny _ X.A.in1 (seqItems? (.ref S) >>= _) _ _ _
    refine wpAny_bind (wpAny_seqItems pS.1 rfl ?_)
    show wpAny _ X.A.in1 (tryCatch (pyNext (.ref I)) _ >>= _) _ _ _
    have hin : j + 1 = xs.length := by omega
    refine wpAny_bind (wpAny_tryCatch (W.done _ _ _ ⟨by rw [hsz, ← hin]; exact hit, hli⟩ fun h' tk' hk' => ?_))
    have JS : Inv X (pins ++ [(S, seqObj "list" #[vb, .ref kb] c)]) σ H s := J.pins_of fun p hp => J.pin p (List.mem_append_right _ (by
      rcases List.mem_append.mp hp with hp | hp
      · exact List.mem_append_left _ hp
      · rw [List.mem_singleton.mp hp]; exact List.mem_append_right _ (.head _)))
    have pI := J.pin (I, oI') (List.mem_append_right _ (List.mem_append_right _ (.tail _ (.head _))))
    have J1 := JS.turned (t' := tk') (h' := h') (it := I) (fun b o nb e => hk' b o (by simpa using nb) e) pI.2.1 pI.2.2.1 (.inr oI.h1) oI.h2 (fun p hp => by
      rcases List.mem_append.mp hp with hp | hp
      · exact oI.h3 p (List.mem_append_left _ hp)
      · rcases List.mem_append.mp hp with hp | hp
        · exact oI.h3 p (List.mem_append_right _ hp)
        · rw [List.mem_singleton.mp hp]; exact hSI)
    have pS1 := J1.pin (S, seqObj "list" #[vb, .ref kb] c) (List.mem_append_right _ (List.mem_append_right _ (.head _)))
    show wpAny _ X.A.in1 (updateSeq S (fun _ => #[]) >>= _) _ _ _
    refine wpAny_bind ?_
    refine wpAny_updateSeq pS1.1 rfl (wpAny_bind (wpAny_letGo (wpAny_pure ?_)))
    have s1 := Heap.SameBut.update h' S (Obj.mapSeq fun _ => (#[] : Array Value))
    have J2 := (pin_less J1).turned (t' := tk') (it := S) (h' := h'.update S (Obj.mapSeq fun _ => (#[] : Array Value))) (fun b o nb e => (s1.2 b nb).trans e) pS1.2.1 pS1.2.2.1 (.inr oS.h1) oS.h2 oS.h3
    exact hR xb vb H _ (by rw [show xs.length - 1 = j by omega]; exact hvb) rvb sm J2
  | succ r ih =>
    intro j H s vb kb c oI' xb hr hj sm J hit hvb rvb hkb
    obtain ⟨its, rv, hli⟩ := hl _ _ _ J sm
    have hlen := rv.length
    have W := Walks.list (prog := X.prog) (w := X.w) (A := X.A.in1) hA I l hlI its.toArray
    have hsz : its.toArray.size = xs.length := by rw [List.size_toArray]; exact hlen.symm
    have hlt : j + 1 < xs.length := by omega
    have pS := J.pin (S, seqObj "list" #[vb, .ref kb] c) (List.mem_append_right _ (List.mem_append_right _ (.head _)))
    refine codeAny_builtin PySem.F.entry_min_loop ?_
    rw [Around.under_plainId PySem.F.plain_min_loop _]
    show wpAny _ X.A.in1 (seqItems? (.ref S) >>= _) _ _ _
    refine wpAny_bind (wpAny_seqItems pS.1 rfl ?_)
    show wpAny _ X.A.in1 (tryCatch (pyNext (.ref I)) _ >>= _) _ _ _
    refine wpAny_bind (wpAny_tryCatch (W.item (j + 1) _ _ _ (by rw [hsz]; exact hlt) ⟨hit, hli⟩ fun v h' tk' hP hst' hk' => ?_))
    have hv0 : its[j + 1]? = some v := by simpa using hP
    obtain ⟨x, hv⟩ : ∃ x, xs[j + 1]? = some x := ⟨_, List.getElem?_eq_getElem hlt⟩
    have rx : RelV x v := by
      obtain ⟨u, hu', ru⟩ := rv.get hv
      rw [hv0] at hu'
      rw [Option.some.inj hu']
      exact ru
    obtain ⟨oI2, hoI2, hoc, hod⟩ := id hst'.1
    have J1 := pin_swap (pin_turn (t' := tk') (h' := h') (so' := oI2) (pin_swap J) (fun b o nb e => hk' b o (by simpa using nb) e) hoI2 (fun z => by rw [hod]; intro z; cases z) oI.h1 oI.h2 oI.h3 hSI)
    show wpAny _ X.A.in1 (tryCatch (holding [v] (call (.ref q) [v])) _ >>= _) _ _ _
    refine wpAny_bind (wpAny_tryCatch (wpAny_holding (wpAny_mono (turn (j + 1) x v hv rx _ _ _ J1 sm) (fun z s'' he => ?_) fun _ _ hF => hF.elim)))
    obtain ⟨p, H2, rfl, s2, hp2, J2⟩ := he
    have pS2 := J2.pin (S, seqObj "list" #[vb, .ref kb] c) (List.mem_append_right _ (List.mem_append_right _ (.head _)))
    have pI2 := J2.pin (I, oI2) (List.mem_append_right _ (List.mem_append_right _ (.tail _ (.head _))))
    have hit2 : s''.heap.IsListIter I l (j + 1 + 1) := ⟨oI2, pI2.1, hoc, hod⟩
    have hkb2 := s2 _ _ hkb
    have bl : argBest (fun i j => lexV (key i) (key j)) j < xs.length := (List.getElem?_eq_some_iff.mp hvb).1
    obtain ⟨k1, k2, k3⟩ := kl (j + 1) _ hlt bl
    obtain ⟨_, k4, _⟩ := kl _ (j + 1) bl hlt
    show wpAny _ X.A.in1 (tryCatch (holding [v, .ref p] (richCompare .Lt (.ref p) (.ref kb) >>= _)) _ >>= _) _ _ _
    refine wpAny_bind (wpAny_tryCatch (wpAny_holding (wpAny_bind (lt_tupV J2 (in1_units (n := 0) (by omega)) (SqT.of hp2) (SqT.of hkb2) k1 k2 k4 k3 ?_))))
    refine wpAny_bind (wpAny_holding (wpAny_truthy_bool ?_))
    refine wpAny_bind (wpAny_letGo (wpAny_pure ?_))
    cases hb : lexV (key (j + 1)) (key (argBest (fun i j => lexV (key i) (key j)) j)) with
    | true =>
      have eb : argBest (fun i j => lexV (key i) (key j)) (j + 1) = j + 1 := by
        show (if lexV (key (j + 1)) (key (argBest (fun i j => lexV (key i) (key j)) j)) then j + 1 else argBest (fun i j => lexV (key i) (key j)) j) = j + 1
        rw [hb, if_pos rfl]
      have s1 := Heap.SameBut.update s''.heap S (Obj.mapSeq fun _ => #[v, .ref p])
      obtain ⟨c2, hc2⟩ : ∃ c2, (s''.heap.update S (Obj.mapSeq fun _ => #[v, .ref p])).get? S = some (seqObj "list" #[v, .ref p] c2) := ⟨_, get?_update_seq pS2.1 fun _ => #[v, .ref p]⟩
      simp only [if_true]
      refine wpAny_bind ?_
      refine wpAny_updateSeq pS2.1 rfl (wpAny_bind (wpAny_letGo ?_))
      rw [hname]
      have J3 := pin_turn (t' := s''.toks) (so' := seqObj "list" #[v, .ref p] c2) J2 (fun b o nb e => (s1.2 b nb).trans e) hc2 (fun z => by intro z; cases z) oS.h1 oS.h2 oS.h3 (Ne.symm hSI)
      refine wpAny_pure ⟨plainId_quiet PySem.F.plain_min_loop _, ih (j + 1) H2 _ v p c2 oI2 x (by omega) hlt (sm.trans s2) J3 ⟨oI2, (s1.2 I (Ne.symm hSI)).trans pI2.1, hoc, hod⟩ (by rw [eb]; exact hv) rx (by rw [eb]; exact hp2)⟩
    | false =>
      have eb : argBest (fun i j => lexV (key i) (key j)) (j + 1) = argBest (fun i j => lexV (key i) (key j)) j := by
        show (if lexV (key (j + 1)) (key (argBest (fun i j => lexV (key i) (key j)) j)) then j + 1 else argBest (fun i j => lexV (key i) (key j)) j) = _
        rw [hb, if_neg (by decide)]
      simp only [Bool.false_eq_true, if_false]
      refine wpAny_bind (wpAny_letGo ?_)
      rw [hname]
      exact wpAny_pure ⟨plainId_quiet PySem.F.plain_min_loop _, ih (j + 1) H2 _ vb kb c oI2 xb (by omega) hlt (sm.trans s2) J2 hit2 (by rw [eb]; exact hvb) rvb (by rw [eb]; exact hkb2)⟩
theorem min_key {l q : Addr} {xs : List V} {E : Value → Shared → Prop} {Q : Value → Shared → Prop} {H0 : Hp} {s : Shared} (key : Nat → List V) (hA : X.A.handled = none) (hu : X.A.units + 1 < cLine) (kl : ∀ i j, i < xs.length → j < xs.length → (key i).length = (key j).length ∧ (key i).all flatV = true ∧ ∀ n, n < (key i).length → OrdV ((key i).getD n .non) ((key j).getD n .non))
    (I0 : Inv X pins σ H0 s) (hl : ∀ pins H s, Inv X pins σ H s → Same H0 H → ∃ its : List Value, Vals xs its ∧ s.heap.IsList l its.toArray) (hne : 0 < xs.length)
    (turn : ∀ (i : Nat) (x : V) (v : Value), xs[i]? = some x → RelV x v → ∀ (ex : List (Addr × Obj)) (H : Hp) (s : Shared), Inv X (pins ++ ex) σ H s → Same H0 H →
      wpAny (model X.prog X.w) X.A.in1 (call (.ref q) [v]) (fun z s' => ∃ p H', z = .ref p ∧ Same H H' ∧ H' p = some (.tup (key i)) ∧ Inv X (pins ++ ex) σ H' s') (fun _ _ => False) s)
    (hQ : ∀ x v H s, xs[argBest (fun i j => lexV (key i) (key j)) (xs.length - 1)]? = some x → RelV x v → Same H0 H → Inv X pins σ H s → Q v s) :
    wpAny (model X.prog X.w) X.A (call (.builtin "min") [.ref l] [(Str.ofString "key", .ref q)]) Q E s := by
  have hname : (toString "min" ++ toString ".loop" : String) = "min.loop" := by decide
  obtain ⟨its, rv, hls⟩ := hl _ _ _ I0 (Same.refl _)
  have hlen := rv.length
  obtain ⟨ol, hol, _⟩ := id hls
  have hll : l < s.heap.objs.size := Heap.lt_size hol
  refine kmk_tree PySem.F.kind_min PySem.F.plain_min PySem.F.entry_min (kmk_min_key _ _) ?_
  show wpAny _ X.A.in1 (Builtin.Builtins.bindParams "min" ["key", "default"] 0 ⟨[], [(Str.ofString "key", .ref q)]⟩ >>= _) _ _ s
  refine wpAny_bind (wpAny_of_eq (show Builtin.Builtins.bindParams "min" ["key", "default"] 0 ⟨[], [(Str.ofString "key", .ref q)]⟩ = pure [some (.ref q), none] from rfl) ?_)
  refine wpAny_bind (wpAny_pure ?_)
  refine wpAny_bind (wpAny_pyIter_list hls ?_)
  refine wpAny_bind (wpAny_newList ?_ (Nat.zero_le _))
  rw [hname]
  have hS : (s.heap.push { cls := .type "list_iterator", data := .fields #[.ref l, .int 0 0] }).objs.size = s.heap.objs.size + 1 := size_push' ..
  have hlI : l ≠ s.heap.objs.size := Nat.ne_of_lt hll
  have hSI : (s.heap.push { cls := .type "list_iterator", data := .fields #[.ref l, .int 0 0] }).objs.size ≠ s.heap.objs.size := by rw [hS]; exact Nat.ne_of_gt (Nat.lt_succ_self _)
  refine wpAny_pure ⟨plainId_quiet PySem.F.plain_min_loop _, ?_⟩
  have kp : ∀ b o, s.heap.get? b = some o → ((s.heap.push { cls := .type "list_iterator", data := .fields #[.ref l, .int 0 0] }).push (seqObj "list" #[] 0)).get? b = some o := fun b o e => Heap.get?_push_of_some _ (Heap.get?_push_of_some _ e)
  have gI : ((s.heap.push { cls := .type "list_iterator", data := .fields #[.ref l, .int 0 0] }).push (seqObj "list" #[] 0)).get? s.heap.objs.size = some { cls := .type "list_iterator", data := .fields #[.ref l, .int 0 0] } :=
    Heap.get?_push_of_some _ (Heap.get?_push_size _ rfl)
  have gS : ((s.heap.push { cls := .type "list_iterator", data := .fields #[.ref l, .int 0 0] }).push (seqObj "list" #[] 0)).get? (s.heap.push { cls := .type "list_iterator", data := .fields #[.ref l, .int 0 0] }).objs.size = some (seqObj "list" #[] 0) := Heap.get?_push_size _ rfl
  have J0 := I0.kept (t' := s.toks) kp
  have fI := I0.fpOk (b := s.heap.objs.size) (Nat.le_refl _) (I0.hok.fresh (Nat.le_refl _))
  have fS := I0.fpOk (b := (s.heap.push { cls := .type "list_iterator", data := .fields #[.ref l, .int 0 0] }).objs.size) (by rw [hS]; omega) (I0.hok.fresh (by rw [hS]; omega))
  have oI : OwnA X pins s.heap.objs.size := ⟨I0.sz, fI.2.2.2.2.1, fI.2.2.2.2.2⟩
  have oS : OwnA X pins (s.heap.push { cls := .type "list_iterator", data := .fields #[.ref l, .int 0 0] }).objs.size := ⟨Nat.le_trans I0.sz (by rw [hS]; omega), fS.2.2.2.2.1, fS.2.2.2.2.2⟩
  generalize (s.heap.push { cls := .type "list_iterator", data := .fields #[.ref l, .int 0 0] }).objs.size = S at *
  generalize hI : s.heap.objs.size = I at *
  have J1 : Inv X (pins ++ [(S, seqObj "list" #[] 0), (I, { cls := .type "list_iterator", data := .fields #[.ref l, .int 0 0] })]) σ H0 _ := J0.pins_of fun p hp => by
    rcases List.mem_append.mp hp with hp | hp
    · exact J0.pin p (List.mem_append_right _ hp)
    · rcases List.mem_cons.mp hp with rfl | hp
      · exact ⟨gS, fS.1, fS.2.1, fS.2.2.1, fun v z => by cases z⟩
      · rw [List.mem_singleton.mp hp]
        exact ⟨gI, fI.1, fI.2.1, fI.2.2.1, fun v z => by cases z⟩
  have W := Walks.list (prog := X.prog) (w := X.w) (A := X.A.in1) hA I l hlI its.toArray
  have hsz : its.toArray.size = xs.length := by rw [List.size_toArray]; exact hlen.symm
  obtain ⟨ol', hol', hls'⟩ := id hls
  have hls0 : Heap.IsList _ l its.toArray := ⟨ol', kp _ _ hol', hls'⟩
  refine codeAny_builtin PySem.F.entry_min_loop ?_
  rw [Around.under_plainId PySem.F.plain_min_loop _]
  show wpAny _ X.A.in1 (seqItems? (.ref _) >>= _) _ _ _
  refine wpAny_bind (wpAny_seqItems gS rfl ?_)
  show wpAny _ X.A.in1 (tryCatch (pyNext (.ref I)) _ >>= _) _ _ _
  refine wpAny_bind (wpAny_tryCatch (W.item 0 _ _ _ (by rw [hsz]; exact hne) ⟨⟨_, gI, rfl, rfl⟩, hls0⟩ fun v h' tk' hP hst' hk' => ?_))
  have hv0 : its[0]? = some v := by simpa using hP
  obtain ⟨x, hv⟩ : ∃ x, xs[0]? = some x := ⟨_, List.getElem?_eq_getElem hne⟩
  have rx : RelV x v := by
    obtain ⟨u, hu', ru⟩ := rv.get hv
    rw [hv0] at hu'
    rw [Option.some.inj hu']
    exact ru
  obtain ⟨oI2, hoI2, hoc, hod⟩ := id hst'.1
  have J2 := pin_swap (pin_turn (t' := tk') (h' := h') (so' := oI2) (pin_swap J1) (fun b o nb e => hk' b o (by simpa using nb) e) hoI2 (fun z => by rw [hod]; intro z; cases z) oI.h1 oI.h2 oI.h3 hSI)
  show wpAny _ X.A.in1 (tryCatch (holding [v] (call (.ref q) [v])) _ >>= _) _ _ _
  refine wpAny_bind (wpAny_tryCatch (wpAny_holding (wpAny_mono (turn 0 x v hv rx _ _ _ J2 (Same.refl _)) (fun z s'' he => ?_) fun _ _ hF => hF.elim)))
  obtain ⟨p, H2, rfl, s2, hp2, J3⟩ := he
  have pS3 := J3.pin (S, seqObj "list" #[] 0) (List.mem_append_right _ (List.mem_append_right _ (.head _)))
  have pI3 := J3.pin (I, oI2) (List.mem_append_right _ (List.mem_append_right _ (.tail _ (.head _))))
  have s1 := Heap.SameBut.update s''.heap S (Obj.mapSeq fun _ => #[v, .ref p])
  obtain ⟨c2, hc2⟩ : ∃ c2, (s''.heap.update S (Obj.mapSeq fun _ => #[v, .ref p])).get? S = some (seqObj "list" #[v, .ref p] c2) := ⟨_, get?_update_seq pS3.1 fun _ => #[v, .ref p]⟩
  show wpAny _ X.A.in1 (updateSeq S (fun _ => #[v, .ref p]) >>= _) _ _ _
  refine wpAny_bind ?_
  refine wpAny_updateSeq pS3.1 rfl ?_
  rw [hname]
  have J4 := pin_turn (t' := s''.toks) (so' := seqObj "list" #[v, .ref p] c2) J3 (fun b o nb e => (s1.2 b nb).trans e) hc2 (fun z => by intro z; cases z) oS.h1 oS.h2 oS.h3 (Ne.symm hSI)
  exact wpAny_pure ⟨plainId_quiet PySem.F.plain_min_loop _, min_loop (E := E) key hA hu kl hl hlI hSI oS oI turn hQ _ 0 H2 _ v p c2 oI2 x rfl hne s2 J4 ⟨oI2, (s1.2 I (Ne.symm hSI)).trans pI3.1, hoc, hod⟩ hv rx hp2⟩
end
end L2

namespace L2
open PySem PyProof.Rows PySem.Spec PySem.Calls
/-! ### a def's table of the functions that it makes -/
def CD (c : Addr) (qual : Str) : HO := .ext fun h => h.CodeRec (.ref c) qual
def FN (f : Addr) (o : Obj) : HO := .ext fun h => h.get? f = some o
theorem cd_ok {P : Program} {w : World} {H : Hp} {h : Heap} {c : Addr} {qual : Str} (e : h.CodeRec (.ref c) qual) : ObjOk P w H h c (CD c qual) := by
  refine ⟨e, ?_, fun h1 h2 e1 k => ?_⟩
  · obtain ⟨c', oc, vs, tq, hc, hoc, _⟩ := e
    cases hc
    exact ⟨oc, hoc⟩
  · obtain ⟨c', oc, vs, tq, hc, hoc, hd, hq⟩ := e1
    cases hc
    exact ⟨c, oc, vs, tq, rfl, k _ hoc, hd, hq⟩
theorem fn_ok {P : Program} {w : World} {H : Hp} {h : Heap} {f : Addr} {o : Obj} (e : h.get? f = some o) : ObjOk P w H h f (FN f o) := ⟨e, ⟨o, e⟩, fun _ _ e1 k => k _ e1⟩
/-- the table with one function in it -/
def tab1 (pos : Pos) (c : Addr) : Array Value := #[rawInt pos.line, rawInt pos.col, .ref c]
def TabAt (H : Hp) (P : Addr) (pos : Pos) (qual : Str) (c : Addr) : Prop := H P = some (.tbl (tab1 pos c)) ∧ H c = some (CD c qual)
def TabOk (H : Hp) (P : Addr) (pos : Pos) (qual : Str) : Prop := H P = some (.tbl #[]) ∨ ∃ c, TabAt H P pos qual c
/-- all but the table stays -/
def SameP (P : Addr) (H H' : Hp) : Prop := ∀ b o, b ≠ P → H b = some o → H' b = some o
theorem SameP.refl (P : Addr) (H : Hp) : SameP P H H := fun _ _ _ e => e
theorem SameP.trans {P : Addr} {H H1 H2 : Hp} (a : SameP P H H1) (b : SameP P H1 H2) : SameP P H H2 := fun x o n e => b x o n (a x o n e)
theorem Same.p {P : Addr} {H H' : Hp} (a : Same H H') : SameP P H H' := fun b o _ e => a b o e
theorem TabAt.same {H H' : Hp} {P : Addr} {pos : Pos} {qual : Str} {c : Addr} (t : TabAt H P pos qual c) (s : Same H H') : TabAt H' P pos qual c := ⟨s _ _ t.1, s _ _ t.2⟩
theorem TabOk.same {H H' : Hp} {P : Addr} {pos : Pos} {qual : Str} (t : TabOk H P pos qual) (s : Same H H') : TabOk H' P pos qual := t.imp (s _ _) fun ⟨c, z⟩ => ⟨c, z.same s⟩
/-- what is known of the text's frame: its built-ins -/
def BMain (base : Heap) (mg : Str → Option Value) : Prop := ∃ bm ob, mg "__builtins__" = some (.ref bm) ∧ bm ≠ builtinsNs ∧ base.get? bm = some ob ∧ ob.cls = .type "module" ∧ ob.dict = some builtinsNs ∧ ob.data = .plain
section
variable {X : Cx} {pins : List (Addr × Obj)} {σ : St} {H : Hp} {s : Shared}
theorem Inv.bat {P : Addr} {ps : Array Value} (I : Inv X pins σ H s) (B : BMain X.base X.mg) (hP : s.heap.get? P = some (PySem.W.tabObj ps)) : s.heap.BuiltinsAt X.mg P := by
  obtain ⟨bm, ob, h1, h2, h3, h4, h5, h6⟩ := B
  have e := I.bk _ _ h3
  refine ⟨bm, ob, h1, h2, fun z => ?_, fun z => ?_, e, h4, h5, h6⟩
  · obtain ⟨o, es, ep, ho, hd, _⟩ := I.mod.glob.keeps I.bk
    rw [z, ho] at e; cases e; rw [hd] at h6; cases h6
  · rw [z, hP] at e; cases e; cases h4
theorem Inv.gP {P : Addr} {ps : Array Value} (I : Inv X pins σ H s) (hP : s.heap.get? P = some (PySem.W.tabObj ps)) : mainGlobals ≠ P := fun z => by
  obtain ⟨o, es, ep, ho, hd, _⟩ := I.mod.glob.keeps I.bk
  rw [z, hP] at ho; cases ho; cases hd
/-- the table grows -/
theorem Inv.grown {P c : Addr} {ps ps' : Array Value} {qual : Str} {h' : Heap} {tk : Nat} (I : Inv X pins σ H s) (hH : H P = some (.tbl ps)) (hx : Heap.ExtBut P s.heap h') (hc : s.heap.objs.size ≤ c) (hrec : h'.CodeRec (.ref c) qual) (hP : h'.get? P = some (PySem.W.tabObj (ps ++ ps'))) :
    Inv X pins σ (upd (upd H P (.tbl (ps ++ ps'))) c (CD c qual)) { s with heap := h', toks := tk } := by
  have nc : H c = none := I.hok.fresh hc
  have cP : c ≠ P := fun z => by rw [z, hH] at nc; cases nc
  have ne : ∀ b, H b = none → b ≠ P := fun b n z => by rw [z, hH] at n; cases n
  have HH : ∀ b, b ≠ P → b ≠ c → upd (upd H P (.tbl (ps ++ ps'))) c (CD c qual) b = H b := fun b n1 n2 => by rw [upd_ne n2, upd_ne n1]
  have some_ne : ∀ b u, H b = some u → b ≠ c := fun b u e z => by rw [z, nc] at e; cases e
  refine I.un (t' := tk) ⟨fun b o e n _ _ => hx b o (ne b n) e, fun b o e n _ _ => ⟨o.slots, hx b o (ne b n) e⟩, fun b o e n _ => by rw [HH b (ne b n) (fun z => Nat.not_lt.mpr hc (by rw [← z]; exact Heap.lt_size e))]; exact n, fun b o e _ => ?_, fun b xs e => ?_, fun b o u e => ?_, fun b qs e => ?_⟩ (fun b u e => ?_)
  · by_cases z : b = P
    · exact ⟨_, z ▸ hP⟩
    · exact ⟨o, hx b o z e⟩
  · rw [HH b (ne_of e hH (by intro z; cases z)) (some_ne b _ e)]; exact e
  · rw [HH b (ne_of e hH (by intro z; cases z)) (some_ne b _ e)]; exact e
  · by_cases z : b = P
    · subst z
      rw [hH] at e
      injection e with e
      injection e with e
      subst e
      exact ⟨ps', by rw [upd_ne (Ne.symm cP), upd_same]⟩
    · exact ⟨#[], by rw [HH b z (some_ne b _ e), e]; simp⟩
  · by_cases z : b = c
    · subst z
      rw [upd_same] at e
      obtain rfl := Option.some.inj e
      exact cd_ok hrec
    · rw [upd_ne z] at e
      by_cases z2 : b = P
      · subst z2
        rw [upd_same] at e
        obtain rfl := Option.some.inj e
        exact hP
      · rw [upd_ne z2] at e
        refine (I.hok b u e).stay (fun d v hd q => hx d v ?_ q) (fun d q => ?_) (fun d xs q => ?_)
        · rcases hd with rfl | hd
          · exact z2
          · exact ne_of hd hH (by intro z; cases z)
        · rw [HH d (ne_of q hH (by intro z; cases z)) (some_ne d _ q)]; exact q
        · rw [HH d (ne_of q hH (by intro z; cases z)) (some_ne d _ q)]; exact q
def LamO (qual : Str) (params : Arguments) (body : Expr) (scope : Scope) (clos : List (Str × Addr)) (c : Addr) (o : Obj) : Prop := ∃ pm ctv, o = PySem.W.kla_obj "<lambda>" qual params body scope clos pm c ctv
/-- lambda: .. -/
theorem pe_lam {params : Arguments} {body : Expr} {scope : Scope} {pos : Pos} {c₀ P : Addr} {clos : List (Str × Addr)} {Q : VK} (I : Inv X pins σ H s) (B : BMain X.base X.mg) (hcode : X.env.code = .ref c₀) (C : PySem.W.codeHdIn X.K c₀ P = true) (hcl : closureFor scope X.env = pure clos) (hdef : defaultsOf params X.env = ([], []))
    (ht : TabOk H P pos (X.env.qual ++ "<lambda>")) (q : ∀ f o c H', SameP P H H' → H f = none → TabAt H' P pos (X.env.qual ++ "<lambda>") c → H' f = some (FN f o) → LamO (X.env.qual ++ "<lambda>") params body scope clos c o → Q (.ref f) H') :
    wpAny (model X.prog X.w) X.A (eval (.Lambda params body scope pos) X.env) (EP X pins σ Q) X.xe s := by
  have CH := PySem.W.codeHd_of_K I.kIn C
  have G := I.mod.glob.keeps I.bk
  refine PySem.W.kla_eval hdef ?_
  rcases ht with ht | ⟨c, ht, hc⟩
  · have hP : s.heap.get? P = some (PySem.W.tabObj #[]) := I.hok P _ ht
    refine PySem.W.kla_makeFunction (mg := X.mg) hcl I.ok.glob G hcode CH hP trivial rfl (I.gP hP) (I.bat B hP) fun c' ctv h' tk hx hge hlt hrec htb => ?_
    have J := I.grown (tk := tk) ht hx hge hrec (ps' := #[rawInt pos.line, rawInt pos.col, .ref c']) htb
    have nf : upd (upd H P (.tbl (#[] ++ #[rawInt pos.line, rawInt pos.col, .ref c']))) c' (CD c' (X.env.qual ++ "<lambda>")) h'.objs.size = none := J.hok.fresh (Nat.le_refl _)
    have nf0 : H h'.objs.size = none := I.hok.fresh (Nat.le_trans hge (Nat.le_of_lt hlt))
    have nc : H c' = none := I.hok.fresh hge
    have cP : c' ≠ P := fun z => by rw [z, ht] at nc; cases nc
    have fc : h'.objs.size ≠ c' := Nat.ne_of_gt hlt
    have fP : h'.objs.size ≠ P := fun z => by rw [z, ht] at nf0; cases nf0
    refine ⟨.ref h'.objs.size, _, J.laid (t' := tk) (a := h'.objs.size) (o := FN h'.objs.size (PySem.W.kla_obj "<lambda>" (X.env.qual ++ "<lambda>") params body scope clos ((X.mg "__name__").getD .none) c' ctv)) (fun b o e => Heap.get?_push_of_some _ e) (Nat.le_refl _) (fn_ok (Heap.get?_push_size _ rfl)), rfl, ?_⟩
    refine q _ _ c' _ (fun b o nb e => ?_) nf0 ⟨?_, ?_⟩ upd_same ⟨_, _, rfl⟩
    · have n1 : b ≠ h'.objs.size := fun z => by rw [z, nf0] at e; cases e
      have n2 : b ≠ c' := fun z => by rw [z, nc] at e; cases e
      rw [upd_ne n1, upd_ne n2, upd_ne nb]; exact e
    · rw [upd_ne (Ne.symm fP), upd_ne (Ne.symm cP), upd_same]; rfl
    · rw [upd_ne (Ne.symm fc), upd_same]
  · have hP : s.heap.get? P = some (PySem.W.tabObj (tab1 pos c)) := I.hok P _ ht
    have hrec : s.heap.CodeRec (.ref c) (X.env.qual ++ "<lambda>") := (I.hok c _ hc).1
    refine PySem.W.kla_makeFunctionHit (mg := X.mg) (cv := .ref c) hcl I.ok.glob G hcode CH hP trivial (by show (if _ then _ else _) = _; simp [rawInt]) (I.bat B hP) fun ctv h' tk hk hsz => ?_
    have J := I.kept (t' := tk) hk
    have nf : H h'.objs.size = none := I.hok.fresh hsz
    refine ⟨.ref h'.objs.size, _, J.laid (t' := tk) (a := h'.objs.size) (o := FN h'.objs.size (PySem.W.kla_obj "<lambda>" (X.env.qual ++ "<lambda>") params body scope clos ((X.mg "__name__").getD .none) c ctv)) (fun b o e => Heap.get?_push_of_some _ e) (Nat.le_refl _) (fn_ok (Heap.get?_push_size _ rfl)), rfl, ?_⟩
    have ss := same_new nf (FN h'.objs.size (PySem.W.kla_obj "<lambda>" (X.env.qual ++ "<lambda>") params body scope clos ((X.mg "__name__").getD .none) c ctv))
    exact q _ _ c _ ss.p nf ⟨ss _ _ ht, ss _ _ hc⟩ upd_same ⟨_, _, rfl⟩
end
end L2

namespace L2
open PySem PyProof.Rows PySem.Spec PySem.Calls
theorem cw_bltkw {M : Model} {A : Around} {E : Value → Shared → Prop} {s : Shared} {pos : Pos} {T : String} {args : List (Bool × Sem Value)} {kws : List (Option Str × Sem Value)} {Q : Value → Shared → Prop} (hp : (args.any (·.1) || kws.any (·.1.isNone)) = false)
    (h : wpAny M A (evalArgs (.builtin T) true args kws) (fun a s1 => wpAny M A (call (.builtin T) a.pos a.kw) Q E s1) E s) : wpAny M A (callWith pos (.builtin T) [] args kws) Q E s := by
  unfold callWith
  refine wpAny_bind (wpAny_holding (wpAny_mono h (fun a s1 h1 => wpAny_bind (wpAny_standAt ?_)) fun _ _ x => x))
  simp only [hp]
  refine wpAny_bind (wpAny_pure ?_)
  exact wpAny_bind (wpAny_mono h1 (fun r s2 hr => wpAny_bind (wpAny_holding (wpAny_point (wpAny_pure hr)))) fun _ _ x => x)
theorem SqL.sameP {K : PySem.W.Frag} {H H' : Hp} {P l : Addr} {xs : List V} {ps : Array Value} (h : SqL K H l xs) (hP : H P = some (.tbl ps)) (s : SameP P H H') : SqL K H' l xs := by
  rcases h with (h | ⟨o, h⟩) | h
  · exact .inl (.inl (s _ _ (ne_of h hP (by intro z; cases z)) h))
  · exact .inl (.inr ⟨o, s _ _ (ne_of h hP (by intro z; cases z)) h⟩)
  · exact .inr h
theorem SqL.same' {K : PySem.W.Frag} {H H' : Hp} {l : Addr} {xs : List V} (h : SqL K H l xs) (s : Same H H') : SqL K H' l xs := by
  rcases h with (h | ⟨o, h⟩) | h
  · exact .inl (.inl (s _ _ h))
  · exact .inl (.inr ⟨o, s _ _ h⟩)
  · exact .inr h
theorem TabOk.is {H : Hp} {P : Addr} {pos : Pos} {qual : Str} (t : TabOk H P pos qual) : ∃ ps, H P = some (.tbl ps) := by
  rcases t with t | ⟨c, t, _⟩
  · exact ⟨_, t⟩
  · exact ⟨_, t⟩
section
variable {X : Cx}
def tLam (P : Addr) (pos : Pos) (qual : Str) (params : Arguments) (body : Expr) (scope : Scope) (clos : List (Str × Addr)) : TE := fun _ H Q => TabOk H P pos qual ∧ ∀ f o c H', SameP P H H' → H f = none → TabAt H' P pos qual c → H' f = some (FN f o) → LamO qual params body scope clos c o → Q (.ref f) H'
theorem pe_lamE {params : Arguments} {body : Expr} {scope : Scope} {pos : Pos} {c₀ P : Addr} {clos : List (Str × Addr)} (B : BMain X.base X.mg) (hcode : X.env.code = .ref c₀) (C : PySem.W.codeHdIn X.K c₀ P = true) (hcl : closureFor scope X.env = pure clos) (hdef : defaultsOf params X.env = ([], []) := by rfl) :
    PE X (.Lambda params body scope pos) (tLam P pos (X.env.qual ++ "<lambda>") params body scope clos) := fun pins s σ H Q I h => pe_lam I B hcode C hcl hdef h.1 h.2
def tMinLam (K : PySem.W.Frag) (ta : TA) (P : Addr) (pos : Pos) (qual : Str) (tb : TE) (iy : Nat) : TE := fun σ H Q => ta σ H fun vs H1 => ∃ (l : Addr) (xs : List V) (vy : V) (key : Nat → List V), vs = [.ref l] ∧ SqL K H1 l xs ∧ 0 < xs.length ∧ σ[iy]? = some (some vy) ∧ TabOk H1 P pos qual ∧
  (∀ i j, i < xs.length → j < xs.length → (key i).length = (key j).length ∧ (key i).all flatV = true ∧ ∀ n, n < (key i).length → OrdV ((key i).getD n .non) ((key j).getD n .non)) ∧
  (∀ H2, SameP P H1 H2 → ∀ (i : Nat) x, xs[i]? = some x → tb [some x, some vy] H2 fun v H4 => ∃ p, v = .ref p ∧ Same H2 H4 ∧ H4 p = some (.tup (key i))) ∧
  ∀ H' v, SameP P H1 H' → TabOk H' P pos qual → xs[argBest (fun i j => lexV (key i) (key j)) (xs.length - 1)]? = some v → Q v H'
/-- min(xs, key=lambda x: ..), the lambda reading the def's y -/
theorem pe_minlam {a : Expr} {ta : TA} {params : Arguments} {body : Expr} {scope : Scope} {p pos lpos kpos : Pos} {c₀ P c : Addr} {x y : Str} {iy : Nat} {tb : TE} (hr : Room 1 X.A) (hg : Gl X "min") (hm : X.mg "min" = none) (ha : PA X [a] ta) (S : LamScope x y scope) (hN : X.N[iy]? = some y) (hk : X.env.kindOf y = some .cell)
    (B : BMain X.base X.mg) (hcode : X.env.code = .ref c₀) (C : PySem.W.codeHdIn X.K c₀ P = true) (hcl : closureFor scope X.env = pure [(y, c)]) (hcy : X.env.cells.lookup y = some c)
    (hbind : ∀ pm c' ctv u, bindArgs (PySem.W.kla_fn "<lambda>" (X.env.qual ++ "<lambda>") params body scope [(y, c)] pm (.ref c') ctv) ⟨[u], []⟩ = pure [(x, u)])
    (hb : ∀ (f : Addr) (cd : Value) (A : Around) (outer : List Env) (s : Shared) (H : Hp), PE (cxLam X.prog X.w X.K X.mg X.base x y (X.env.qual ++ "<lambda>") scope f cd [(y, c)] A outer s H) body tb)
    (hs : starEach [a] X.env = [(false, eval a X.env)] := by rfl) (hdef : defaultsOf params X.env = ([], []) := by rfl)
    (hall : (backToKw pos (keywordEach [⟨some "key", .Lambda params body scope lpos, kpos⟩] X.env)).all (·.1.isSome) = true := by rfl) (hks : (backToKw pos (keywordEach [⟨some "key", .Lambda params body scope lpos, kpos⟩] X.env)).filterMap (·.1) = [("key" : Str)] := by rfl)
    (hpl : ((backTo pos (starEach [a] X.env)).any (·.1) || (backToKw pos (keywordEach [⟨some "key", .Lambda params body scope lpos, kpos⟩] X.env)).any (·.1.isNone)) = false := by rfl) :
    PE X (.Call (.Name "min" p) [a] [⟨some "key", .Lambda params body scope lpos, kpos⟩] pos) (tMinLam X.K ta P lpos (X.env.qual ++ "<lambda>") tb iy) := by
  intro pins s σ H Q I h
  refine wpAny_Call_Name_kw (ld_blt I hg hm bt_min ?_)
  refine cw_bltkw hpl (evalArgs_kw2 hall (thn (ha pos pins s σ H _ I h) fun us s1 ⟨vs, H1, I1, r1, q1⟩ => ?_) hs)
  obtain ⟨l, xs, vy, key, rfl, hl, hne, hy, ht, kl, hbody, hq⟩ := q1
  obtain ⟨u, rfl, ru⟩ := vals1 r1
  cases ru
  have K1 : PK X [⟨some "key", .Lambda params body scope lpos, kpos⟩] _ := pk_cons (pe_lamE B hcode C hcl hdef) pk_nil
  obtain ⟨ps, hP⟩ := ht.is
  refine thn (K1 pos pins s1 σ H1 (fun zs H2 => ∃ f o c', zs = [V.ref f] ∧ SameP P H1 H2 ∧ TabAt H2 P lpos (X.env.qual ++ "<lambda>") c' ∧ H2 f = some (FN f o) ∧ LamO (X.env.qual ++ "<lambda>") params body scope [(y, c)] c' o) I1 ⟨ht, fun f o c' H' sP nf tA hf hO => ⟨f, o, c', rfl, sP, tA, hf, hO⟩⟩) fun ws s2 ⟨zs, H2, I2, r2, q2⟩ => ?_
  obtain ⟨f, o, c', rfl, sP, tA, hf, hO⟩ := q2
  obtain ⟨u2, rfl, ru2⟩ := vals1 r2
  cases ru2
  rw [hks]
  obtain ⟨pm, ctv, rfl⟩ := hO
  refine min_key (H0 := H2) key hr.hd (by have := hr.un; omega) kl I2 (fun pins' H3 s3 J s23 => ?_) hne (fun i xv v hx rx ex H3 s3 J s23 => ?_) (fun xv v H3 s3 hx rx s23 J => ?_)
  · obtain ⟨its, rv, pl, _⟩ := J.list ((hl.sameP hP sP).same' s23)
    exact ⟨its, rv, pl.isList⟩
  · obtain ⟨m, hns, hloc⟩ := J.loc
    obtain ⟨uy, ruy, look⟩ := hloc iy y vy hN hy (.inr (.inl hk))
    obtain ⟨_, cc, hcc, hcell⟩ : (X.env.kindOf y = some .cell ∨ X.env.kindOf y = some .free) ∧ ∃ c, X.env.cells.lookup y = some c ∧ s3.heap.IsCell c (some uy) := by
      rcases look with ⟨z, _⟩ | z
      · rw [hk] at z; cases z
      · exact z
    rw [hcy] at hcc
    obtain rfl := Option.some.inj hcc
    have e0 := J.env0
    have e1 : Env0 X.prog X.w X.K X.mg X.base X.A.in1 X.stack s3 H3 := ⟨e0.frames, e0.mod, e0.bs, e0.bsz, e0.funs, e0.frf, e0.hok, e0.bare⟩
    have hf3 : s3.heap.get? f = some _ := (J.hok f _ (s23 _ _ hf)).1
    have hcd : s3.heap.CodeRec (.ref c') (X.env.qual ++ "<lambda>") := (J.hok c' _ (s23 _ _ tA.2)).1
    have run := lam_run (u := v) S (show X.A.in1.handled = none from hr.hd) (show X.A.in1.depth < recursionLimit by have := hr.dp; show X.A.depth < _; omega) e1 rx ruy hcell (J.freeC y c hcy) hf3 hcd (hbind pm c' ctv v) (hb f (.ref c') X.A.in1 X.stack s3 H3) (hbody H3 (sP.trans s23.p) i xv hx)
    refine wpAny_call (codeAny_mono run fun r s' hr' => ?_)
    cases r with
    | error e => exact hr'.elim
    | ok fl =>
      cases fl with
      | next => exact hr'.elim
      | brk => exact hr'.elim
      | cont => exact hr'.elim
      | ret z =>
        obtain ⟨vv, H4, J4, rv, p', rfl, s34, hp4⟩ := J.after hr'
        cases rv
        exact ⟨p', H4, rfl, s34, hp4, J4⟩
  · exact ⟨xv, H3, J, rx, hq H3 xv (sP.trans s23.p) (.inr ⟨c', tA.same s23⟩) hx⟩
end
end L2

namespace L2
open PySem PySem.Spec PyProof.Rows
/-! ### a law whose text makes functions: the tables are tracked from the start -/
theorem law_callT {P : Program} {w : World} {K : PySem.W.Frag} {mg mb : Str → Option Value} {CX : CXT} {k : Nat} {fa a : Addr} {fd : FuncData} {x : Str} {sp : Sp} {s₁ : Shared} {vs : List Value} {ns : List Int} {ts : List (Addr × Addr)}
    (KX : K.In s₁.heap) (hns : s₁.heap.Ns mainGlobals mg) (hb : s₁.heap.Ns builtinsNs mb) (hbb : ∀ x : Str, x ≠ "__name__" → mb x = bootBuiltins x) (hlim : s₁.heap.NoLimit) (hbm : BMain s₁.heap mg) (hg : s₁.gens = #[])
    (hT : ∀ t ∈ ts, s₁.heap.get? t.2 = some (PySem.W.tabObj #[])) (hC : ∀ t ∈ ts, PySem.W.codeHdIn K t.1 t.2 = true) (hKt : ∀ t ∈ ts, K.lookup t.2 = none)
    (ha : s₁.heap.get? a = some { cls := .type "list", data := .seq vs.toArray }) (hi : IntsAre vs ns) (hl : ns.length ≤ sizeLine) (hr : Room k callerA)
    (F : ∀ base : Heap, K.In base → base.Ns mainGlobals mg → BMain base mg → FnOk P w K mg base CX k fa fd [x] sp) (hbind : ∀ (s : Shared) (u : Value), BindsTo s fd ⟨[u], []⟩ [(x, u)])
    (hsp : ∀ H : Hp, (∀ t ∈ ts, H t.2 = some (.tbl #[])) → SqL K H a (ns.map V.int) → sp [.ref a] H (fun v _ => v = .bl true) fun _ _ _ => False)
    (hCX : ∀ H e s', CX [] H s₁ (fun _ _ _ => False) e s' → False) :
    codeAny (model P w) callerA (.call (.ref fa) ⟨[.ref a], []⟩) (fun r s' => r = .ok (.ret (.bool true)) ∧ OldK s₁.heap s'.heap ∧ s'.os = s₁.os ∧ AllBare s'.gens) s₁ := by
  have rv := vals_ints hi
  have lenV := hi.length
  have core : ∀ H : Hp, (∀ b, H b = none ∨ (∃ o xs, H b = some (.frz o (.lst xs))) ∨ ((∃ t ∈ ts, t.2 = b) ∧ H b = some (.tbl #[]))) → (∀ t ∈ ts, H t.2 = some (.tbl #[])) → SqL K H a (ns.map V.int) → HOk P w H s₁.heap → (∀ b, H b ≠ none → b = a ∨ ∃ t ∈ ts, t.2 = b) → (H a ≠ none → K.lookup a = none) →
      codeAny (model P w) callerA (.call (.ref fa) ⟨[.ref a], []⟩) (fun r s' => r = .ok (.ret (.bool true)) ∧ OldK s₁.heap s'.heap ∧ s'.os = s₁.os ∧ AllBare s'.gens) s₁ := by
    intro H hO hOt hS hok hA hK
    have base_of : ∀ {b : Addr} {o : Obj}, s₁.heap.get? b = some o → H b = none → (hidT s₁.heap H).get? b = some o := fun e n => hidT_get e n
    have trk : ∀ {b : Addr} {o : Obj}, s₁.heap.get? b = some o → o.cls ≠ .type "list" → o.cls ≠ .none → H b = none := fun {b o} e n1 n2 => by
      cases q : H b with
      | none => rfl
      | some u =>
        rcases hA b (by rw [q]; simp) with e' | ⟨t, ht, e'⟩
        · subst e'
          rw [ha] at e; cases e
          exact absurd rfl n1
        · subst e'
          rw [hT t ht] at e; cases e
          exact absurd rfl n2
    have noA : ∀ {b : Addr} {o : Obj} {es : Array DictEntry} {ep : Nat}, s₁.heap.get? b = some o → o.data = .dict es ep → H b = none := fun {b o es ep} e d => by
      cases q : H b with
      | none => rfl
      | some u =>
        rcases hA b (by rw [q]; simp) with e' | ⟨t, ht, e'⟩
        · subst e'
          rw [ha] at e; cases e
          have d' : Data.seq vs.toArray _ = Data.dict es ep := d
          cases d'
        · subst e'
          rw [hT t ht] at e; cases e
          have d' : Data.fields _ = Data.dict es ep := d
          cases d'
    have nsK : ∀ {b : Addr} {m : Str → Option Value}, s₁.heap.Ns b m → (hidT s₁.heap H).Ns b m := fun {b m} ⟨o, es, ep, e, d, r⟩ => ⟨o, es, ep, base_of e (noA e d), d, r⟩
    have hKb : K.In (hidT s₁.heap H) := fun b o e => base_of (KX b o e) (by
      cases q : H b with
      | none => rfl
      | some u =>
        rcases hA b (by rw [q]; simp) with e' | ⟨t, ht, e'⟩
        · subst e'
          rw [hK (by rw [q]; simp)] at e; cases e
        · subst e'
          rw [hKt t ht] at e; cases e)
    have hM : Mod K mg (hidT s₁.heap H) := ⟨hKb, nsK hns, ⟨mb, nsK hb, hbb⟩, let ⟨mc, h1, h2⟩ := hlim; ⟨mc, nsK h1, h2⟩⟩
    have hB : BMain (hidT s₁.heap H) mg := by
      obtain ⟨bm, ob, h1, h2, h3, h4, h5⟩ := hbm
      exact ⟨bm, ob, h1, h2, base_of h3 (trk h3 (by rw [h4]; decide) (by rw [h4]; intro z; cases z)), h4, h5⟩
    have e0 : Env0 P w K mg (hidT s₁.heap H) callerA [] s₁ H := ⟨rfl, hM, fun b o e => of_hidT e, Nat.le_of_eq (hidT_size _ _), trivial, fun b hb => absurd (show b ∈ ([] : List Addr) from hb) (by simp), hok, .of_eq hg⟩
    refine codeAny_mono ((F _ hKb (nsK hns) hB).run callerA [] s₁ H ⟨[.ref a], []⟩ [.ref a] [.ref a] _ _ hr e0 (hbind s₁ (.ref a)) (.cons rfl .nil) (hsp H hOt hS)) fun r s' h => ?_
    cases r with
    | error e => exact (hCX H e s' h).elim
    | ok fl =>
      cases fl with
      | next => exact False.elim h
      | brk => exact False.elim h
      | cont => exact False.elim h
      | ret u =>
        obtain ⟨v, H', os, bare, un, hok', r', q⟩ := h
        have q' : v = .bl true := q
        subst q'
        obtain rfl : u = Value.bool true := r'
        have kp : ∀ b o, s₁.heap.get? b = some o → asItWas s₁.heap s'.heap b o := fun b o e => by
          cases q : H b with
          | none => exact .inl (un.keep b o e q (by intro z; exact absurd (show b ∈ ([] : List Addr) from z) (by simp)) (by simp))
          | some u =>
            rcases hO b with z | ⟨ob, xs, z⟩ | ⟨⟨t, ht, e'⟩, z⟩
            · rw [q] at z; cases z
            · have z2 := un.frzs b ob _ z
              obtain ⟨e1, _⟩ := hok b _ z
              obtain ⟨e2, _⟩ := hok' b _ z2
              rw [e] at e1; cases e1
              exact .inl e2
            · subst e'
              obtain ⟨more, z2⟩ := un.tbls _ _ z
              have e2 : s'.heap.get? t.2 = some { cls := .none, data := .fields (#[] ++ more) } := hok' t.2 _ z2
              rw [hT t ht] at e; cases e
              have CH := PySem.W.codeHd_of_K KX (hC t ht)
              exact .inr (.inl ⟨(CH.tab (hT t ht)).isCodeTable, rfl, #[], more, rfl, e2⟩)
        exact ⟨rfl, ⟨kp, fun b o e => un.there b o e (by simp)⟩, os, bare⟩
  have aT : ∀ t ∈ ts, t.2 ≠ a := fun t ht z => by
    have e := hT t ht
    rw [z, ha] at e; cases e
  have dT : ∀ b, Decidable (∃ t ∈ ts, t.2 = b) := fun b => by infer_instance
  cases hk : K.lookup a with
  | some o =>
    have e := KX a o hk
    rw [ha] at e
    cases e
    refine core (fun b => if ∃ t ∈ ts, t.2 = b then some (.tbl #[]) else none) (fun b => ?_) (fun t ht => if_pos ⟨t, ht, rfl⟩) (.inr ⟨_, vs.toArray, _, hk, rfl, rfl, rfl, by rw [List.size_toArray, lenV]; exact hl, by simpa using rv⟩) (fun b u z => ?_) (fun b z => ?_) fun z => absurd (if_neg (fun ⟨t, ht, e⟩ => aT t ht e)) z
    · by_cases hb : ∃ t ∈ ts, t.2 = b
      · exact .inr (.inr ⟨hb, if_pos hb⟩)
      · exact .inl (if_neg hb)
    · by_cases hb : ∃ t ∈ ts, t.2 = b
      · have z' := (if_pos hb).symm.trans z
        cases z'
        obtain ⟨t, ht, rfl⟩ := hb
        exact hT t ht
      · have z' := (if_neg hb).symm.trans z
        cases z'
    · by_cases hb : ∃ t ∈ ts, t.2 = b
      · exact .inr hb
      · exact absurd (if_neg hb) z
  | none =>
    refine core (fun b => if b = a then some (.frz { cls := .type "list", data := .seq vs.toArray } (.lst (ns.map V.int))) else if ∃ t ∈ ts, t.2 = b then some (.tbl #[]) else none) (fun b => ?_) (fun t ht => (if_neg (aT t ht)).trans (if_pos ⟨t, ht, rfl⟩)) (.inl (.inr ⟨{ cls := .type "list", data := .seq vs.toArray }, if_pos rfl⟩)) (fun b u z => ?_) (fun b z => ?_) fun _ => hk
    · by_cases hb : b = a
      · exact .inr (.inl ⟨_, _, if_pos hb⟩)
      · by_cases hb2 : ∃ t ∈ ts, t.2 = b
        · exact .inr (.inr ⟨hb2, (if_neg hb).trans (if_pos hb2)⟩)
        · exact .inl ((if_neg hb).trans (if_neg hb2))
    · by_cases hb : b = a
      · have z' := (if_pos hb).symm.trans z
        cases z'
        subst hb
        exact ⟨ha, by rw [List.length_map]; exact hl, vs, _, rv, ha⟩
      · have z' := (if_neg hb).symm.trans z
        by_cases hb2 : ∃ t ∈ ts, t.2 = b
        · have z'' := (if_pos hb2).symm.trans z'
          cases z''
          obtain ⟨t, ht, rfl⟩ := hb2
          exact hT t ht
        · have z'' := (if_neg hb2).symm.trans z'
          cases z''
    · by_cases hb : b = a
      · exact .inl hb
      · by_cases hb2 : ∃ t ∈ ts, t.2 = b
        · exact .inr hb2
        · exact absurd ((if_neg hb).trans (if_neg hb2)) z
theorem walk_of1 {l : PySem.W.OpenLaw} {n k : Nat} {q : Program} {loose : List Str} {XP : (Str → Option Value) → Heap → Prop} {YP : World → Heap → Prop} {d : DefRec} {K : Params → PySem.W.Frag} {CX : World → CXT} {sp : World → Sp} {x : Str} {tP : Addr}
    (hn : l.most = some n) (hn2 : n ≤ sizeLine) (hdf : d.params.defaults = []) (hr : Room k callerA)
    (hY : ∀ (w : World) (h : Heap), YP w h → (K w.params).In h) (hT : ∀ (w : World) (h : Heap), YP w h → h.get? tP = some (PySem.W.tabObj #[])) (hKt : ∀ (w : World), (K w.params).lookup tP = none)
    (F : ∀ (w : World) (mg : Str → Option Value) (fa : Addr) (h : Heap), (K w.params).In h → h.Ns mainGlobals mg → mg d.name = some (.ref fa) →
      ∃ fd : FuncData, (∀ (s : Shared) (u : Value), BindsTo s fd ⟨[u], []⟩ [(x, u)]) ∧ (∃ c, PySem.W.codeHdIn (K w.params) c tP = true) ∧
        ∀ base : Heap, (K w.params).In base → base.Ns mainGlobals mg → BMain base mg → FnOk l.prog w (K w.params) mg base (CX w) k fa fd [x] (sp w))
    (hsp : ∀ (w : World) (H : Hp) (a : Addr) (ns : List Int), ns.length ≤ n → H tP = some (.tbl #[]) → SqL (K w.params) H a (ns.map V.int) → sp w [.ref a] H (fun v _ => v = .bl true) fun _ _ _ => False)
    (hCX : ∀ (w : World) (H : Hp) (s : Shared) (e : Value) (s' : Shared), CX w [] H s (fun _ _ _ => False) e s' → False) :
    PySem.W.WalkO q loose XP YP l.row.toRowW d [] (fun f vs => PySem.call f vs) := by
  refine Att.attach_call hn hdf fun w s₀ s₁ mg mb fa o pm cd doc a vs ns G Y ho hd hcd hmg hobj hints hlen hg => ?_
  have KX := hY w _ Y
  obtain ⟨fd, hb, ⟨c, hc⟩, hF⟩ := F w mg fa _ KX G.T.g hmg
  have one : ∀ {p : Addr × Addr → Prop}, p (c, tP) → ∀ t ∈ [(c, tP)], p t := fun h t ht => by rw [List.mem_singleton.mp ht]; exact h
  exact law_callT (ts := [(c, tP)]) KX G.T.g G.T.b G.T.builtins G.T.nolimit G.T.bmain hg (one (hT w _ Y)) (one hc) (one (hKt w)) hobj hints (Nat.le_trans hlen hn2) hr hF hb (fun H hO hS => hsp w H a ns hlen (hO (c, tP) (.head _)) hS) fun H e s' => hCX w H s₁ e s'
section
variable {P : Program} {w : World} {K : PySem.W.Frag} {mg : Str → Option Value} {base : Heap}
/-- a def of the text whose code object is known -/
theorem Fun.okL {x qual : Str} {st : Stmt} {f c₀ : Addr} {fd : FuncData} {N ps : List Str} {k : Nat} {sp : Sp} (F : Fun K x qual st f fd) (hL : fd.code = .ref c₀) (S : FnScope N ps (defScope st)) (len : ∀ vs H Q E, sp vs H Q E → vs.length = ps.length)
    (hbody : ∀ (A : Around) (outer : List Env) (s : Shared) (H : Hp) (vs : List V) (Q : VK) (E : XK), Room k (A.deeper (envOfC qual (defScope st) s.heap.objs.size f (.ref c₀))) → sp vs H Q E →
      ∃ t, PSs (cxOf CX0 P w K mg base N qual (defScope st) f (.ref c₀) A outer s H E).nox (defBody st) t ∧ t { nx := fun _ H' => Q .non H', rt := Q } (start N vs) H) : FnOk P w K mg base CX0 (k + 1) f fd ps sp := by
  obtain ⟨oc, od, kV, doc, pm, an, cdv, ct, osl, rfl, lk, hcd⟩ := F.ex
  obtain rfl : cdv = .ref c₀ := hL
  refine fn_of lk hcd S len fun A outer s H vs Q E hr hsp => ?_
  obtain ⟨t, h, q⟩ := hbody A outer s H vs Q E hr hsp
  exact ⟨t, h.nox, q⟩
end
theorem LamScope.mk2 {x y : Str} {scope : Scope} (hn : scope.names = [(x, .local), (y, .free)] ∨ scope.names = [(y, .free), (x, .local)]) (ne : x ≠ y) (kind : scope.kind = .function) (co : scope.isCoroutine = false) (gen : scope.isGenerator = false) : LamScope x y scope := by
  have l1 : (x == y) = false := beq_eq_false_iff_ne.mpr ne
  have l2 : (y == x) = false := beq_eq_false_iff_ne.mpr (Ne.symm ne)
  refine ⟨kind, co, gen, ?_, ?_, fun z hz => ?_, fun z hz => ?_, ne⟩
  · rcases hn with h | h <;> rw [h]
    · rw [List.lookup_cons, beq_self_eq_true]
    · rw [List.lookup_cons, l1, List.lookup_cons, beq_self_eq_true]
  · rcases hn with h | h <;> rw [h]
    · rw [List.lookup_cons, l2, List.lookup_cons, beq_self_eq_true]
    · rw [List.lookup_cons, beq_self_eq_true]
  · rcases hn with h | h <;> rw [h] at hz
    · rcases List.mem_cons.mp hz with rfl | hz
      · intro z; cases z
      · rw [List.mem_singleton.mp hz]; intro z; cases z
    · rcases List.mem_cons.mp hz with rfl | hz
      · intro z; cases z
      · rw [List.mem_singleton.mp hz]; intro z; cases z
  · have m := PySem.mem_of_lookup hz
    rcases hn with h | h <;> rw [h] at m
    · rcases List.mem_cons.mp m with e | m
      · injection e with _ e; cases e
      · injection List.mem_singleton.mp m
    · rcases List.mem_cons.mp m with e | m
      · injection e
      · injection List.mem_singleton.mp m with _ e; cases e
section
variable {X : Cx}
def tListRange1 (ta : TA) : TE := fun σ H Q => ta σ H fun vs H1 => ∃ j : Int, vs = [.int j] ∧ (-(2 ^ 62) ≤ j ∧ j < 2 ^ 62) ∧ j.toNat ≤ sizeLine ∧ j.toNat ≤ 2 ^ 24 ∧ ∀ l, H1 l = none → Q (.ref l) (upd H1 l (.lst (rngV 0 j.toNat)))
theorem pe_listRange1 {b : Expr} {ta : TA} {p p2 pos pos2 : Pos} (hc : X.calm = true) (hl : Gl X "list") (hlm : X.mg "list" = none) (hg : Gl X "range") (hm : X.mg "range" = none) (ha : PA X [b] ta)
    (hs2 : starEach [b] X.env = [(false, eval b X.env)] := by rfl) (hb : bootBuiltins "list" = some (.type "list") := by decide +kernel)
    (ho : starEach [Expr.Call (.Name "range" p2) [b] [] pos2] X.env = [(false, eval (.Call (.Name "range" p2) [b] [] pos2) X.env)] := by rfl) :
    PE X (.Call (.Name "list" p) [.Call (.Name "range" p2) [b] [] pos2] [] pos) (tListRange1 ta) := by
  intro pins s σ H Q I h
  refine wpAny_Call_Name_kw (ld_blt I hl hlm hb ?_)
  refine PyProof.Rows.callWith_type1 ?_ (by rw [ho]; rfl) rfl
  rw [ho]
  refine Calls.spliced_cons ?_
  refine Call_ (ld_blt I hg hm boot_range (PyProof.Rows.callWith_type1 (thn (ha pos2 pins s σ H _ I h) fun us s1 ⟨vs, H1, I1, r1, q1⟩ => ?_) (by rw [hs2]; rfl) rfl))
  obtain ⟨j, e, ⟨q3, q4⟩, z1, z2, q⟩ := q1
  subst e
  cases r1 with
  | cons r rr =>
    cases rr
    obtain ⟨t', rfl⟩ := r
    refine call_range_1 ?_
    refine Calls.spliced_nil ?_
    have hn : Builtin.Range.rangeSize 0 j 1 = ((j.toNat : Nat) : Int) := by rw [rangeSize_one]; split <;> omega
    refine call_list_range (I1.ok.hd hc) (IsRange.new ..) (small_one (by decide) (by decide) q3 q4) hn z2 fun h' tk acc' c' hk hS' hacc => ?_
    have kp : ∀ b o, s1.heap.get? b = some o → h'.get? b = some o := fun b o e => hk b o (Heap.get?_push_of_some _ e)
    refine ⟨.ref _, _, I1.laid (t' := tk) kp ?_ ?_, rfl, q _ (I1.hok.fresh ?_)⟩
    · rw [Heap.size_push]; exact Nat.le_succ _
    · refine ⟨(by unfold rngV; rw [List.length_map, List.length_range]; exact z1), acc'.toList, c', rng_vals hacc, ?_⟩
      exact hS'
    · rw [Heap.size_push]; exact Nat.le_succ _
end
end L2

namespace My
open PySem L2
/-- figures, by their codes; what is a number, what it writes -/
def fig : List Nat := List.range' 48 10
def isnum (z : Str) : Bool := decide ((1 : Int) ≤ (z.length : Nat)) && decide (((z.length : Nat) : Int) ≤ 9) && (z.cps.toList.all fun c => decide (c ∈ fig)) && (decide (z = ⟨#[48]⟩) || !decide (z.cps.toList.headD 0 = 48))
def val (z : Str) : Int := ((NumText.digitsVal z.cps.toList : Nat) : Int)
def wr (z : Str) : V := if isnum z = true then .int (val z) else .non
def inNum (z : Str) (lo hi : Int) : V := if (isnum z && decide (lo ≤ val z) && decide (val z ≤ hi)) = true then .int (val z) else .non
/-- small letters, figures, by their codes -/
def low : List Nat := List.range' 97 26
def good (z : Str) : Bool := decide ((1 : Int) ≤ (z.length : Nat)) && decide (((z.length : Nat) : Int) ≤ 12) && decide (z.cps.toList.headD 0 ∈ low) && z.cps.toList.all fun c => decide (c ∈ low ++ fig)
/-- what is_layout tells of a text -/
def lay (z : Str) : Bool := decide (z = Str.ofString "both") || (Txt.startswith z (Str.ofString "up:") && decide (¬ inNum (Txt.slice z (some 3) none) 2 16 = V.non))
/-- the fifteen texts behind both -/
def goods : List V := (((List.range 15).map fun i => V.int (2 + ((i : Nat) : Int))).filter fun _ => true).map fun v => match v with | .int n => V.str (Str.ofString "up:" ++ Str.ofString (toString n)) | _ => .non
def goodTexts : List Str := (List.range 15).map fun i => Str.ofString "up:" ++ Str.ofString (toString (2 + ((i : Nat) : Int)))
end My

namespace My
open PySem L2
open Blk (sg sg_inj sg_app)
/-! ### parts between a sign c -/
def Jc (c : Nat) : List (List Nat) → List Nat
  | [] => []
  | [x] => x
  | x :: y :: r => x ++ c :: Jc c (y :: r)
def Cc (c : Nat) : List Nat → List (List Nat)
  | [] => [[]]
  | d :: r => if d = c then [] :: Cc c r else match Cc c r with
    | [] => [[d]]
    | p :: ps => (d :: p) :: ps
/-! ### beginnings -/
theorem sg_len (z : Str) : (sg z).length = z.length := len_toList z
/-! ### numbers written -/
def tn (n : Int) : Str := Str.ofString (toString n)
end My

namespace My
open PySem L2
open Blk (sg sg_inj sg_app)
/-- what a word tells: a plain value, or a pair of pages -/
inductive VO where
  | v (x : V) | pair (a b : Int)
  deriving DecidableEq
def non : VO := .v .non
abbrev cX : Str := Str.ofString "x"
abbrev cCol : Str := Str.ofString "colour:"
abbrev cPap : Str := Str.ofString "paper:"
abbrev cCov : Str := Str.ofString "cover:"
abbrev cAft : Str := Str.ofString "after:"
abbrev cSta : Str := Str.ofString "staple"
abbrev cLay : Str := Str.ofString "layout"
abbrev cOne : Str := Str.ofString "one"
abbrev cPla : Str := Str.ofString "plain"
abbrev cDash : Str := Str.ofString "-"
abbrev cBlank : Str := Str.ofString " "
/-- the rest of a text behind a beginning -/
def rst (z p : Str) : Str := Txt.slice z (some ((p.length : Nat) : Int)) none
def readCol (span : Str) (pages : Int) : VO := match Txt.split span cDash with
  | [a, b] => (match inNum a 1 pages with
    | .int f => (match inNum b f pages with
      | .int l => .pair f l
      | _ => non)
    | _ => non)
  | _ => non
def three : List Str := [cPap, cCov, cAft]
def four : List Str := [cX, cCol, cPap, cCov]
def valueOf (z : Str) (pages : Int) : VO :=
  if z = cSta then .v (.bl true) else if lay z = true then .v (.str z) else if Txt.startswith z cX = true then .v (inNum (rst z cX) 1 99) else if Txt.startswith z cCol = true then readCol (rst z cCol) pages
  else match three.find? (fun p => Txt.startswith z p && good (rst z p)) with
    | some p => .v (.str (rst z p))
    | none => non
def sortOf (z : Str) : Str := if lay z = true then cLay else (four.find? fun p => Txt.startswith z p).getD z
def readTail (pages : Int) : List Str → Nat → List (Str × VO) → Except Nat (List (Str × VO))
  | [], _, t => .ok t
  | w :: r, p, t => if valueOf w pages = non ∨ sortOf w ∈ t.map (·.1) then .error p else readTail pages r (p + 1) (t ++ [(sortOf w, valueOf w pages)])
def toldV (t : List (Str × VO)) (k : Str) : Option VO := (t.find? fun p => decide (p.1 = k)).map (·.2)
/-- a job as it is read -/
structure JF where
  name : Str
  asker : Str
  pages : Int
  copies : VO
  layout : VO
  paper : VO
  cover : VO
  colour : VO
  staple : VO
  after : List VO
def readHead (ws : List Str) : Except Nat Int :=
  if good (ws.getD 0 cBlank) = false then .error 0 else if ws.length < 2 then .error ws.length else if good (ws.getD 1 cBlank) = false then .error 1 else if ws.length < 3 then .error ws.length else
  match inNum (ws.getD 2 cBlank) 1 999 with
  | .int n => .ok n
  | _ => .error 2
def toldJob (ws : List Str) (pages : Int) (t : List (Str × VO)) : JF :=
  { name := ws.getD 0 cBlank, asker := ws.getD 1 cBlank, pages := pages, copies := (toldV t cX).getD (.v (.int 1)), layout := (toldV t cLay).getD (.v (.str cOne)), paper := (toldV t cPap).getD (.v (.str cPla)), cover := (toldV t cCov).getD non, colour := (toldV t cCol).getD non,
    staple := (toldV t cSta).getD (.v (.bl false)), after := (t.filter fun p => Txt.startswith p.1 cAft).map (·.2) }
def readJ (z : Str) : Except Nat JF := match readHead (Txt.split z cBlank) with
  | .error p => .error p
  | .ok n => match readTail n ((Txt.split z cBlank).drop 3) 3 [] with
    | .error p => .error p
    | .ok t => .ok (toldJob (Txt.split z cBlank) n t)
/-! ### a job's own values -/
structure Jb where
  name : Str
  asker : Str
  pages : Int
  copies : Int
  layout : Str
  paper : Str
  cover : Option Str
  colour : Option (Int × Int)
  staple : Bool
  after : List Str
structure Jb.Ok (j : Jb) : Prop where
  name : good j.name = true
  asker : good j.asker = true
  p0 : 1 ≤ j.pages
  p1 : j.pages ≤ 999
  c0 : 1 ≤ j.copies
  c1 : j.copies ≤ 99
  lay : j.layout ∈ cOne :: Str.ofString "both" :: goodTexts
  paper : good j.paper = true
  cover : ∀ z, j.cover = some z → good z = true
  colour : ∀ a b, j.colour = some (a, b) → 1 ≤ a ∧ a ≤ b ∧ b ≤ j.pages
  after : ∀ z ∈ j.after, good z = true
  nd : j.after.Nodup
  few : j.after.length ≤ 3
def Jb.jf (j : Jb) : JF := { name := j.name, asker := j.asker, pages := j.pages, copies := .v (.int j.copies), layout := .v (.str j.layout), paper := .v (.str j.paper), cover := (match j.cover with | some z => .v (.str z) | none => non), colour := (match j.colour with | some (a, b) => .pair a b | none => non), staple := .v (.bl j.staple), after := j.after.map fun z => .v (.str z) }
/-- the words that may be told: is it, the word, its sort, what it tells -/
def Jb.ents (j : Jb) (told : Bool) : List (Bool × Str × Str × VO) :=
  [(!decide (j.copies = 1) || told, cX ++ tn j.copies, cX, .v (.int j.copies)), (!decide (j.layout = cOne), j.layout, cLay, .v (.str j.layout)),
   (j.colour.isSome, cCol ++ tn (j.colour.getD (1, 1)).1 ++ cDash ++ tn (j.colour.getD (1, 1)).2, cCol, .pair (j.colour.getD (1, 1)).1 (j.colour.getD (1, 1)).2),
   (!decide (j.paper = cPla) || told, cPap ++ j.paper, cPap, .v (.str j.paper)), (j.cover.isSome, cCov ++ j.cover.getD cPla, cCov, .v (.str (j.cover.getD cPla))), (j.staple, cSta, cSta, .v (.bl true))]
def Jb.words (j : Jb) (told : Bool) : List Str := ((j.ents told).filter (·.1)).map (·.2.1)
def Jb.afts (j : Jb) : List Str := j.after.map fun n => cAft ++ n
/-! ### what each word is worth -/
end My

namespace My
open PySem L2
open Blk (sg sg_inj sg_app)
def sorts : List Str := [cX, cLay, cCol, cPap, cCov, cSta]
def told (pages : Int) (M : List Str) : List (Str × VO) := M.map fun w => (sortOf w, valueOf w pages)
/-- the words behind the head, mixed: those of the sorts in any order, those after which it comes in theirs -/
structure Mix (ws as M : List Str) : Prop where
  perm : M.Perm (ws ++ as)
  afts : (M.filter fun w => Txt.startswith w cAft) = as
def Jb.head (j : Jb) : List Str := [j.name, j.asker, tn j.pages]
end My

namespace My
open PySem L2
open Blk (sg sg_inj sg_app)
/-! ### what stands for a word's worth on the heap -/
def HoldsV (H : Hp) (x : V) : VO → Prop
  | .v y => x = y
  | .pair a b => ∃ p, x = .ref p ∧ H p = some (.tup [.int a, .int b])
theorem HoldsV.same {H H' : Hp} {x : V} {o : VO} (h : HoldsV H x o) (e : Same H H') : HoldsV H' x o := by
  cases o with
  | v y => exact h
  | pair a b => obtain ⟨p, h1, h2⟩ := h; exact ⟨p, h1, e _ _ h2⟩
theorem HoldsV.upd {H : Hp} {x : V} {o : VO} {D : Addr} {kvs : List (Key × V)} {u : HO} (h : HoldsV H x o) (hD : H D = some (.dK kvs)) : HoldsV (L2.upd H D u) x o := by
  cases o with
  | v y => exact h
  | pair a b =>
    obtain ⟨p, h1, h2⟩ := h
    exact ⟨p, h1, by rw [upd_ne (ne_of h2 hD (by intro z; cases z))]; exact h2⟩
/-- the dict of what was told -/
def TR (H : Hp) (q : Key × V) (p : Str × VO) : Prop := q.1 = Sum.inr p.1 ∧ HoldsV H q.2 p.2
structure Told (H : Hp) (D : Addr) (kvs : List (Key × V)) (t : List (Str × VO)) : Prop where
  at_ : H D = some (.dK kvs)
  rel : Paired (TR H) kvs t
  nd : (t.map (·.1)).Nodup
theorem Told.look {H : Hp} {D : Addr} {kvs : List (Key × V)} {t : List (Str × VO)} (T : Told H D kvs t) (k : Str) : match valV kvs (Sum.inr k : Key), toldV t k with | some x, some o => HoldsV H x o | none, none => True | _, _ => False := by
  have key : ∀ {kvs : List (Key × V)} {t : List (Str × VO)}, Paired (TR H) kvs t → match valV kvs (Sum.inr k : Key), toldV t k with | some x, some o => HoldsV H x o | none, none => True | _, _ => False := by
    intro kvs t r
    induction r with
    | nil => trivial
    | @cons q p kvs t h r ih =>
      obtain ⟨h1, h2⟩ := h
      by_cases e : p.1 = k
      · rw [valV_pos (by rw [h1, e])]
        unfold toldV
        rw [List.find?_cons_of_pos (h := by exact decide_eq_true e)]
        exact h2
      · rw [valV_neg (by rw [h1]; intro z; injection z with z; exact e z)]
        unfold toldV
        rw [List.find?_cons_of_neg (h := by rw [decide_eq_false e]; decide)]
        exact ih
  exact key T.rel
theorem Told.has {H : Hp} {D : Addr} {kvs : List (Key × V)} {t : List (Str × VO)} (T : Told H D kvs t) (k : Str) : (valV kvs (Sum.inr k : Key)).isSome = decide (k ∈ t.map (·.1)) := by
  have q := T.look k
  cases e2 : toldV t k with
  | none =>
    have nm : k ∉ t.map (·.1) := fun m => by
      obtain ⟨p, hp, rfl⟩ := List.mem_map.mp m
      unfold toldV at e2
      rw [Option.map_eq_none_iff] at e2
      have := List.find?_eq_none.mp e2 p hp
      exact this (decide_eq_true rfl)
    rw [decide_eq_false nm]
    cases e1 : valV kvs (Sum.inr k : Key) with
    | none => rfl
    | some x => rw [e1, e2] at q; exact q.elim
  | some o =>
    have m : k ∈ t.map (·.1) := by
      unfold toldV at e2
      obtain ⟨p, hp, _⟩ := Option.map_eq_some_iff.mp e2
      exact List.mem_map.mpr ⟨p, List.mem_of_find?_eq_some hp, by have q := List.find?_some hp; exact of_decide_eq_true q⟩
    rw [decide_eq_true m]
    cases e1 : valV kvs (Sum.inr k : Key) with
    | none => rw [e1, e2] at q; exact q.elim
    | some x => rfl
theorem Told.same {H H' : Hp} {D : Addr} {kvs : List (Key × V)} {t : List (Str × VO)} (T : Told H D kvs t) (e : Same H H') : Told H' D kvs t := ⟨e _ _ T.at_, Paired.mapP T.rel fun _ _ h => ⟨h.1, h.2.same e⟩, T.nd⟩
theorem paired_snoc {α β : Type} {R : α → β → Prop} : ∀ {xs : List α} {ys : List β} {x : α} {y : β}, Paired R xs ys → R x y → Paired R (xs ++ [x]) (ys ++ [y])
  | _, _, _, _, .nil, h => .cons h .nil
  | _, _, _, _, .cons a b, h => .cons a (paired_snoc b h)
theorem Told.put {H : Hp} {D : Addr} {kvs : List (Key × V)} {t : List (Str × VO)} (T : Told H D kvs t) {k : Str} {x : V} {o : VO} (hx : HoldsV H x o) (hn : valV kvs (Sum.inr k : Key) = none) :
    Told (upd H D (.dK (putK kvs (Sum.inr k) x))) D (kvs ++ [(Sum.inr k, x)]) (t ++ [(k, o)]) := by
  have hk : k ∉ t.map (·.1) := fun m => by
    have q := T.has k
    rw [hn, decide_eq_true m] at q
    cases q
  refine ⟨?_, ?_, by rw [List.map_append]; exact nd_snoc T.nd hk⟩
  · rw [upd_same, putK_new x hn]
  · exact paired_snoc (Paired.mapP T.rel fun _ _ h => ⟨h.1, h.2.upd T.at_⟩) ⟨rfl, hx.upd T.at_⟩
theorem Told.keys {H : Hp} {kvs : List (Key × V)} {t : List (Str × VO)} (r : Paired (TR H) kvs t) : kvs.map (·.1) = (t.map (·.1)).map Sum.inr := by
  induction r with
  | nil => rfl
  | cons h r ih => rw [List.map_cons, List.map_cons, List.map_cons, ih, h.1]
def luV (kvs : List (Key × V)) : V → V
  | .str s => (valV kvs (Sum.inr s : Key)).getD .non
  | _ => .non
def afterP : V → Bool
  | .str x => Txt.startswith x cAft
  | _ => false
theorem Told.after {H : Hp} {D : Addr} {kvs : List (Key × V)} {t : List (Str × VO)} (T : Told H D kvs t) (g : V → V) (hg : ∀ q ∈ kvs, g (kV q.1) = q.2) :
    Paired (fun a o => HoldsV H a o) (((kvs.map fun p => kV p.1).filter afterP).map g) ((t.filter fun p => Txt.startswith p.1 cAft).map (·.2)) := by
  rw [List.filter_map, List.map_map]
  have e : (kvs.filter (afterP ∘ fun p => kV p.1)).map (g ∘ fun p => kV p.1) = (kvs.filter (afterP ∘ fun p => kV p.1)).map (·.2) := List.map_congr_left fun q hq => hg q (List.mem_filter.mp hq).1
  rw [e]
  clear e hg
  have key : ∀ {kvs : List (Key × V)} {t : List (Str × VO)}, Paired (TR H) kvs t → Paired (fun a o => HoldsV H a o) ((kvs.filter (afterP ∘ fun p => kV p.1)).map (·.2)) ((t.filter fun p => Txt.startswith p.1 cAft).map (·.2)) := by
    intro kvs t r
    induction r with
    | nil => exact .nil
    | @cons q p kvs t h r ih =>
      obtain ⟨h1, h2⟩ := h
      have e1 : (afterP ∘ fun p : Key × V => kV p.1) q = Txt.startswith p.1 cAft := by
        show afterP (kV q.1) = _
        rw [h1]
        rfl
      cases hs : Txt.startswith p.1 cAft with
      | true =>
        rw [List.filter_cons_of_pos (by rw [e1, hs]), List.filter_cons_of_pos (by exact hs)]
        exact .cons h2 ih
      | false =>
        rw [List.filter_cons_of_neg (by rw [e1, hs]; decide), List.filter_cons_of_neg (by rw [hs]; decide)]
        exact ih
  exact key T.rel
theorem Told.len {H : Hp} {D : Addr} {kvs : List (Key × V)} {t : List (Str × VO)} (T : Told H D kvs t) : kvs.length = t.length := Paired.length T.rel
/-! ### a job on the heap -/
def jobF (a b c d e f g h i j : V) : List (Str × V) := [("name", a), ("asker", b), ("pages", c), ("copies", d), ("layout", e), ("paper", f), ("cover", g), ("colour", h), ("staple", i), ("after", j)]
structure JobAt (C : Addr) (H : Hp) (x : Addr) (f : JF) : Prop where
  ex : ∃ (dx pa : Addr) (d e p g h i : V) (as : List V), H x = some (.ins C dx (jobF (.str f.name) (.str f.asker) (.int f.pages) d e p g h i (.ref pa))) ∧ HoldsV H d f.copies ∧ HoldsV H e f.layout ∧ HoldsV H p f.paper ∧ HoldsV H g f.cover ∧ HoldsV H h f.colour ∧ HoldsV H i f.staple ∧
    H pa = some (.tup as) ∧ Paired (fun a o => HoldsV H a o) as f.after
theorem JobAt.same {C : Addr} {H H' : Hp} {x : Addr} {f : JF} (J : JobAt C H x f) (e : Same H H') : JobAt C H' x f := by
  obtain ⟨dx, pa, v1, v2, v3, v4, v5, v6, as, h0, h1, h2, h3, h4, h5, h6, h7, h8⟩ := J.ex
  exact ⟨dx, pa, v1, v2, v3, v4, v5, v6, as, e _ _ h0, h1.same e, h2.same e, h3.same e, h4.same e, h5.same e, h6.same e, e _ _ h7, Paired.mapP h8 fun _ _ h => h.same e⟩
end My

namespace My
open PySem L2
open Blk (sg sg_inj sg_app)
/-! ### names that differ at one place -/
def nmC (f r : Nat) (size place l : Nat) : List Nat := (f :: List.replicate (size - 1) r).set place l
def nm (f r : Nat) (size place l : Nat) : Str := ⟨(nmC f r size place l).toArray⟩
def ltr (s : Nat) (j : Nat) : Nat := 97 + (s + 5 * j) % 26
def nms (f r size place s : Nat) (m : Nat) : List Str := (List.range m).map fun j => nm f r size place (ltr s j)
structure NamesOk (ns : List Str) (m : Nat) : Prop where
  len : ns.length = m
  good : ∀ z ∈ ns, good z = true
  nd : ns.Nodup
def six : List Str := [Str.ofString "x2", Str.ofString "staple", Str.ofString "both", Str.ofString "up2", Str.ofString "plain", Str.ofString "after"]
def one (c : Nat) : Str := ⟨#[c]⟩
/-! ### the values that are due, on the heap -/
def optV : Option Str → V
  | some z => .str z
  | none => .non
structure Due (H : Hp) (t : Addr) (j : Jb) : Prop where
  ex : ∃ (vc : V) (pa : Addr), H t = some (.tup [.str j.name, .str j.asker, .int j.pages, .int j.copies, .str j.layout, .str j.paper, optV j.cover, vc, .bl j.staple, .ref pa]) ∧ HoldsV H vc j.jf.colour ∧ H pa = some (.tup (j.after.map V.str))
theorem Due.same {H H' : Hp} {t : Addr} {j : Jb} (D : Due H t j) (e : Same H H') : Due H' t j := by
  obtain ⟨vc, pa, h1, h2, h3⟩ := D.ex
  exact ⟨vc, pa, e _ _ h1, h2.same e, e _ _ h3⟩
end My

namespace My
open PySem L2
open Blk (sg sg_inj sg_app)
/-! ### words put in at drawn places -/
theorem ins_perm {α : Type} (M : List α) (i : Nat) (y : α) : (M.take i ++ y :: M.drop i).Perm (M ++ [y]) := by
  have a : (M.take i ++ y :: M.drop i).Perm (y :: (M.take i ++ M.drop i)) := List.perm_middle
  rw [List.take_append_drop] at a
  exact a.trans (List.perm_append_singleton y M).symm
structure Mid (ws as : List Str) (A : Nat) (M : List Str) : Prop where
  perm : M.Perm (ws ++ as)
  le : A ≤ M.length
  pre : ((M.take A).filter fun w => Txt.startswith w cAft) = as
  post : ((M.drop A).filter fun w => Txt.startswith w cAft) = []
theorem Mid.start {ws M : List Str} (p : M.Perm ws) (h : ∀ w ∈ ws, Txt.startswith w cAft = false) : Mid ws [] 0 M := by
  refine ⟨by rw [List.append_nil]; exact p, Nat.zero_le _, by simp, ?_⟩
  rw [List.drop_zero]
  exact List.filter_eq_nil_iff.mpr fun w hw => by rw [h w (p.mem_iff.mp hw)]; decide
theorem Mid.put {ws as M : List Str} {A B : Nat} {y : Str} (m : Mid ws as A M) (h1 : A ≤ B) (h2 : B ≤ M.length) (hy : Txt.startswith y cAft = true) : Mid ws (as ++ [y]) (B + 1) (M.take B ++ y :: M.drop B) := by
  have hl : (M.take B).length = B := by rw [List.length_take]; omega
  refine ⟨?_, ?_, ?_, ?_⟩
  · exact (ins_perm M B y).trans (by rw [← List.append_assoc]; exact m.perm.append_right [y])
  · rw [List.length_append, List.length_cons, hl, List.length_drop]
    omega
  · have e : (M.take B ++ y :: M.drop B).take (B + 1) = M.take B ++ [y] := by
      rw [List.take_append, hl, List.take_of_length_le (by omega), show B + 1 - B = 1 by omega]
      rfl
    rw [e, List.filter_append]
    have e2 : ((M.take B).filter fun w => Txt.startswith w cAft) = as := by
      have e3 : M.take B = M.take A ++ (M.drop A).take (B - A) := by
        rw [← List.take_append_drop A (M.take B), List.take_take, Nat.min_eq_left h1, List.drop_take]
      rw [e3, List.filter_append, m.pre]
      have e4 : (((M.drop A).take (B - A)).filter fun w => Txt.startswith w cAft) = [] := by
        refine List.filter_eq_nil_iff.mpr fun w hw => ?_
        exact List.filter_eq_nil_iff.mp m.post w (List.mem_of_mem_take hw)
      rw [e4, List.append_nil]
    rw [e2]
    simp [hy]
  · have e : (M.take B ++ y :: M.drop B).drop (B + 1) = M.drop B := by
      rw [List.drop_append, hl, List.drop_of_length_le (by omega), show B + 1 - B = 1 by omega]
      rfl
    rw [e]
    refine List.filter_eq_nil_iff.mpr fun w hw => ?_
    have : w ∈ M.drop A := by
      have e3 : M.drop B = (M.drop A).drop (B - A) := by rw [List.drop_drop]; congr 1; omega
      rw [e3] at hw
      exact List.mem_of_mem_drop hw
    exact List.filter_eq_nil_iff.mp m.post w this
theorem Mid.done {ws as M : List Str} {A : Nat} (m : Mid ws as A M) : Mix ws as M := by
  refine ⟨m.perm, ?_⟩
  rw [← List.take_append_drop A M, List.filter_append, m.pre, m.post, List.append_nil]
end My

namespace My
open PySem L2
def top (i : Nat) : Stmt := PySem.Challenge.pw_spoolhall_k40_levels.main.body.getD i (.Pass ⟨0, 0, 0, 0⟩)
abbrev s_grown : Stmt := top 2
abbrev s_lifted : Stmt := top 3
abbrev s_first_of : Stmt := top 4
abbrev s__law_cell_at : Stmt := top 6
abbrev s__law_mix : Stmt := top 7
abbrev s__law_word : Stmt := top 8
abbrev s__law_is : Stmt := top 9
abbrev s__law_names : Stmt := top 10
abbrev s__law_rows : Stmt := top 11
abbrev s__law_before : Stmt := top 12
abbrev s_law : Stmt := top 13
structure Txt (K : PySem.W.Frag) (mg : Str → Option Value) (tP_first_of : Addr) : Prop where
  len : mg "len" = none
  range : mg "range" = none
  int : mg "int" = none
  bool : mg "bool" = none
  list : mg "list" = none
  isinstance : mg "isinstance" = none
  min : mg "min" = none
  max : mg "max" = none
  COMMON : GI mg "COMMON" (2520)
end My

seal L2.PE L2.PS L2.PSs L2.PT L2.PW L2.PA L2.PI L2.PG L2.PGs L2.PSet L2.PIfs L2.PO L2.PK L2.CallR L2.OpR L2.IxR L2.SlR L2.UnR
namespace My
open PySem L2
open Blk (sg sg_inj sg_app)
section
variable {P : Program} {w : World} {K : PySem.W.Frag} {mg : Str → Option Value} {base : Heap}
/-- the script stands at a -/
structure Scr (K : PySem.W.Frag) (H : Hp) (a : Addr) : Prop where
  ex : ∃ ns : List Int, SqL K H a (ns.map V.int) ∧ ns.length ≤ 63
theorem Scr.same {K : PySem.W.Frag} {H H' : Hp} {a : Addr} (s : Scr K H a) (e : Same H H') : Scr K H' a := by
  obtain ⟨ns, h, l⟩ := s.ex
  exact ⟨ns, e.seq h, l⟩

end
end My

namespace My
open PySem L2
open Blk (sg sg_inj sg_app)
section
variable {P : Program} {w : World} {K : PySem.W.Frag} {mg : Str → Option Value} {base : Heap}
/-! ### levels -/
def sp_grown (_K : PySem.W.Frag) : Sp := fun vs H Q _ => ∃ l c s : Int, vs = [.int l, .int c, .int s] ∧ 0 < s ∧ s ≤ 1000 ∧ Q (.int (l + c * (2520 / s))) H
theorem sc_grown : FnScope ["level", "cost", "share"] ["level", "cost", "share"] (defScope s_grown) := ⟨rfl, rfl, rfl, by decide +kernel, rfl, by decide +kernel, by decide +kernel⟩
theorem ok_grown {fa tP_first_of : Addr} {fd : FuncData} (F : Fun K "grown" "grown" s_grown fa fd) (T : Txt K mg tP_first_of)  :
    FnOk P w K mg base CX0 1 fa fd ["level", "cost", "share"] (sp_grown K) := by
  refine F.ok sc_grown (fun vs H Q E h => ?_) (fun cdv A outer s H vs Q E hr h => ?_)
  · obtain ⟨l, c, s, rfl, _⟩ := h
    rfl
  obtain ⟨l, c, s, rfl, s0, s1, q⟩ := h
  refine ⟨_, (pss_one (ps_ret (pe_op op_add (pv 0) (pe_op op_mul (pv 1) (pe_op op_fdiv (pe_gi T.COMMON rfl) (pv 2)))))), ?_⟩
  have a := Int.ediv_nonneg (show (0 : Int) ≤ 2520 by decide) (Int.le_of_lt s0)
  have b := Int.ediv_le_self s (show (0 : Int) ≤ 2520 by decide)
  exact ⟨_, rfl, _, rfl, _, rfl, _, _, rfl, rfl, ⟨by omega, by omega⟩, _, _, rfl, rfl, .inr ⟨by omega, by omega⟩, _, _, rfl, rfl, q⟩
def sp_lifted (_K : PySem.W.Frag) : Sp := fun vs H Q _ => ∃ l m : Int, vs = [.int l, .int m] ∧ Q (.int (max l m)) H
theorem sc_lifted : FnScope ["level", "mark"] ["level", "mark"] (defScope s_lifted) := ⟨rfl, rfl, rfl, by decide +kernel, rfl, by decide +kernel, by decide +kernel⟩
theorem ok_lifted {fa tP_first_of : Addr} {fd : FuncData} (F : Fun K "lifted" "lifted" s_lifted fa fd) (T : Txt K mg tP_first_of)  :
    FnOk P w K mg base CX0 1 fa fd ["level", "mark"] (sp_lifted K) := by
  refine F.ok sc_lifted (fun vs H Q E h => ?_) (fun cdv A outer s H vs Q E hr h => ?_)
  · obtain ⟨l, m, rfl, _⟩ := h
    rfl
  obtain ⟨l, m, rfl, q⟩ := h
  refine ⟨_, (pss_one (ps_ret (pe_callB (call_max2 rfl) rfl T.max bt_max (pa_cons (pv 0) (pa_cons (pv 1) pa_nil))))), ?_⟩
  refine ⟨_, rfl, _, rfl, _, _, rfl, ?_⟩
  rw [show (if m > l then m else l) = max l m by rw [Int.max_def]; split <;> split <;> omega]
  exact q
abbrev LRow := Addr × Int × Int × Str
def lrV (r : LRow) : List V := [.int r.2.1, .int r.2.2.1, .str r.2.2.2]
def lrK (r : LRow) : List V := [.int (-r.2.1), .int r.2.2.1, .str r.2.2.2]
structure LRowsAt (H : Hp) (a : Addr) (rs : List LRow) : Prop where
  l : H a = some (.lst (rs.map fun r => .ref r.1))
  t : ∀ r ∈ rs, H r.1 = some (.tup (lrV r))
def lmPos : Pos := match defBody s_first_of with
  | [_, .Return (some (.Call _ _ [⟨_, .Lambda _ _ _ p, _⟩] _)) _] => p
  | _ => ⟨0, 0, 0, 0⟩
abbrev lmQual : Str := (Str.ofString "first_of" ++ ".<locals>.") ++ "<lambda>"
abbrev LTab (H : Hp) (tP : Addr) : Prop := TabOk H tP lmPos lmQual
def rowD (rs : List LRow) (i : Nat) : LRow := rs.getD i (0, 0, 0, Str.ofString "")
def sp_first_of (tP : Addr) : Sp := fun vs H Q _ => ∃ (a : Addr) (rs : List LRow), vs = [.ref a] ∧ LRowsAt H a rs ∧ 0 < rs.length ∧ rs.length ≤ 300 ∧ LTab H tP ∧ ∀ (H' : Hp), SameP tP H H' → LTab H' tP → Q (.int ((argBest (fun i j => lexV (lrK (rowD rs i)) (lrK (rowD rs j))) (rs.length - 1) : Nat) : Int)) H'
theorem sc_first_of : FnScope ["rows", "places"] ["rows"] (defScope s_first_of) := ⟨rfl, rfl, rfl, by decide +kernel, rfl, by decide +kernel, by decide +kernel⟩
theorem ok_first_of {fa cL tP_first_of : Addr} {fd : FuncData} (F : Fun K "first_of" "first_of" s_first_of fa fd) (T : Txt K mg tP_first_of) (hL : fd.code = .ref cL) (hC : PySem.W.codeHdIn K cL tP_first_of = true) (BM : BMain base mg)  :
    FnOk P w K mg base CX0 2 fa fd ["rows"] (sp_first_of tP_first_of) := by
  refine F.okL hL sc_first_of (fun vs H Q E h => ?_) (fun A outer s H vs Q E hr h => ?_)
  · obtain ⟨a, rs, rfl, _⟩ := h
    rfl
  obtain ⟨a, rs, rfl, R, l0, l1, ht, q⟩ := h
  refine ⟨_, (pss_cons (ps_set (i := 1) sc_first_of.nd rfl (by first | exact Or.inl rfl | exact Or.inr rfl) (pe_listRange1 rfl rfl T.list rfl T.range (pa_cons (pe_callB call_len_seq rfl T.len PySem.boot_len (pa_cons (pv 0) pa_nil)) pa_nil)))
  (pss_one (ps_ret (pe_minlam (x := "place") (y := "rows") (iy := 0) hr rfl T.min (pa_cons (pv 1) pa_nil) (LamScope.mk2 (by first | exact .inl rfl | exact .inr rfl) (by decide +kernel) rfl rfl rfl) rfl rfl BM rfl hC rfl rfl (fun _ _ _ _ => rfl) (fun _ _ _ _ _ _ => by exact (pe_tup (pa_cons (pe_un un_neg (pe_ixK (K := K) (r := rIxT) rfl ix_tup (pe_ixK (K := K) (r := rIxLA) rfl ix_listA (pv 1) (pv 0) (fun _ _ => rfl)) pe_int (fun _ _ => rfl))) (pa_cons (pe_ixK (K := K) (r := rIxT) rfl ix_tup (pe_ixK (K := K) (r := rIxLA) rfl ix_listA (pv 1) (pv 0) (fun _ _ => rfl)) pe_int (fun _ _ => rfl)) (pa_cons (pe_ixK (K := K) (r := rIxT) rfl ix_tup (pe_ixK (K := K) (r := rIxLA) rfl ix_listA (pv 1) (pv 0) (fun _ _ => rfl)) pe_int (fun _ _ => rfl)) pa_nil))))))))), ?_⟩
  obtain ⟨tps, htp⟩ := ht.is
  have ll : (rs.map fun r => V.ref r.1).length = rs.length := List.length_map _
  refine ⟨_, rfl, a, _, rfl, .inl (SqL.of R.l), _, rfl, ⟨by omega, by omega⟩, small (by omega), by omega, fun l nl => ?_⟩
  have s1 := same_new nl (.lst (rngV 0 ((rs.map fun r => V.ref r.1).length : Int).toNat))
  have hl1 : upd H l (.lst (rngV 0 ((rs.map fun r => V.ref r.1).length : Int).toNat)) l = some (.lst (rngV 0 ((rs.map fun r => V.ref r.1).length : Int).toNat)) := upd_same
  generalize upd H l (.lst (rngV 0 ((rs.map fun r => V.ref r.1).length : Int).toNat)) = H1 at s1 hl1 ⊢
  have lr : (rngV 0 ((rs.map fun r => V.ref r.1).length : Int).toNat).length = rs.length := by unfold rngV; rw [List.length_map, List.length_range]; omega
  have at' : ∀ (i : Nat) x, (rngV 0 ((rs.map fun r => V.ref r.1).length : Int).toNat)[i]? = some x → x = .int (i : Int) ∧ i < rs.length := fun i x h => by
    have li := (List.getElem?_eq_some_iff.mp h).1
    rw [lr] at li
    unfold rngV at h
    rw [List.getElem?_map, List.getElem?_range (by omega)] at h
    refine ⟨?_, li⟩
    rw [← Option.some.inj h]
    show V.int (0 + (i : Int)) = V.int (i : Int)
    rw [Int.zero_add]
  refine ⟨_, rfl, l, _, .ref a, fun i => lrK (rowD rs i), rfl, SqL.of hl1, by rw [lr]; exact l0, rfl, ht.same s1, fun i j _ _ => ⟨rfl, rfl, fun n hn => ?_⟩, fun H2 s2 i x hx => ?_, fun H' v s2 t2 hv => ?_⟩
  · match n, hn with
    | 0, _ => exact .inl ⟨_, _, rfl, rfl⟩
    | 1, _ => exact .inl ⟨_, _, rfl, rfl⟩
    | 2, _ => exact .inr ⟨_, _, rfl, rfl⟩
  · obtain ⟨rfl, li⟩ := at' i x hx
    have k2 : ∀ b o, H b = some o → o ≠ .tbl tps → H2 b = some o := fun b o e n => s2 _ _ (ne_of e htp n) (s1 _ _ e)
    have hR2 := k2 _ _ R.l (by intro z; cases z)
    obtain ⟨r, er⟩ : ∃ r, rs[i]? = some r := ⟨_, List.getElem?_eq_getElem li⟩
    have hr2 := k2 _ _ (R.t r (List.mem_of_getElem? er)) (by intro z; cases z)
    have ev : (rs.map fun r => V.ref r.1)[i]? = some (.ref r.1) := by rw [List.getElem?_map, er]; rfl
    have one : ∀ v, (rs.map fun r => V.ref r.1)[((i : Nat) : Int).toNat]? = some v → v = .ref r.1 := fun v hv => by
      rw [Int.toNat_natCast, ev] at hv
      exact (Option.some.inj hv).symm
    have er' : rowD rs i = r := by unfold rowD; rw [List.getD_eq_getElem?_getD, er]; rfl
    refine ⟨_, rfl, _, rfl, a, _, _, rfl, rfl, SqL.of hR2, by omega, by omega, fun v hv => ?_⟩
    obtain rfl := one v hv
    refine ⟨r.1, _, 0, _, rfl, rfl, SqT.of hr2, rfl, _, rfl, _, rfl, _, rfl, a, _, _, rfl, rfl, SqL.of hR2, by omega, by omega, fun v hv => ?_⟩
    obtain rfl := one v hv
    refine ⟨r.1, _, 1, _, rfl, rfl, SqT.of hr2, rfl, _, rfl, _, rfl, a, _, _, rfl, rfl, SqL.of hR2, by omega, by omega, fun v hv => ?_⟩
    obtain rfl := one v hv
    refine ⟨r.1, _, 2, _, rfl, rfl, SqT.of hr2, rfl, small (by show 3 ≤ 1000; decide), fun p np => ?_⟩
    exact ⟨p, rfl, same_new np _, by show _ = some (HO.tup (lrK (rowD rs i))); rw [er']; exact upd_same⟩
  · obtain ⟨rfl, _⟩ := at' _ v hv
    rw [lr]
    exact q H' (s1.p.trans s2) t2

end
end My

namespace My
open PySem L2
open Blk (sg sg_inj sg_app)
section
variable {P : Program} {w : World} {K : PySem.W.Frag} {mg : Str → Option Value} {base : Heap}
def sp__law_cell_at (K : PySem.W.Frag) : Sp := fun vs H Q _ => ∃ (a : Addr) (k : Int) (ns : List Int), vs = [.ref a, .int k] ∧ SqL K H a (ns.map V.int) ∧ 0 ≤ k ∧ Q (.int (ns.getD k.toNat 0)) H
theorem sc__law_cell_at : FnScope ["_law_script", "_law_k"] ["_law_script", "_law_k"] (defScope s__law_cell_at) := ⟨rfl, rfl, rfl, by decide +kernel, rfl, by decide +kernel, by decide +kernel⟩
theorem ok__law_cell_at {fa tP_first_of : Addr} {fd : FuncData} (F : Fun K "_law_cell_at" "_law_cell_at" s__law_cell_at fa fd) (T : Txt K mg tP_first_of)  :
    FnOk P w K mg base CX0 1 fa fd ["_law_script", "_law_k"] (sp__law_cell_at K) := by
  refine F.ok sc__law_cell_at (fun vs H Q E h => ?_) (fun cdv A outer s H vs Q E hr h => ?_)
  · obtain ⟨a, k, ns, rfl, _⟩ := h
    rfl
  obtain ⟨a, k, ns, rfl, hS, k0, q⟩ := h
  refine ⟨_, (pss_cons (ps_if (pt_cmpR op_lt (pv 1) (pe_callB call_len_seq rfl T.len PySem.boot_len (pa_cons (pv 0) pa_nil)) (nomark _)) (pss_one (ps_ret (pe_ix ix_listA (pv 0) (pv 1) (fun _ _ => rfl)))) pss_nil)
  (pss_one (ps_ret pe_int))), ?_⟩
  refine ⟨_, rfl, _, rfl, a, _, rfl, .inl hS, _, _, rfl, rfl, _, rfl, ?_⟩
  refine ite2 (fun c => ?_) (fun c => ?_)
  · refine ⟨_, rfl, _, rfl, a, _, _, rfl, rfl, hS, k0, of_decide_eq_true c, fun v hv => ?_⟩
    rw [List.getElem?_map] at hv
    obtain ⟨z, ez, rfl⟩ := Option.map_eq_some_iff.mp hv
    rw [List.getD_eq_getElem?_getD, ez] at q
    exact q
  · have c' : ¬ k < ((ns.map V.int).length : Int) := fun z => c (decide_eq_true z)
    rw [List.length_map] at c'
    rw [List.getD_eq_getElem?_getD, List.getElem?_eq_none (by omega)] at q
    exact q
def mixV (c k m : Int) : Int := ((c % 1000003 + 1) * (k * k + 48271)) % (([65537, 64007, 62003] : List Int).getD (k % 3).toNat 1) % m
def sp__law_mix (K : PySem.W.Frag) : Sp := fun vs H Q _ => ∃ c k m : Int, vs = [.int c, .int k, .int m] ∧ 0 ≤ k ∧ k ≤ 10000 ∧ 0 < m ∧ ∀ H', Same H H' → Q (.int (mixV c k m)) H'
theorem sc__law_mix : FnScope ["_law_cell", "_law_k", "_law_many"] ["_law_cell", "_law_k", "_law_many"] (defScope s__law_mix) := ⟨rfl, rfl, rfl, by decide +kernel, rfl, by decide +kernel, by decide +kernel⟩
theorem ok__law_mix {fa tP_first_of : Addr} {fd : FuncData} (F : Fun K "_law_mix" "_law_mix" s__law_mix fa fd) (T : Txt K mg tP_first_of)  :
    FnOk P w K mg base CX0 1 fa fd ["_law_cell", "_law_k", "_law_many"] (sp__law_mix K) := by
  refine F.ok sc__law_mix (fun vs H Q E h => ?_) (fun cdv A outer s H vs Q E hr h => ?_)
  · obtain ⟨c, k, m, rfl, _⟩ := h
    rfl
  obtain ⟨c, k, m, rfl, k0, k1, m0, q⟩ := h
  have z3 : 3 ≤ sizeLine := small (by decide)
  refine ⟨_, (pss_one (ps_ret (pe_op op_mod (pe_op op_mod (pe_op op_mul (pe_op op_add (pe_op op_mod (pv 0) pe_int) pe_int) (pe_op op_add (pe_op op_mul (pv 1) (pv 1)) pe_int)) (pe_ix ix_listA (pe_lst (pa_cons pe_int (pa_cons pe_int (pa_cons pe_int pa_nil)))) (pe_op op_mod (pv 1) pe_int) (fun _ _ => rfl))) (pv 2)))), ?_⟩
  have b0 := Int.emod_nonneg c (show (1000003 : Int) ≠ 0 by decide)
  have b1 := Int.emod_lt_of_pos c (show (0 : Int) < 1000003 by decide)
  have d0 := Int.emod_nonneg k (show (3 : Int) ≠ 0 by decide)
  have d1 := Int.emod_lt_of_pos k (show (0 : Int) < 3 by decide)
  refine ⟨_, rfl, _, _, rfl, rfl, (by show (0 : Int) < 1000003; decide), _, _, rfl, rfl, _, rfl, _, rfl, _, _, rfl, rfl, .inr ⟨by omega, by omega⟩, _, _, rfl, rfl, _, _, rfl, rfl, .inl ⟨by omega, by omega⟩, z3, fun p np => ?_⟩
  have s1 := same_new np (.lst [V.int 65537, V.int 64007, V.int 62003])
  have h1 : upd H p (.lst [V.int 65537, V.int 64007, V.int 62003]) p = some (.lst (([65537, 64007, 62003] : List Int).map V.int)) := upd_same
  generalize upd H p (.lst [V.int 65537, V.int 64007, V.int 62003]) = H1 at s1 h1 ⊢
  refine ⟨_, rfl, _, _, rfl, rfl, (by show (0 : Int) < 3; decide), p, _, _, rfl, rfl, SqL.of h1, d0, (by show k % 3 < 3; exact d1), fun v hv => ?_⟩
  rw [List.getElem?_map] at hv
  obtain ⟨d, ed, rfl⟩ := Option.map_eq_some_iff.mp hv
  have hd : 0 < d := by
    have hm := List.mem_of_getElem? ed
    simp only [List.mem_cons, List.not_mem_nil, or_false] at hm
    rcases hm with rfl | rfl | rfl <;> decide
  have eg : ([65537, 64007, 62003] : List Int).getD (k % 3).toNat 1 = d := by rw [List.getD_eq_getElem?_getD, ed]; rfl
  refine ⟨_, _, rfl, rfl, hd, _, rfl, _, _, rfl, rfl, m0, ?_⟩
  have := q H1 s1
  unfold mixV at this
  rw [eg] at this
  exact this
abbrev abc : Str := Str.ofString "abcdefghijklmnopqrstuvwxyz"
def ltr5 (j : Nat) : Nat := abc.cps.toList.getD j 0
def stp (c t : Int) (k : Nat) : Int := c / 12 + (k : Int) * (k : Int) + (if (k : Int) = c / 144 % (1 + c % 12) then t else 0)
def wordL (c t : Int) (n : Nat) : List Nat := (List.range n).map fun k => ltr5 (stp c t k % 26).toNat
def wordP (c t : Int) (n : Nat) : Str := ⟨(wordL c t n).toArray⟩
theorem word_step {c t : Int} {i : Nat} {S : Int} {ch : Nat} (e : S = stp c t i) (h : abc.cps.toList[(S % 26).toNat]? = some ch) : wordP c t i ++ (⟨#[ch]⟩ : Str) = wordP c t (i + 1) := by
  refine Blk.sg_inj ?_
  rw [Blk.sg_app]
  show wordL c t i ++ [ch] = wordL c t (i + 1)
  unfold wordL
  rw [List.range_succ, List.map_append]
  have : ltr5 (stp c t i % 26).toNat = ch := by
    unfold ltr5
    rw [List.getD_eq_getElem?_getD, ← e, h]
    rfl
  rw [List.map_cons, List.map_nil, this]
theorem word_len {c t : Int} {n : Nat} : (wordP c t n).length = n := by
  show (wordL c t n).toArray.size = n
  unfold wordL
  rw [List.size_toArray, List.length_map, List.length_range]
def wSize (c : Int) : Nat := (1 + c % 12).toNat
theorem ltr5_inj : ∀ a b : Nat, a < 26 → b < 26 → ltr5 a = ltr5 b → a = b := by
  have h : ∀ a : Fin 26, ∀ b : Fin 26, ltr5 a.1 = ltr5 b.1 → a = b := by decide +kernel
  intro a b ha hb e
  exact congrArg Fin.val (h ⟨a, ha⟩ ⟨b, hb⟩ e)
theorem word_ne {c t u : Int} (t0 : 0 ≤ t) (t1 : t < 26) (u0 : 0 ≤ u) (u1 : u < 26) (e : wordP c t (wSize c) = wordP c u (wSize c)) : t = u := by
  have m0 := Int.emod_nonneg c (show (12 : Int) ≠ 0 by decide)
  have m1 := Int.emod_lt_of_pos c (show (0 : Int) < 12 by decide)
  have ez : ((wSize c : Nat) : Int) = 1 + c % 12 := by unfold wSize; omega
  have e2 : wordL c t (wSize c) = wordL c u (wSize c) := congrArg Blk.sg e
  have p0 := Int.emod_nonneg (c / 144) (show (1 + c % 12 : Int) ≠ 0 by omega)
  have p1 := Int.emod_lt_of_pos (c / 144) (show (0 : Int) < 1 + c % 12 by omega)
  obtain ⟨p, hp⟩ : ∃ p : Nat, (p : Int) = c / 144 % (1 + c % 12) := ⟨(c / 144 % (1 + c % 12)).toNat, by omega⟩
  have hk : p < wSize c := by omega
  have e3 : (wordL c t (wSize c))[p]? = (wordL c u (wSize c))[p]? := by rw [e2]
  unfold wordL at e3
  rw [List.getElem?_map, List.getElem?_map, List.getElem?_range hk] at e3
  have e4 := Option.some.inj e3
  have a0 := Int.emod_nonneg (stp c t p) (show (26 : Int) ≠ 0 by decide)
  have a1 := Int.emod_lt_of_pos (stp c t p) (show (0 : Int) < 26 by decide)
  have b0 := Int.emod_nonneg (stp c u p) (show (26 : Int) ≠ 0 by decide)
  have b1 := Int.emod_lt_of_pos (stp c u p) (show (0 : Int) < 26 by decide)
  have h1 := ltr5_inj _ _ (by omega) (by omega) e4
  have h2 : stp c t p % 26 = stp c u p % 26 := by omega
  unfold stp at h2
  rw [if_pos hp, if_pos hp] at h2
  generalize c / 12 + (p : Int) * (p : Int) = X at h2
  omega
def sp__law_word (K : PySem.W.Frag) : Sp := fun vs H Q _ => ∃ c t : Int, vs = [.int c, .int t] ∧ Q (.str (wordP c t (wSize c))) H
theorem sc__law_word : FnScope ["_law_cell", "_law_turn", "_law_letters", "_law_size", "_law_word_here", "_law_k", "_law_step"] ["_law_cell", "_law_turn"] (defScope s__law_word) := ⟨rfl, rfl, rfl, by decide +kernel, rfl, by decide +kernel, by decide +kernel⟩
theorem ok__law_word {fa tP_first_of : Addr} {fd : FuncData} (F : Fun K "_law_word" "_law_word" s__law_word fa fd) (T : Txt K mg tP_first_of)  :
    FnOk P w K mg base CX0 1 fa fd ["_law_cell", "_law_turn"] (sp__law_word K) := by
  refine F.ok sc__law_word (fun vs H Q E h => ?_) (fun cdv A outer s H vs Q E hr h => ?_)
  · obtain ⟨c, t, rfl, _⟩ := h
    rfl
  obtain ⟨c, t, rfl, q⟩ := h
  refine ⟨_, (pss_cons (ps_set (i := 2) sc__law_word.nd rfl (by first | exact Or.inl rfl | exact Or.inr rfl) pe_str)
  (pss_cons (ps_set (i := 3) sc__law_word.nd rfl (by first | exact Or.inl rfl | exact Or.inr rfl) (pe_op op_add pe_int (pe_op op_mod (pv 0) pe_int)))
  (pss_cons (ps_set (i := 4) sc__law_word.nd rfl (by first | exact Or.inl rfl | exact Or.inr rfl) pe_str)
  (pss_cons (ps_for PassesOwn.never rfl (pi_range1 rfl T.range (pa_cons (pv 3) pa_nil)) (pg_name (i := 5) sc__law_word.nd rfl (by first | exact Or.inl rfl | exact Or.inr rfl))
  (pss_cons (ps_set (i := 6) sc__law_word.nd rfl (by first | exact Or.inl rfl | exact Or.inr rfl) (pe_op op_add (pe_op op_fdiv (pv 0) pe_int) (pe_op op_mul (pv 5) (pv 5))))
  (pss_cons (ps_if (pt_cmpR op_eq (pv 5) (pe_op op_mod (pe_op op_fdiv (pv 0) pe_int) (pv 3)) (nomark _)) (pss_one (ps_set (i := 6) sc__law_word.nd rfl (by first | exact Or.inl rfl | exact Or.inr rfl) (pe_op op_add (pv 6) (pv 1)))) pss_nil)
  (pss_one (ps_set (i := 4) sc__law_word.nd rfl (by first | exact Or.inl rfl | exact Or.inr rfl) (pe_op op_add_str (pv 4) (pe_ix ix_strA (pv 2) (pe_op op_mod (pv 6) pe_int) (fun _ _ => rfl))))))))
  (pss_one (ps_ret (pv 4))))))), ?_⟩
  have m0 := Int.emod_nonneg c (show (12 : Int) ≠ 0 by decide)
  have m1 := Int.emod_lt_of_pos c (show (0 : Int) < 12 by decide)
  have l26 : abc.length = 26 := by decide +kernel
  refine ⟨_, rfl, _, _, rfl, rfl, (by show (0 : Int) < 12; decide), _, _, rfl, rfl, ?_⟩
  refine ⟨_, rfl, _, rfl, by omega, by omega, for_range (lo := 0) (n := (1 + c % 12).toNat) (fun i σ H' => H' = H ∧ ∃ (v5 v6 : Option V), σ = [some (.int c), some (.int t), some (.str abc), some (.int (1 + c % 12)), some (.str (wordP c t i)), v5, v6]) ⟨rfl, _, _, rfl⟩ (fun i σ H' hi z => ?_) (fun σ H' z => ?_)⟩
  · obtain ⟨rfl, v5, v6, rfl⟩ := z
    rw [Int.zero_add]
    refine ⟨_, rfl, _, _, rfl, rfl, ⟨by decide, by decide⟩, _, rfl, _, rfl, _, _, rfl, rfl, .inl ⟨by omega, by omega⟩, _, _, rfl, rfl, ?_⟩
    refine ⟨_, rfl, _, rfl, _, _, rfl, rfl, ⟨by decide, by decide⟩, _, rfl, _, _, rfl, rfl, (by show (0 : Int) < 1 + c % 12; omega), rfl, _, rfl, ?_⟩
    have one : ∀ ch : Nat, (⟨#[ch]⟩ : Str).length = 1 := fun _ => rfl
    have un : ∀ {a b : Int}, decide (V.int a = V.int b) = true → a = b := fun h => by
      have := of_decide_eq_true h
      injection this
    have nu : ∀ {a b : Int}, ¬ decide (V.int a = V.int b) = true → ¬ a = b := fun h e => h (decide_eq_true (by rw [e]))
    refine ite2 (fun c1 => ⟨_, rfl, _, rfl, _, _, rfl, rfl, ?_⟩) (fun c1 => ?_)
    all_goals
      refine ⟨_, rfl, _, rfl, _, rfl, _, _, rfl, rfl, (by show (0 : Int) < 26; decide), _, _, rfl, rfl, (by rw [l26]; exact small (by decide)), Int.emod_nonneg _ (by decide), (by rw [l26]; exact Int.emod_lt_of_pos _ (by decide)), fun ch hch => ?_⟩
      refine ⟨_, _, rfl, rfl, (by rw [one, word_len]; exact small (by omega)), ?_⟩
    · rw [word_step (i := i) (by unfold stp; rw [if_pos (un c1)]) hch]
      exact ⟨rfl, _, _, rfl⟩
    · rw [word_step (i := i) (by unfold stp; rw [if_neg (nu c1), Int.add_zero]) hch]
      exact ⟨rfl, _, _, rfl⟩
  · obtain ⟨rfl, v5, v6, rfl⟩ := z
    exact ⟨_, rfl, q⟩

end
end My

namespace My
open PySem L2
open Blk (sg sg_inj sg_app)
section
variable {P : Program} {w : World} {K : PySem.W.Frag} {mg : Str → Option Value} {base : Heap}
theorem slice_to40 (x : Str) (n : Nat) : sg (Txt.slice x none (some ((n : Nat) : Int))) = (sg x).take n := by
  have h := PyProof.Rows.slice_to_min_closes (x := x) (n := ((n : Nat) : Int)) (m := if ((x.length : Nat) : Int) < ((n : Nat) : Int) then ((x.length : Nat) : Int) else ((n : Nat) : Int)) (by omega) rfl
  have e := eq_of_beq h
  rw [e]
  show ((sg x).drop (Int.toNat 0)).take _ = _
  rw [show Int.toNat 0 = 0 from rfl, List.drop_zero]
  by_cases c : ((x.length : Nat) : Int) < ((n : Nat) : Int)
  · rw [if_pos c, List.take_of_length_le (by rw [sg_len]; omega), List.take_of_length_le (by rw [sg_len]; omega)]
  · rw [if_neg c]
    congr 1
/-! ### which row goes first -/
def Bef (r r' : LRow) : Prop := r'.2.1 < r.2.1 ∨ (r.2.1 = r'.2.1 ∧ (r.2.2.1 < r'.2.2.1 ∨ (r.2.2.1 = r'.2.2.1 ∧ r.2.2.2.cps.toList < r'.2.2.2.cps.toList)))
theorem lex_bef {r r' : LRow} : lexV (lrK r) (lrK r') = true ↔ Bef r r' := by
  have h : lexV (lrK r) (lrK r') = if (-r.2.1 == -r'.2.1) = true then (if (r.2.2.1 == r'.2.2.1) = true then (if (r.2.2.2 == r'.2.2.2) = true then false else decide (r.2.2.2.cps.toList < r'.2.2.2.cps.toList)) else decide (r.2.2.1 < r'.2.2.1)) else decide (-r.2.1 < -r'.2.1) := rfl
  rw [h]
  unfold Bef
  by_cases c1 : r.2.1 = r'.2.1
  · rw [if_pos (beq_iff_eq.mpr (by omega))]
    by_cases c2 : r.2.2.1 = r'.2.2.1
    · rw [if_pos (beq_iff_eq.mpr c2)]
      by_cases c3 : r.2.2.2 = r'.2.2.2
      · rw [if_pos (beq_iff_eq.mpr c3)]
        constructor
        · intro z; cases z
        · rintro (z | ⟨_, z | ⟨_, z⟩⟩)
          · omega
          · omega
          · rw [c3] at z; exact absurd z (List.lt_irrefl _)
      · rw [if_neg (fun z => c3 (beq_iff_eq.mp z)), decide_eq_true_iff]
        constructor
        · intro z; exact .inr ⟨c1, .inr ⟨c2, z⟩⟩
        · rintro (z | ⟨_, z | ⟨_, z⟩⟩)
          · omega
          · omega
          · exact z
    · rw [if_neg (fun z => c2 (beq_iff_eq.mp z)), decide_eq_true_iff]
      constructor
      · intro z; exact .inr ⟨c1, .inl z⟩
      · rintro (z | ⟨_, z | ⟨z, _⟩⟩)
        · omega
        · exact z
        · exact absurd z c2
  · rw [if_neg (fun z => c1 (by have := beq_iff_eq.mp z; omega)), decide_eq_true_iff]
    constructor
    · intro z; exact .inl (by omega)
    · rintro (z | ⟨z, _⟩)
      · omega
      · exact absurd z c1
theorem Bef.trans {a b c : LRow} (h1 : Bef a b) (h2 : Bef b c) : Bef a c := by
  unfold Bef at *
  rcases h1 with h1 | ⟨e1, h1⟩
  · rcases h2 with h2 | ⟨e2, _⟩
    · exact .inl (by omega)
    · exact .inl (by omega)
  · rcases h2 with h2 | ⟨e2, h2⟩
    · exact .inl (by omega)
    · refine .inr ⟨by omega, ?_⟩
      rcases h1 with h1 | ⟨e3, h1⟩
      · rcases h2 with h2 | ⟨e4, _⟩
        · exact .inl (by omega)
        · exact .inl (by omega)
      · rcases h2 with h2 | ⟨e4, h2⟩
        · exact .inl (by omega)
        · exact .inr ⟨by omega, List.lt_trans h1 h2⟩
theorem Bef.tri {a b : LRow} (ne : a.2.2.2 ≠ b.2.2.2) (h : ¬ Bef a b) : Bef b a := by
  unfold Bef at *
  rcases Int.lt_trichotomy a.2.1 b.2.1 with z | z | z
  · exact .inl z
  · refine .inr ⟨z.symm, ?_⟩
    rcases Int.lt_trichotomy a.2.2.1 b.2.2.1 with y | y | y
    · exact absurd (.inr ⟨z, .inl y⟩) h
    · refine .inr ⟨y.symm, ?_⟩
      by_cases c : b.2.2.2.cps.toList < a.2.2.2.cps.toList
      · exact c
      · have c' : ¬ a.2.2.2.cps.toList < b.2.2.2.cps.toList := fun w => h (.inr ⟨z, .inr ⟨y, w⟩⟩)
        exact absurd (Blk.sg_inj (List.le_antisymm (List.not_lt.mp c) (List.not_lt.mp c'))) ne
    · exact .inl y
  · exact absurd (.inl z) h
theorem arg_best {rs : List LRow} (nd : ∀ i j, i < rs.length → j < rs.length → i ≠ j → (rowD rs i).2.2.2 ≠ (rowD rs j).2.2.2) : ∀ k, k < rs.length → argBest (fun i j => lexV (lrK (rowD rs i)) (lrK (rowD rs j))) k ≤ k ∧ ∀ j, j ≤ k → j ≠ argBest (fun i j => lexV (lrK (rowD rs i)) (lrK (rowD rs j))) k → Bef (rowD rs (argBest (fun i j => lexV (lrK (rowD rs i)) (lrK (rowD rs j))) k)) (rowD rs j)
  | 0, _ => ⟨Nat.le_refl _, fun j hj nj => absurd (show j = 0 by omega) nj⟩
  | k + 1, hk => by
    obtain ⟨h1, h2⟩ := arg_best nd k (by omega)
    generalize hb : argBest (fun i j => lexV (lrK (rowD rs i)) (lrK (rowD rs j))) k = b at h1 h2
    have step : argBest (fun i j => lexV (lrK (rowD rs i)) (lrK (rowD rs j))) (k + 1) = if lexV (lrK (rowD rs (k + 1))) (lrK (rowD rs b)) then k + 1 else b := by rw [← hb]; rfl
    rw [step]
    by_cases c : lexV (lrK (rowD rs (k + 1))) (lrK (rowD rs b)) = true
    · rw [if_pos c]
      have c' := lex_bef.mp c
      refine ⟨Nat.le_refl _, fun j hj nj => ?_⟩
      by_cases e : j = b
      · rw [e]; exact c'
      · exact c'.trans (h2 j (by omega) e)
    · rw [if_neg c]
      have c' : ¬ Bef (rowD rs (k + 1)) (rowD rs b) := fun z => c (lex_bef.mpr z)
      refine ⟨by omega, fun j hj nj => ?_⟩
      by_cases e : j = k + 1
      · rw [e]; exact Bef.tri (nd (k + 1) b hk (by omega) (by omega)) c'
      · exact h2 j (by omega) nj
def sp__law_is (_K : PySem.W.Frag) : Sp := fun vs H Q _ => ∃ a b : Int, vs = [.int a, .int b] ∧ Q (.bl (decide (V.int a = V.int b))) H
theorem sc__law_is : FnScope ["_law_num", "_law_due"] ["_law_num", "_law_due"] (defScope s__law_is) := ⟨rfl, rfl, rfl, by decide +kernel, rfl, by decide +kernel, by decide +kernel⟩
theorem ok__law_is {fa tP_first_of : Addr} {fd : FuncData} (F : Fun K "_law_is" "_law_is" s__law_is fa fd) (T : Txt K mg tP_first_of)  :
    FnOk P w K mg base CX0 1 fa fd ["_law_num", "_law_due"] (sp__law_is K) := by
  refine F.ok sc__law_is (fun vs H Q E h => ?_) (fun cdv A outer s H vs Q E hr h => ?_)
  · obtain ⟨a, b, rfl, _⟩ := h
    rfl
  obtain ⟨a, b, rfl, q⟩ := h
  refine ⟨_, (pss_one (ps_ret (pe_and (pe_callB call_isi rfl T.isinstance bt_isi (pa_cons (pv 0) (pa_cons (pe_bltn rfl T.int bt_int (rel_ty _)) pa_nil))) (pe_and (pe_not (pe_callB call_isi rfl T.isinstance bt_isi (pa_cons (pv 0) (pa_cons (pe_bltn rfl T.bool bt_bool (rel_ty _)) pa_nil)))) (pe_one (pe_cmpR op_eq (pv 0) (pv 1) (nomark _))))))), ?_⟩
  refine ⟨_, rfl, _, _, _, true, rfl, TyOf.int _, kit_same _, true, rfl, iteT ?_⟩
  refine ⟨_, rfl, _, _, _, false, rfl, TyOf.int _, kit_int_bool _, _, rfl, true, rfl, iteT ?_⟩
  exact ⟨_, rfl, _, rfl, rfl, q⟩
/-! ### names, all unlike -/
def NmA (ns : List Str) : Prop := ∀ (j : Nat) z, ns[j]? = some z → z.length = 12 - j
def NmB (c : Int) (ns : List Str) : Prop := ∀ (j : Nat) z, ns[j]? = some z → (sg z).take (wSize c) = sg (wordP c (j : Int) (wSize c))
theorem nm_ne {c : Int} {ns : List Str} (h : NmA ns ∨ NmB c ns) (l : ns.length ≤ 12) {i j : Nat} {z : Str} (hi : ns[i]? = some z) (hj : ns[j]? = some z) : i = j := by
  have li := (List.getElem?_eq_some_iff.mp hi).1
  have lj := (List.getElem?_eq_some_iff.mp hj).1
  rcases h with h | h
  · have a := h i z hi
    have b := h j z hj
    omega
  · have a := h i z hi
    have b := h j z hj
    rw [a] at b
    have e := word_ne (c := c) (t := (i : Int)) (u := (j : Int)) (by omega) (by omega) (by omega) (by omega) (Blk.sg_inj b)
    omega
def sp__law_names (K : PySem.W.Frag) : Sp := fun vs H Q _ => ∃ (a : Addr) (m : Nat), vs = [.ref a, .int (m : Int)] ∧ Scr K H a ∧ m ≤ 12 ∧ ∀ (p : Addr) (ns : List Str) (c : Int) (H' : Hp), Same H H' → H' p = some (.lst (ns.map V.str)) → ns.length = m → (NmA ns ∨ NmB c ns) → Q (.ref p) H'
theorem sc__law_names : FnScope ["_law_script", "_law_many", "_law_long", "_law_names_here", "_law_k", "_law_word_here"] ["_law_script", "_law_many"] (defScope s__law_names) := ⟨rfl, rfl, rfl, by decide +kernel, rfl, by decide +kernel, by decide +kernel⟩
theorem ok__law_names {fa tP_first_of : Addr} {fd : FuncData} (F : Fun K "_law_names" "_law_names" s__law_names fa fd) (T : Txt K mg tP_first_of) (D__law_word : Dfn P w K mg base 1 "_law_word" ["_law_cell", "_law_turn"] (sp__law_word K)) (D__law_cell_at : Dfn P w K mg base 1 "_law_cell_at" ["_law_script", "_law_k"] (sp__law_cell_at K)) :
    FnOk P w K mg base CX0 2 fa fd ["_law_script", "_law_many"] (sp__law_names K) := by
  refine F.ok sc__law_names (fun vs H Q E h => ?_) (fun cdv A outer s H vs Q E hr h => ?_)
  · obtain ⟨a, m, rfl, _⟩ := h
    rfl
  obtain ⟨a, m, rfl, ⟨ns0, hS, h63⟩, m1, q⟩ := h
  refine ⟨_, (pss_cons (ps_set (i := 2) sc__law_names.nd rfl (by first | exact Or.inl rfl | exact Or.inr rfl) pe_str)
  (pss_cons (ps_set (i := 3) sc__law_names.nd rfl (by first | exact Or.inl rfl | exact Or.inr rfl) (pe_lst pa_nil))
  (pss_cons (ps_for PassesOwn.never rfl (pi_range1 rfl T.range (pa_cons (pv 1) pa_nil)) (pg_name (i := 4) sc__law_names.nd rfl (by first | exact Or.inl rfl | exact Or.inr rfl))
  (pss_one (ps_if (pt_cmpR op_eq (pe_op op_mod (pe_callD D__law_cell_at (hr.mono (by decide)) rfl (pa_cons (pv 0) (pa_cons pe_int pa_nil))) pe_int) pe_int (nomark _)) (pss_one (ps_expr (pe_bm PySem.F.plainAttrs_list PySem.F.slot_list_append PySem.F.type_list_append mt_append (pv 3) (pa_cons (pe_slice sl_str (pv 2) po_none (po_some (pe_op op_sub pe_int (pv 4)))) pa_nil)))) (pss_cons (ps_set (i := 5) sc__law_names.nd rfl (by first | exact Or.inl rfl | exact Or.inr rfl) (pe_callD D__law_word (hr.mono (by decide)) rfl (pa_cons (pe_callD D__law_cell_at (hr.mono (by decide)) rfl (pa_cons (pv 0) (pa_cons pe_int pa_nil))) (pa_cons (pv 4) pa_nil))))
  (pss_one (ps_expr (pe_bm PySem.F.plainAttrs_list PySem.F.slot_list_append PySem.F.type_list_append mt_append (pv 3) (pa_cons (pe_slice sl_str (pe_op op_add_str (pv 5) (pe_op op_mul_str pe_str (pe_op op_mod (pv 4) pe_int))) po_none (po_some pe_int)) pa_nil))))))))
  (pss_one (ps_ret (pv 3)))))), ?_⟩
  refine ⟨Nat.zero_le _, fun p np => ?_⟩
  have s2 := same_new np (.lst [])
  refine ⟨_, rfl, _, rfl, by omega, by omega, for_range (lo := 0) (n := (m : Int).toNat) (fun i σ G => Same H G ∧ ∃ (ns : List Str) (v4 v5 : Option V), G p = some (.lst (ns.map V.str)) ∧ ns.length = i ∧ σ = [some (.ref a), some (.int m), some (.str (Str.ofString "abcabcabcabc")), some (.ref p), v4, v5] ∧ if decide (V.int (ns0.getD 1 0 % 3) = V.int 1) = true then NmA ns else NmB (ns0.getD 2 0) ns) ⟨s2, [], _, _, upd_same, rfl, rfl, ?_⟩ (fun i σ G hi z => ?_) (fun σ G z => ?_)⟩
  · split
    · intro j z hj; cases hj
    · intro j z hj; cases hj
  · obtain ⟨sG, ns, v4, v5, hp, ln, rfl, nm⟩ := z
    have hS' := hS.same' sG
    have snoc : ∀ (y : Str) (j : Nat) z, (ns ++ [y])[j]? = some z → ns[j]? = some z ∨ (j = i ∧ z = y) := fun y j z h => by
      by_cases c : j < ns.length
      · rw [List.getElem?_append_left c] at h; exact .inl h
      · have l := (List.getElem?_eq_some_iff.mp h).1
        rw [List.length_append] at l
        have l' : j < ns.length + 1 := l
        rw [List.getElem?_append_right (by omega), show j - ns.length = 0 by omega] at h
        exact .inr ⟨by omega, (Option.some.inj h).symm⟩
    refine ⟨_, rfl, a, _, ns0, rfl, hS', by decide, _, _, rfl, rfl, (by show (0 : Int) < 3; decide), rfl, _, rfl, ite2 (fun c => ?_) (fun c => ?_)⟩
    · have c1 : decide (V.int (ns0.getD 1 0 % 3) = V.int 1) = true := c
      rw [if_pos c1] at nm
      refine ⟨_, rfl, .inl ⟨rfl, _, SqL.of hp⟩, _, rfl, _, rfl, _, _, rfl, rfl, _, rfl, _, rfl, small (by decide +kernel), ?_⟩
      have e12 : (12 : Int) - (0 + (i : Int)) = ((12 - i : Nat) : Int) := by omega
      have lz : (Txt.slice (Str.ofString "abcabcabcabc") none (some ((12 : Int) - (0 + (i : Int))))).length = 12 - i := by
        rw [e12, ← sg_len, slice_to40, List.length_take, sg_len, show (Str.ofString "abcabcabcabc").length = 12 by decide +kernel]
        omega
      refine ⟨p, _, _, rfl, rfl, hp, small1000 (by rw [List.length_map]; omega), ?_⟩
      refine ⟨same_on np sG _, ns ++ [Txt.slice (Str.ofString "abcabcabcabc") none (some ((12 : Int) - (0 + (i : Int))))], _, _, by rw [upd_same, List.map_append]; rfl, by rw [List.length_append, ln]; rfl, rfl, ?_⟩
      rw [if_pos c1]
      intro j z hj
      rcases snoc _ j z hj with h | ⟨rfl, rfl⟩
      · exact nm j z h
      · exact lz
    · have c1 : ¬ decide (V.int (ns0.getD 1 0 % 3) = V.int 1) = true := c
      rw [if_neg c1] at nm
      have w0 := Int.emod_nonneg (ns0.getD 2 0) (show (12 : Int) ≠ 0 by decide)
      have w1 := Int.emod_lt_of_pos (ns0.getD 2 0) (show (0 : Int) < 12 by decide)
      have wl : (wordP (ns0.getD 2 0) (0 + (i : Int)) (wSize (ns0.getD 2 0))).length = wSize (ns0.getD 2 0) := word_len
      have ws : wSize (ns0.getD 2 0) ≤ 12 := by unfold wSize; omega
      have m0 := Int.emod_nonneg (0 + (i : Int)) (show (2 : Int) ≠ 0 by decide)
      have m1' := Int.emod_lt_of_pos (0 + (i : Int)) (show (0 : Int) < 2 by decide)
      refine ⟨_, rfl, a, _, ns0, rfl, hS', by decide, _, rfl, _, _, rfl, ?_⟩
      refine ⟨_, rfl, .inl ⟨rfl, _, SqL.of hp⟩, _, rfl, _, rfl, _, _, rfl, rfl, (by show (0 : Int) < 2; decide), _, _, rfl, rfl, (by decide +kernel), m0, by omega, fun u hu' => ?_⟩
      have hu1 : u.length ≤ 1 := Nat.le_trans hu' (by rw [show (Str.ofString "b").length = 1 by decide +kernel]; omega)
      have lsum : (wordP (ns0.getD 2 0) (0 + (i : Int)) (wSize (ns0.getD 2 0))).length + u.length ≤ 1000 := by omega
      refine ⟨_, _, rfl, rfl, small lsum, _, rfl, ?_⟩
      refine ⟨_, rfl, small (Nat.le_trans (Nat.le_of_eq ?_) lsum), ?_⟩
      · rw [show ∀ x y : Str, (x ++ y).length = x.length + y.length from fun x y => by rw [← sg_len, Blk.sg_app, List.length_append, sg_len, sg_len]]
        rfl
      refine ⟨p, _, _, rfl, rfl, hp, small1000 (by rw [List.length_map]; omega), ?_⟩
      refine ⟨same_on np sG _, ns ++ [Txt.slice (wordP (ns0.getD 2 0) (0 + (i : Int)) (wSize (ns0.getD 2 0)) ++ u) none (some 12)], _, _, by rw [upd_same, List.map_append]; rfl, by rw [List.length_append, ln]; rfl, rfl, ?_⟩
      rw [if_neg c1]
      intro j z hj
      rcases snoc _ j z hj with h | ⟨rfl, rfl⟩
      · exact nm j z h
      · rw [show (12 : Int) = ((12 : Nat) : Int) from rfl, slice_to40, List.take_take, Nat.min_eq_left ws, Blk.sg_app, List.take_append_of_le_length (by rw [sg_len, wl]; exact Nat.le_refl _), List.take_of_length_le (by rw [sg_len, wl]; exact Nat.le_refl _), Int.zero_add]
  · obtain ⟨sG, ns, v4, v5, hp, ln, rfl, nm⟩ := z
    rw [Int.toNat_natCast] at ln
    refine ⟨_, rfl, q p ns (ns0.getD 2 0) G sG hp ln ?_⟩
    split at nm
    · exact .inl nm
    · exact .inr nm

end
end My

namespace My
open PySem L2
open Blk (sg sg_inj sg_app)
section
variable {P : Program} {w : World} {K : PySem.W.Frag} {mg : Str → Option Value} {base : Heap}
theorem pick3 {x y z : Int} {v : V} {j : Nat} (h : [V.int x, V.int y, V.int z][j]? = some v) (x0 : 0 < x) (y0 : 0 < y) (z0 : 0 < z) : ∃ d : Int, v = .int d ∧ 0 < d := by
  match j, h with
  | 0, h => exact ⟨x, (Option.some.inj h).symm, x0⟩
  | 1, h => exact ⟨y, (Option.some.inj h).symm, y0⟩
  | 2, h => exact ⟨z, (Option.some.inj h).symm, z0⟩
  | j + 3, h => cases h
def Unlike (rs : List LRow) : Prop := ∀ i j, i < rs.length → j < rs.length → i ≠ j → (rowD rs i).2.2.2 ≠ (rowD rs j).2.2.2
def sp__law_rows (K : PySem.W.Frag) : Sp := fun vs H Q _ => ∃ (a : Addr) (m : Nat), vs = [.ref a, .int (m : Int)] ∧ Scr K H a ∧ m ≤ 12 ∧ ∀ (p : Addr) (rs : List LRow) (H' : Hp), Same H H' → LRowsAt H' p rs → rs.length = m → Unlike rs → Q (.ref p) H'
theorem sc__law_rows : FnScope ["_law_script", "_law_many", "_law_names_here", "_law_ranks", "_law_levels", "_law_rows_here", "_law_k", "_law_cell"] ["_law_script", "_law_many"] (defScope s__law_rows) := ⟨rfl, rfl, rfl, by decide +kernel, rfl, by decide +kernel, by decide +kernel⟩
theorem ok__law_rows {fa tP_first_of : Addr} {fd : FuncData} (F : Fun K "_law_rows" "_law_rows" s__law_rows fa fd) (T : Txt K mg tP_first_of) (D__law_names : Dfn P w K mg base 2 "_law_names" ["_law_script", "_law_many"] (sp__law_names K)) (D__law_cell_at : Dfn P w K mg base 1 "_law_cell_at" ["_law_script", "_law_k"] (sp__law_cell_at K)) (D__law_mix : Dfn P w K mg base 1 "_law_mix" ["_law_cell", "_law_k", "_law_many"] (sp__law_mix K)) :
    FnOk P w K mg base CX0 3 fa fd ["_law_script", "_law_many"] (sp__law_rows K) := by
  refine F.ok sc__law_rows (fun vs H Q E h => ?_) (fun cdv A outer s H vs Q E hr h => ?_)
  · obtain ⟨a, m, rfl, _⟩ := h
    rfl
  obtain ⟨a, m, rfl, hS0, m1, q⟩ := h
  have hSc := hS0
  obtain ⟨ns0, hS, h63⟩ := hS0
  refine ⟨_, (pss_cons (ps_set (i := 2) sc__law_rows.nd rfl (by first | exact Or.inl rfl | exact Or.inr rfl) (pe_callD D__law_names (hr.mono (by decide)) rfl (pa_cons (pv 0) (pa_cons (pv 1) pa_nil))))
  (pss_cons (ps_set (i := 3) sc__law_rows.nd rfl (by first | exact Or.inl rfl | exact Or.inr rfl) (pe_ix ix_listA (pe_lst (pa_cons pe_int (pa_cons pe_int (pa_cons pe_int pa_nil)))) (pe_op op_mod (pe_callD D__law_cell_at (hr.mono (by decide)) rfl (pa_cons (pv 0) (pa_cons pe_int pa_nil))) pe_int) (fun _ _ => rfl)))
  (pss_cons (ps_set (i := 4) sc__law_rows.nd rfl (by first | exact Or.inl rfl | exact Or.inr rfl) (pe_ix ix_listA (pe_lst (pa_cons (pe_op op_pow pe_int pe_int) (pa_cons pe_int (pa_cons pe_int pa_nil)))) (pe_op op_mod (pe_callD D__law_cell_at (hr.mono (by decide)) rfl (pa_cons (pv 0) (pa_cons pe_int pa_nil))) pe_int) (fun _ _ => rfl)))
  (pss_cons (ps_set (i := 5) sc__law_rows.nd rfl (by first | exact Or.inl rfl | exact Or.inr rfl) (pe_lst pa_nil))
  (pss_cons (ps_for PassesOwn.never rfl (pi_range1 rfl T.range (pa_cons (pv 1) pa_nil)) (pg_name (i := 6) sc__law_rows.nd rfl (by first | exact Or.inl rfl | exact Or.inr rfl))
  (pss_cons (ps_set (i := 7) sc__law_rows.nd rfl (by first | exact Or.inl rfl | exact Or.inr rfl) (pe_callD D__law_cell_at (hr.mono (by decide)) rfl (pa_cons (pv 0) (pa_cons (pe_op op_add pe_int (pv 6)) pa_nil))))
  (pss_one (ps_expr (pe_bm PySem.F.plainAttrs_list PySem.F.slot_list_append PySem.F.type_list_append mt_append (pv 5) (pa_cons (pe_tup (pa_cons (pe_callD D__law_mix (hr.mono (by decide)) rfl (pa_cons (pv 7) (pa_cons (pv 6) (pa_cons (pv 3) pa_nil)))) (pa_cons (pe_op op_mod (pe_op op_add (pe_op op_fdiv (pv 7) pe_int) (pe_op op_mul (pv 6) (pv 6))) (pv 4)) (pa_cons (pe_ix ix_listA (pv 2) (pv 6) (fun _ _ => rfl)) pa_nil)))) pa_nil))))))
  (pss_one (ps_ret (pv 5)))))))), ?_⟩
  refine ⟨_, rfl, _, rfl, a, m, rfl, hSc, m1, fun np ns cc H1 s1 hn1 ln nm => ?_⟩
  have mod3 : ∀ x : Int, 0 ≤ x % 3 ∧ x % 3 < 3 := fun x => ⟨Int.emod_nonneg _ (by decide), Int.emod_lt_of_pos _ (by decide)⟩
  refine ⟨small (by show 3 ≤ 1000; decide), fun l1 nl1 => ?_⟩
  have s2 := same_new nl1 (.lst [V.int 10, V.int 2, V.int 2])
  have hl2 : upd H1 l1 (.lst [V.int 10, V.int 2, V.int 2]) l1 = some (.lst [V.int 10, V.int 2, V.int 2]) := upd_same
  generalize upd H1 l1 (.lst [V.int 10, V.int 2, V.int 2]) = H2 at s2 hl2 ⊢
  have s02 := s1.trans s2
  refine ⟨_, rfl, a, _, ns0, rfl, hS.same' s02, by decide, _, _, rfl, rfl, (by show (0 : Int) < 3; decide), l1, _, _, rfl, rfl, SqL.of hl2, (mod3 _).1, (mod3 _).2, fun rv hrv => ?_⟩
  obtain ⟨rk, rfl, rk0⟩ := pick3 hrv (by decide) (by decide) (by decide)
  refine ⟨_, _, rfl, rfl, ⟨by decide, by decide, by decide⟩, small (by show 3 ≤ 1000; decide), fun l3 nl3 => ?_⟩
  generalize hH3 : upd H2 l3 _ = H3
  have s3 : Same H2 H3 := by rw [← hH3]; exact same_new nl3 _
  have hl3 : H3 l3 = some (.lst [V.int (10 ^ 59), V.int 3, V.int 3]) := by rw [← hH3]; exact upd_same
  have s03 := s02.trans s3
  refine ⟨_, rfl, a, _, ns0, rfl, hS.same' s03, by decide, _, _, rfl, rfl, (by show (0 : Int) < 3; decide), l3, _, _, rfl, rfl, SqL.of hl3, (mod3 _).1, (mod3 _).2, fun lv hlv => ?_⟩
  obtain ⟨lm, rfl, lm0⟩ := pick3 hlv (by decide) (by decide) (by decide)
  refine ⟨Nat.zero_le _, fun p np' => ?_⟩
  have s4 := same_new np' (.lst [])
  refine ⟨_, rfl, _, rfl, by omega, by omega, for_range (lo := 0) (n := (m : Int).toNat) (fun i σ G => Same H3 G ∧ ∃ (rs : List LRow) (v6 v7 : Option V), LRowsAt G p rs ∧ rs.length = i ∧ σ = [some (.ref a), some (.int m), some (.ref np), some (.int rk), some (.int lm), some (.ref p), v6, v7] ∧ ∀ (j : Nat) r, rs[j]? = some r → ns[j]? = some r.2.2.2) ⟨s4, [], _, _, ⟨upd_same, fun r hr => (by cases hr)⟩, rfl, rfl, fun j r hj => (by cases hj)⟩ (fun i σ G hi z => ?_) (fun σ G z => ?_)⟩
  · obtain ⟨sG, rs, v6, v7, R, ln', rfl, nms⟩ := z
    have s0G := s03.trans sG
    have hnG := sG _ _ (s3 _ _ (s2 _ _ hn1))
    refine ⟨_, rfl, _, rfl, _, _, rfl, rfl, a, _, ns0, rfl, hS.same' s0G, by omega, ?_⟩
    refine ⟨_, rfl, .inl ⟨rfl, _, SqL.of R.l⟩, _, rfl, _, rfl, _, rfl, _, _, _, rfl, by omega, by omega, rk0, fun G1 k1 => ?_⟩
    have R1 := (⟨k1 _ _ R.l, fun r hr => k1 _ _ (R.t r hr)⟩ : LRowsAt G1 p rs)
    have hn2 := k1 _ _ hnG
    refine ⟨_, rfl, _, _, rfl, rfl, ⟨by decide, by decide⟩, _, rfl, _, rfl, _, _, rfl, rfl, .inl ⟨by omega, by omega⟩, _, _, rfl, rfl, _, rfl, _, _, rfl, rfl, lm0, _, rfl, _, rfl, np, _, _, rfl, rfl, SqL.of hn2, by omega, by rw [List.length_map]; omega, fun v hv => ?_⟩
    rw [List.getElem?_map, show (0 + (i : Int)).toNat = i by omega] at hv
    obtain ⟨z, ez, rfl⟩ := Option.map_eq_some_iff.mp hv
    refine ⟨small (by show 3 ≤ 1000; decide), fun u nu => ?_⟩
    generalize hG2 : upd G1 u _ = G2
    have k2 : Same G1 G2 := by rw [← hG2]; exact same_new nu _
    obtain ⟨x1, x2, hu2⟩ : ∃ x1 x2 : Int, G2 u = some (.tup [V.int x1, V.int x2, V.str z]) := ⟨_, _, by rw [← hG2]; exact upd_same⟩
    refine ⟨p, _, _, rfl, rfl, k2 _ _ R1.l, small1000 (by rw [List.length_map]; omega), ?_⟩
    have k3 : ∀ b o, b ≠ p → G2 b = some o → upd G2 p (.lst ((rs.map fun r => V.ref r.1) ++ [V.ref u])) b = some o := fun b o nb e => by rw [upd_ne nb]; exact e
    refine ⟨same_on np' (sG.trans (k1.trans k2)) _, rs ++ [(u, x1, x2, z)], _, _, ⟨by rw [upd_same, List.map_append]; rfl, fun r hr => ?_⟩, by rw [List.length_append, ln']; rfl, rfl, fun j r hj => ?_⟩
    · rcases List.mem_append.mp hr with hr | hr
      · have := k2 _ _ (R1.t r hr)
        exact k3 _ _ (ne_of this (k2 _ _ R1.l) (by intro z; cases z)) this
      · rw [List.mem_singleton.mp hr]
        exact k3 _ _ (ne_of hu2 (k2 _ _ R1.l) (by intro z; cases z)) hu2
    · by_cases c : j < rs.length
      · rw [List.getElem?_append_left c] at hj
        exact nms j r hj
      · have l := (List.getElem?_eq_some_iff.mp hj).1
        rw [List.length_append] at l
        have l' : j < rs.length + 1 := l
        rw [List.getElem?_append_right (by omega), show j - rs.length = 0 by omega] at hj
        obtain rfl := Option.some.inj hj
        rw [show j = i by omega]
        exact ez
  · obtain ⟨sG, rs, v6, v7, R, ln', rfl, nms⟩ := z
    rw [Int.toNat_natCast] at ln'
    refine ⟨_, rfl, q p rs G (s03.trans sG) R ln' fun i j hi hj ne e => ne ?_⟩
    have ex : ∀ i, i < rs.length → rs[i]? = some (rowD rs i) := fun i hi => by unfold rowD; rw [List.getD_eq_getElem?_getD, List.getElem?_eq_getElem hi]; rfl
    have a1 := nms i _ (ex i hi)
    have a2 := nms j _ (ex j hj)
    rw [← e] at a2
    exact nm_ne nm (by omega) a1 a2
def sp__law_before (_K : PySem.W.Frag) : Sp := fun vs H Q _ => ∃ r r' : LRow, vs = [.ref r.1, .ref r'.1] ∧ H r.1 = some (.tup (lrV r)) ∧ H r'.1 = some (.tup (lrV r')) ∧ Bef r r' ∧ Q (.bl true) H
theorem sc__law_before : FnScope ["_law_one", "_law_other"] ["_law_one", "_law_other"] (defScope s__law_before) := ⟨rfl, rfl, rfl, by decide +kernel, rfl, by decide +kernel, by decide +kernel⟩
theorem ok__law_before {fa tP_first_of : Addr} {fd : FuncData} (F : Fun K "_law_before" "_law_before" s__law_before fa fd) (T : Txt K mg tP_first_of)  :
    FnOk P w K mg base CX0 1 fa fd ["_law_one", "_law_other"] (sp__law_before K) := by
  refine F.ok sc__law_before (fun vs H Q E h => ?_) (fun cdv A outer s H vs Q E hr h => ?_)
  · obtain ⟨r, r', rfl, _⟩ := h
    rfl
  obtain ⟨r, r', rfl, h1, h2, b, q⟩ := h
  refine ⟨_, (pss_cons (ps_if (pt_cmpR op_ne (pe_ix ix_tup (pv 0) pe_int (fun _ _ => rfl)) (pe_ix ix_tup (pv 1) pe_int (fun _ _ => rfl)) (nomark _)) (pss_one (ps_ret (pe_cmpR op_gt (pe_ix ix_tup (pv 0) pe_int (fun _ _ => rfl)) (pe_ix ix_tup (pv 1) pe_int (fun _ _ => rfl)) (nomark _)))) pss_nil)
  (pss_cons (ps_if (pt_cmpR op_ne (pe_ix ix_tup (pv 0) pe_int (fun _ _ => rfl)) (pe_ix ix_tup (pv 1) pe_int (fun _ _ => rfl)) (nomark _)) (pss_one (ps_ret (pe_cmpR op_lt (pe_ix ix_tup (pv 0) pe_int (fun _ _ => rfl)) (pe_ix ix_tup (pv 1) pe_int (fun _ _ => rfl)) (nomark _)))) pss_nil)
  (pss_one (ps_ret (pe_cmpR op_lt_str (pe_ix ix_tup (pv 0) pe_int (fun _ _ => rfl)) (pe_ix ix_tup (pv 1) pe_int (fun _ _ => rfl)) (nomark _)))))), ?_⟩
  have T1 := SqT.of (K := K) h1
  have T2 := SqT.of (K := K) h2
  unfold Bef at b
  refine ⟨_, rfl, r.1, _, 0, _, rfl, rfl, T1, rfl, _, rfl, r'.1, _, 0, _, rfl, rfl, T2, rfl, rfl, _, rfl, ite2 (fun c => ?_) (fun c => ?_)⟩
  · refine ⟨_, rfl, r.1, _, 0, _, rfl, rfl, T1, rfl, _, rfl, r'.1, _, 0, _, rfl, rfl, T2, rfl, _, _, rfl, rfl, ?_⟩
    have lt : r'.2.1 < r.2.1 := by
      rcases b with b | ⟨b, _⟩
      · exact b
      · rw [b] at c; simp at c
    show Q (.bl (decide (r'.2.1 < r.2.1))) H
    rw [decide_eq_true lt]
    exact q
  have e1 : r.2.1 = r'.2.1 := by
    by_cases z : r.2.1 = r'.2.1
    · exact z
    · exact absurd (by simp [z]) c
  refine ⟨_, rfl, r.1, _, 1, _, rfl, rfl, T1, rfl, _, rfl, r'.1, _, 1, _, rfl, rfl, T2, rfl, rfl, _, rfl, ite2 (fun c => ?_) (fun c => ?_)⟩
  · refine ⟨_, rfl, r.1, _, 1, _, rfl, rfl, T1, rfl, _, rfl, r'.1, _, 1, _, rfl, rfl, T2, rfl, _, _, rfl, rfl, ?_⟩
    have lt : r.2.2.1 < r'.2.2.1 := by
      rcases b with b | ⟨_, b | ⟨b, _⟩⟩
      · omega
      · exact b
      · rw [b] at c; simp at c
    show Q (.bl (decide (r.2.2.1 < r'.2.2.1))) H
    rw [decide_eq_true lt]
    exact q
  have e2 : r.2.2.1 = r'.2.2.1 := by
    by_cases z : r.2.2.1 = r'.2.2.1
    · exact z
    · exact absurd (by simp [z]) c
  refine ⟨_, rfl, r.1, _, 2, _, rfl, rfl, T1, rfl, _, rfl, r'.1, _, 2, _, rfl, rfl, T2, rfl, ?_⟩
  have lt : r.2.2.2.cps.toList < r'.2.2.2.cps.toList := by
    rcases b with b | ⟨_, b | ⟨_, b⟩⟩
    · omega
    · omega
    · exact b
  refine ⟨_, _, rfl, rfl, ?_⟩
  show Q (.bl (decide (r.2.2.2.cps.toList < r'.2.2.2.cps.toList))) H
  rw [decide_eq_true lt]
  exact q
def sp_law (K : PySem.W.Frag) (tP : Addr) : Sp := fun vs H Q _ => ∃ a : Addr, vs = [.ref a] ∧ Scr K H a ∧ LTab H tP ∧ ∀ H', Q (.bl true) H'
theorem max_if (l m : Int) : (if m > l then m else l) = max l m := by rw [Int.max_def]; split <;> split <;> omega
theorem sc_law : FnScope ["_law_script", "_law_most", "_law_level", "_law_price", "_law_mark", "_law_share", "_law_rows_here", "_law_handed", "_law_place", "_law_k"] ["_law_script"] (defScope s_law) := ⟨rfl, rfl, rfl, by decide +kernel, rfl, by decide +kernel, by decide +kernel⟩
theorem ok_law {fa tP_first_of : Addr} {fd : FuncData} (F : Fun K "law" "law" s_law fa fd) (T : Txt K mg tP_first_of) (D__law_rows : Dfn P w K mg base 3 "_law_rows" ["_law_script", "_law_many"] (sp__law_rows K)) (D_first_of : Dfn P w K mg base 2 "first_of" ["rows"] (sp_first_of tP_first_of)) (D__law_cell_at : Dfn P w K mg base 1 "_law_cell_at" ["_law_script", "_law_k"] (sp__law_cell_at K)) (D__law_is : Dfn P w K mg base 1 "_law_is" ["_law_num", "_law_due"] (sp__law_is K)) (D_grown : Dfn P w K mg base 1 "grown" ["level", "cost", "share"] (sp_grown K)) (D_lifted : Dfn P w K mg base 1 "lifted" ["level", "mark"] (sp_lifted K)) (D__law_before : Dfn P w K mg base 1 "_law_before" ["_law_one", "_law_other"] (sp__law_before K)) :
    FnOk P w K mg base CX0 4 fa fd ["_law_script"] (sp_law K tP_first_of) := by
  refine F.ok sc_law (fun vs H Q E h => ?_) (fun cdv A outer s H vs Q E hr h => ?_)
  · obtain ⟨a, rfl, _⟩ := h
    rfl
  have hu := hu_n hr 0 (by decide)
  have hu1 := hu_n hr 1 (by decide)
  obtain ⟨a, rfl, hSc, ht, q⟩ := h
  obtain ⟨tps, htp⟩ := ht.is
  obtain ⟨ns0, hS, h63⟩ := id hSc
  refine ⟨_, (pss_cons (ps_set (i := 1) sc_law.nd rfl (by first | exact Or.inl rfl | exact Or.inr rfl) (pe_ix ix_listA (pe_lst (pa_cons (pe_op op_pow pe_int pe_int) (pa_cons (pe_op op_pow pe_int pe_int) (pa_cons pe_int pa_nil)))) (pe_op op_mod (pe_callD D__law_cell_at (hr.mono (by decide)) rfl (pa_cons (pv 0) (pa_cons pe_int pa_nil))) pe_int) (fun _ _ => rfl)))
  (pss_cons (ps_set (i := 2) sc_law.nd rfl (by first | exact Or.inl rfl | exact Or.inr rfl) (pe_op op_mod (pe_callD D__law_cell_at (hr.mono (by decide)) rfl (pa_cons (pv 0) (pa_cons pe_int pa_nil))) (pv 1)))
  (pss_cons (ps_set (i := 3) sc_law.nd rfl (by first | exact Or.inl rfl | exact Or.inr rfl) (pe_op op_add pe_int (pe_op op_mod (pe_callD D__law_cell_at (hr.mono (by decide)) rfl (pa_cons (pv 0) (pa_cons pe_int pa_nil))) (pv 1))))
  (pss_cons (ps_set (i := 4) sc_law.nd rfl (by first | exact Or.inl rfl | exact Or.inr rfl) (pe_op op_mod (pe_callD D__law_cell_at (hr.mono (by decide)) rfl (pa_cons (pv 0) (pa_cons pe_int pa_nil))) (pv 1)))
  (pss_cons (ps_set (i := 5) sc_law.nd rfl (by first | exact Or.inl rfl | exact Or.inr rfl) (pe_op op_add pe_int (pe_op op_mod (pe_callD D__law_cell_at (hr.mono (by decide)) rfl (pa_cons (pv 0) (pa_cons pe_int pa_nil))) pe_int)))
  (pss_cons (ps_if (pt_not (pt_truth (pe_callD D__law_is (hr.mono (by decide)) rfl (pa_cons (pe_callD D_grown (hr.mono (by decide)) rfl (pa_cons (pv 2) (pa_cons (pv 3) (pa_cons (pv 5) pa_nil)))) (pa_cons (pe_op op_add (pv 2) (pe_op op_mul (pv 3) (pe_op op_fdiv pe_int (pv 5)))) pa_nil))) (fun _ => rfl))) (pss_one (ps_ret pe_bl)) pss_nil)
  (pss_cons (ps_if (PW.pt (pw_or (pt_not (pt_truth (pe_callD D__law_is (hr.mono (by decide)) rfl (pa_cons (pe_callD D_lifted (hr.mono (by decide)) rfl (pa_cons (pv 2) (pa_cons (pv 4) pa_nil))) (pa_cons (pe_callB (call_max2 rfl) rfl T.max bt_max (pa_cons (pv 2) (pa_cons (pv 4) pa_nil))) pa_nil))) (fun _ => rfl))) (pw_or1 (pt_not (pt_truth (pe_callD D__law_is (hr.mono (by decide)) rfl (pa_cons (pe_callD D_lifted (hr.mono (by decide)) rfl (pa_cons (pv 4) (pa_cons (pv 2) pa_nil))) (pa_cons (pe_callB (call_max2 rfl) rfl T.max bt_max (pa_cons (pv 2) (pa_cons (pv 4) pa_nil))) pa_nil))) (fun _ => rfl)))))) (pss_one (ps_ret pe_bl)) pss_nil)
  (pss_cons (ps_set (i := 6) sc_law.nd rfl (by first | exact Or.inl rfl | exact Or.inr rfl) (pe_callD D__law_rows (hr.mono (by decide)) rfl (pa_cons (pv 0) (pa_cons (pe_op op_add pe_int (pe_op op_mod (pe_callD D__law_cell_at (hr.mono (by decide)) rfl (pa_cons (pv 0) (pa_cons pe_int pa_nil))) pe_int)) pa_nil))))
  (pss_cons (ps_set (i := 7) sc_law.nd rfl (by first | exact Or.inl rfl | exact Or.inr rfl) (pe_callTy call_list_of rfl T.list bt_list (pa_cons (pv 6) pa_nil)))
  (pss_cons (ps_set (i := 8) sc_law.nd rfl (by first | exact Or.inl rfl | exact Or.inr rfl) (pe_callD D_first_of (hr.mono (by decide)) rfl (pa_cons (pv 7) pa_nil)))
  (pss_cons (ps_if (PW.pt (pw_or (pt_not (pt_truth (pe_callB call_isi rfl T.isinstance bt_isi (pa_cons (pv 8) (pa_cons (pe_bltn rfl T.int bt_int (rel_ty _)) pa_nil))) (fun _ => rfl))) (pw_or (pt_truth (pe_callB call_isi rfl T.isinstance bt_isi (pa_cons (pv 8) (pa_cons (pe_bltn rfl T.bool bt_bool (rel_ty _)) pa_nil))) (fun _ => rfl)) (pw_or (pt_not (pt_chain op_le op_lt pe_int (pv 8) (pe_callB call_len_seq rfl T.len PySem.boot_len (pa_cons (pv 6) pa_nil)))) (pw_or1 (pt_cmpR (op_ne_dq (n := 1) hu1) (pv 7) (pv 6) (nomark _))))))) (pss_one (ps_ret pe_bl)) pss_nil)
  (pss_cons (ps_for PassesOwn.never rfl (pi_range1 rfl T.range (pa_cons (pe_callB call_len_seq rfl T.len PySem.boot_len (pa_cons (pv 6) pa_nil)) pa_nil)) (pg_name (i := 9) sc_law.nd rfl (by first | exact Or.inl rfl | exact Or.inr rfl))
  (pss_one (ps_if (PW.pt (pw_and (pt_cmpR op_ne (pv 9) (pv 8) (nomark _)) (pw_and1 (pt_not (pt_truth (pe_callD D__law_before (hr.mono (by decide)) rfl (pa_cons (pe_ix ix_listA (pv 6) (pv 8) (fun _ _ => rfl)) (pa_cons (pe_ix ix_listA (pv 6) (pv 9) (fun _ _ => rfl)) pa_nil))) (fun _ => rfl)))))) (pss_one (ps_ret pe_bl)) pss_nil)))
  (pss_one (ps_ret pe_bl)))))))))))))), ?_⟩
  have mod3 : ∀ x : Int, 0 ≤ x % 3 ∧ x % 3 < 3 := fun x => ⟨Int.emod_nonneg _ (by decide), Int.emod_lt_of_pos _ (by decide)⟩
  refine ⟨_, _, rfl, rfl, ⟨by decide, by decide, by decide⟩, _, _, rfl, rfl, ⟨by decide, by decide, by decide⟩, small (by show 3 ≤ 1000; decide), fun l1 nl1 => ?_⟩
  generalize hH1 : upd H l1 _ = H1
  have s1 : Same H H1 := by rw [← hH1]; exact same_new nl1 _
  have hl1 : H1 l1 = some (.lst [V.int (10 ^ 59), V.int (10 ^ 59), V.int 6]) := by rw [← hH1]; exact upd_same
  have hS1 := hS.same' s1
  refine ⟨_, rfl, a, _, ns0, rfl, hS1, by decide, _, _, rfl, rfl, (by show (0 : Int) < 3; decide), l1, _, _, rfl, rfl, SqL.of hl1, (mod3 _).1, (mod3 _).2, fun mv hmv => ?_⟩
  obtain ⟨mo, rfl, mo0⟩ := pick3 hmv (by decide) (by decide) (by decide)
  refine ⟨_, rfl, a, _, ns0, rfl, hS1, by decide, _, rfl, _, _, rfl, rfl, mo0, ?_⟩
  refine ⟨_, rfl, a, _, ns0, rfl, hS1, by decide, _, rfl, _, _, rfl, rfl, mo0, _, _, rfl, rfl, ?_⟩
  refine ⟨_, rfl, a, _, ns0, rfl, hS1, by decide, _, rfl, _, _, rfl, rfl, mo0, ?_⟩
  refine ⟨_, rfl, a, _, ns0, rfl, hS1, by decide, _, _, rfl, rfl, (by show (0 : Int) < 10; decide), _, _, rfl, rfl, ?_⟩
  have sh0 := Int.emod_nonneg (ns0.getD (Int.toNat 4) 0) (show (10 : Int) ≠ 0 by decide)
  have sh1 := Int.emod_lt_of_pos (ns0.getD (Int.toNat 4) 0) (show (0 : Int) < 10 by decide)
  have d0 := Int.ediv_nonneg (show (0 : Int) ≤ 2520 by decide) (show (0 : Int) ≤ 1 + ns0.getD (Int.toNat 4) 0 % 10 by omega)
  have d1 := Int.ediv_le_self (1 + ns0.getD (Int.toNat 4) 0 % 10) (show (0 : Int) ≤ 2520 by decide)
  refine ⟨_, rfl, _, rfl, _, rfl, _, _, 1 + ns0.getD (Int.toNat 4) 0 % 10, rfl, by omega, by omega, _, rfl, _, rfl, _, rfl, _, _, rfl, rfl, ⟨by omega, by omega⟩, _, _, rfl, rfl, .inr ⟨by omega, by omega⟩, _, _, rfl, rfl, _, _, rfl, ?_⟩
  refine ⟨_, rfl, ite2 (fun c => by simp at c) (fun _ => ?_)⟩
  have mm : ∀ l m : Int, ¬ (!decide (V.int (max l m) = V.int (if m > l then m else l))) = true := fun l m z => by rw [max_if] at z; simp at z
  have mm' : ∀ l m : Int, ¬ (!decide (V.int (max m l) = V.int (if m > l then m else l))) = true := fun l m z => by rw [max_if, Int.max_comm] at z; simp at z
  refine ⟨_, rfl, _, rfl, _, _, rfl, _, rfl, _, rfl, _, _, rfl, _, _, rfl, _, rfl, ite2 (fun c => absurd c (mm _ _)) (fun _ => ?_)⟩
  refine ⟨_, rfl, _, rfl, _, _, rfl, _, rfl, _, rfl, _, _, rfl, _, _, rfl, _, rfl, ite2 (fun c => absurd c (mm' _ _)) (fun _ => ?_)⟩
  have t0 := Int.emod_nonneg (ns0.getD (Int.toNat 0) 0) (show (12 : Int) ≠ 0 by decide)
  have t1 := Int.emod_lt_of_pos (ns0.getD (Int.toNat 0) 0) (show (0 : Int) < 12 by decide)
  refine ⟨_, rfl, _, rfl, a, _, ns0, rfl, hS1, by decide, _, _, rfl, rfl, (by show (0 : Int) < 12; decide), _, _, rfl, rfl, a, (1 + ns0.getD (Int.toNat 0) 0 % 12).toNat, by rw [Int.toNat_of_nonneg (by omega)]; rfl, hSc.same s1, by omega, fun p rs H2 s2 R2 lr ul => ?_⟩
  refine ⟨_, rfl, p, _, rfl, .inl (SqL.of R2.l), fun h nh => ?_⟩
  have s3 := same_new nh (.lst (rs.map fun r => V.ref r.1))
  have hh3 : upd H2 h (.lst (rs.map fun r => V.ref r.1)) h = some (.lst (rs.map fun r => V.ref r.1)) := upd_same
  generalize upd H2 h (.lst (rs.map fun r => V.ref r.1)) = H3 at s3 hh3 ⊢
  have R3 : LRowsAt H3 h rs := ⟨hh3, fun r hr => s3 _ _ (R2.t r hr)⟩
  have s03 := s1.trans (s2.trans s3)
  have lt0 : 0 < rs.length := by omega
  refine ⟨_, rfl, h, rs, rfl, R3, lt0, by omega, ht.same s03, fun H4 s4 t4 => ?_⟩
  obtain ⟨ab1, ab2⟩ := arg_best ul (rs.length - 1) (by omega)
  generalize argBest (fun i j => lexV (lrK (rowD rs i)) (lrK (rowD rs j))) (rs.length - 1) = b at ab1 ab2 ⊢
  have keep : ∀ x o, H3 x = some o → o ≠ .tbl tps → H4 x = some o := fun x o e n => s4 _ _ (ne_of e (s03 _ _ htp) n) e
  have hp4 := keep _ _ (s3 _ _ R2.l) (by intro z; cases z)
  have hh4 := keep _ _ hh3 (by intro z; cases z)
  have ht4 : ∀ r ∈ rs, H4 r.1 = some (.tup (lrV r)) := fun r hr => keep _ _ (R3.t r hr) (by intro z; cases z)
  have ll : (rs.map fun r => V.ref r.1).length = rs.length := List.length_map _
  refine ⟨_, rfl, _, _, _, true, rfl, TyOf.int _, kit_same _, true, rfl, iteF ?_⟩
  refine ⟨_, rfl, _, _, _, false, rfl, TyOf.int _, kit_int_bool _, false, rfl, iteF ?_⟩
  refine ⟨_, rfl, _, _, rfl, rfl, ?_⟩
  refine ⟨_, rfl, ite2 (fun _ => ?_) (fun c => absurd (decide_eq_true (by omega)) c)⟩
  refine ⟨_, rfl, p, _, rfl, .inl (SqL.of hp4), _, _, rfl, rfl, _, rfl, ite2 (fun c => ?_) (fun _ => ?_)⟩
  · rw [decide_eq_true (show (b : Int) < (((rs.map fun r => V.ref r.1).length : Nat) : Int) by omega)] at c
    exact absurd c (by decide)
  refine ⟨_, rfl, _, rfl, h, p, _, _, rfl, rfl, .inl ⟨SqL.of hh4, SqL.of hp4⟩, rfl, fun j hj => ?_, _, rfl, iteF ?_⟩
  · obtain ⟨x, ex⟩ : ∃ x, (rs.map fun r => V.ref r.1)[j]? = some x := ⟨_, List.getElem?_eq_getElem hj⟩
    rw [List.getD_eq_getElem?_getD, ex]
    rw [List.getElem?_map] at ex
    obtain ⟨r, er, rfl⟩ := Option.map_eq_some_iff.mp ex
    have hr' := ht4 r (List.mem_of_getElem? er)
    exact .inr ⟨r.1, r.1, _, _, rfl, rfl, .inr ⟨SqT.of hr', SqT.of hr'⟩, rfl, fun i hi => match i, hi with
      | 0, _ => ⟨rfl, rfl⟩
      | 1, _ => ⟨rfl, rfl⟩
      | 2, _ => ⟨rfl, rfl⟩⟩
  have ex : ∀ i, i < rs.length → rs[i]? = some (rowD rs i) := fun i hi => by unfold rowD; rw [List.getD_eq_getElem?_getD, List.getElem?_eq_getElem hi]; rfl
  have at' : ∀ i, i < rs.length → ∀ v, (rs.map fun r => V.ref r.1)[((i : Nat) : Int).toNat]? = some v → v = .ref (rowD rs i).1 := fun i hi v hv => by
    rw [Int.toNat_natCast, List.getElem?_map, ex i hi] at hv
    exact (Option.some.inj hv).symm
  refine ⟨_, rfl, p, _, rfl, .inl (SqL.of hp4), _, rfl, by omega, by omega, for_range (lo := 0) (n := (((rs.map fun r : LRow => V.ref r.1).length : Nat) : Int).toNat) (fun i σ G => G = H4 ∧ ∃ v9, σ = [some (.ref a), some (.int mo), some (.int (ns0.getD (Int.toNat 1) 0 % mo)), some (.int (1 + ns0.getD (Int.toNat 2) 0 % mo)), some (.int (ns0.getD (Int.toNat 3) 0 % mo)), some (.int (1 + ns0.getD (Int.toNat 4) 0 % 10)), some (.ref p), some (.ref h), some (.int (b : Int)), v9]) ⟨rfl, _, rfl⟩ (fun i σ G hi z => ?_) (fun σ G z => ?_)⟩
  · obtain ⟨rfl, v9, rfl⟩ := z
    have hi' : i < rs.length := by omega
    rw [Int.zero_add]
    refine ⟨_, rfl, _, rfl, rfl, _, rfl, ite2 (fun c => ?_) (fun _ => ⟨rfl, _, rfl⟩)⟩
    have ne : i ≠ b := fun z => by rw [z] at c; simp at c
    refine ⟨_, rfl, _, rfl, p, _, _, rfl, rfl, SqL.of hp4, by omega, by omega, fun v hv => ?_⟩
    obtain rfl := at' b (by omega) v hv
    refine ⟨_, rfl, _, rfl, p, _, _, rfl, rfl, SqL.of hp4, by omega, by omega, fun v hv => ?_⟩
    obtain rfl := at' i hi' v hv
    exact ⟨rowD rs b, rowD rs i, rfl, ht4 _ (List.mem_of_getElem? (ex b (by omega))), ht4 _ (List.mem_of_getElem? (ex i hi')), ab2 i (by omega) ne, true, rfl, iteF ⟨rfl, _, rfl⟩⟩
  · obtain ⟨rfl, v9, rfl⟩ := z
    exact q _

end
end My

def PySem.W.Fast.tw12391113475404547230 : Nat := 0
def PySem.W.Fast.tw7884682885363799444 : Nat := 0
def PySem.W.Fast.tw2485165346987867731 : Nat := 0
def PySem.W.Fast.tw14704466656566487677 : Nat := 0
namespace My
open PySem L2
theorem all_mk {l : PySem.W.OpenLaw} {w : World} {K : PySem.W.Frag} {h : Heap} {mg : Str → Option Value} {fa tP_first_of f0 f1 f2 f3 f4 f5 f6 f7 f8 f9 f10 : Addr} (X : K.In h) (G : h.Ns mainGlobals mg) (hfa : mg "law" = some (.ref fa))
    {od0 an0 od1 an1 od2 an2 od3 an3 od4 an4 od5 an5 od6 an6 od7 an7 od8 an8 od9 an9 od10 an10 : Option Addr} {sl0 sl1 sl2 sl3 sl4 sl5 sl6 sl7 sl8 sl9 sl10 : Array (Option Value)}
    {oc0 kV0 dc0 pm0 cd0 ct0 oc1 kV1 dc1 pm1 cd1 ct1 oc2 kV2 dc2 pm2 cd2 ct2 oc3 kV3 dc3 pm3 cd3 ct3 oc4 kV4 dc4 pm4 cd4 ct4 oc5 kV5 dc5 pm5 cd5 ct5 oc6 kV6 dc6 pm6 cd6 ct6 oc7 kV7 dc7 pm7 cd7 ct7 oc8 kV8 dc8 pm8 cd8 ct8 oc9 kV9 dc9 pm9 cd9 ct9 oc10 kV10 dc10 pm10 cd10 ct10 : Value}
    (a0 : PySem.W.nsIn K mainGlobals "grown" = some (some (.ref f0)))
    (l0 : K.lookup f0 = some ⟨oc0, od0, .func (PySem.W.fnOf "grown" "grown" (defArgs s_grown) (defBody s_grown) (defScope s_grown) .none kV0 dc0 pm0 an0 cd0 ct0), sl0⟩)
    (c0 : PySem.W.codeIn K cd0 "grown" = true)
    (k0 : PySem.W.keepIn K (.ref f0) = true)
    (a1 : PySem.W.nsIn K mainGlobals "lifted" = some (some (.ref f1)))
    (l1 : K.lookup f1 = some ⟨oc1, od1, .func (PySem.W.fnOf "lifted" "lifted" (defArgs s_lifted) (defBody s_lifted) (defScope s_lifted) .none kV1 dc1 pm1 an1 cd1 ct1), sl1⟩)
    (c1 : PySem.W.codeIn K cd1 "lifted" = true)
    (k1 : PySem.W.keepIn K (.ref f1) = true)
    (a2 : PySem.W.nsIn K mainGlobals "first_of" = some (some (.ref f2)))
    (l2 : K.lookup f2 = some ⟨oc2, od2, .func (PySem.W.fnOf "first_of" "first_of" (defArgs s_first_of) (defBody s_first_of) (defScope s_first_of) .none kV2 dc2 pm2 an2 cd2 ct2), sl2⟩)
    (c2 : PySem.W.codeIn K cd2 "first_of" = true)
    (k2 : PySem.W.keepIn K (.ref f2) = true)
    (a3 : PySem.W.nsIn K mainGlobals "_law_cell_at" = some (some (.ref f3)))
    (l3 : K.lookup f3 = some ⟨oc3, od3, .func (PySem.W.fnOf "_law_cell_at" "_law_cell_at" (defArgs s__law_cell_at) (defBody s__law_cell_at) (defScope s__law_cell_at) .none kV3 dc3 pm3 an3 cd3 ct3), sl3⟩)
    (c3 : PySem.W.codeIn K cd3 "_law_cell_at" = true)
    (k3 : PySem.W.keepIn K (.ref f3) = true)
    (a4 : PySem.W.nsIn K mainGlobals "_law_mix" = some (some (.ref f4)))
    (l4 : K.lookup f4 = some ⟨oc4, od4, .func (PySem.W.fnOf "_law_mix" "_law_mix" (defArgs s__law_mix) (defBody s__law_mix) (defScope s__law_mix) .none kV4 dc4 pm4 an4 cd4 ct4), sl4⟩)
    (c4 : PySem.W.codeIn K cd4 "_law_mix" = true)
    (k4 : PySem.W.keepIn K (.ref f4) = true)
    (a5 : PySem.W.nsIn K mainGlobals "_law_word" = some (some (.ref f5)))
    (l5 : K.lookup f5 = some ⟨oc5, od5, .func (PySem.W.fnOf "_law_word" "_law_word" (defArgs s__law_word) (defBody s__law_word) (defScope s__law_word) .none kV5 dc5 pm5 an5 cd5 ct5), sl5⟩)
    (c5 : PySem.W.codeIn K cd5 "_law_word" = true)
    (k5 : PySem.W.keepIn K (.ref f5) = true)
    (a6 : PySem.W.nsIn K mainGlobals "_law_is" = some (some (.ref f6)))
    (l6 : K.lookup f6 = some ⟨oc6, od6, .func (PySem.W.fnOf "_law_is" "_law_is" (defArgs s__law_is) (defBody s__law_is) (defScope s__law_is) .none kV6 dc6 pm6 an6 cd6 ct6), sl6⟩)
    (c6 : PySem.W.codeIn K cd6 "_law_is" = true)
    (k6 : PySem.W.keepIn K (.ref f6) = true)
    (a7 : PySem.W.nsIn K mainGlobals "_law_names" = some (some (.ref f7)))
    (l7 : K.lookup f7 = some ⟨oc7, od7, .func (PySem.W.fnOf "_law_names" "_law_names" (defArgs s__law_names) (defBody s__law_names) (defScope s__law_names) .none kV7 dc7 pm7 an7 cd7 ct7), sl7⟩)
    (c7 : PySem.W.codeIn K cd7 "_law_names" = true)
    (k7 : PySem.W.keepIn K (.ref f7) = true)
    (a8 : PySem.W.nsIn K mainGlobals "_law_rows" = some (some (.ref f8)))
    (l8 : K.lookup f8 = some ⟨oc8, od8, .func (PySem.W.fnOf "_law_rows" "_law_rows" (defArgs s__law_rows) (defBody s__law_rows) (defScope s__law_rows) .none kV8 dc8 pm8 an8 cd8 ct8), sl8⟩)
    (c8 : PySem.W.codeIn K cd8 "_law_rows" = true)
    (k8 : PySem.W.keepIn K (.ref f8) = true)
    (a9 : PySem.W.nsIn K mainGlobals "_law_before" = some (some (.ref f9)))
    (l9 : K.lookup f9 = some ⟨oc9, od9, .func (PySem.W.fnOf "_law_before" "_law_before" (defArgs s__law_before) (defBody s__law_before) (defScope s__law_before) .none kV9 dc9 pm9 an9 cd9 ct9), sl9⟩)
    (c9 : PySem.W.codeIn K cd9 "_law_before" = true)
    (k9 : PySem.W.keepIn K (.ref f9) = true)
    (a10 : PySem.W.nsIn K mainGlobals "law" = some (some (.ref f10)))
    (l10 : K.lookup f10 = some ⟨oc10, od10, .func (PySem.W.fnOf "law" "law" (defArgs s_law) (defBody s_law) (defScope s_law) .none kV10 dc10 pm10 an10 cd10 ct10), sl10⟩)
    (c10 : PySem.W.codeIn K cd10 "law" = true)
    (k10 : PySem.W.keepIn K (.ref f10) = true)
    {xCOMMON : Int} {tCOMMON : Tok}
    (gCOMMON : PySem.W.nsIn K mainGlobals "COMMON" = some (some (.int xCOMMON tCOMMON)))
    (eCOMMON : xCOMMON = 2520)
    (z_len : PySem.W.nsIn K mainGlobals "len" = some none)
    (z_range : PySem.W.nsIn K mainGlobals "range" = some none)
    (z_int : PySem.W.nsIn K mainGlobals "int" = some none)
    (z_bool : PySem.W.nsIn K mainGlobals "bool" = some none)
    (z_list : PySem.W.nsIn K mainGlobals "list" = some none)
    (z_isinstance : PySem.W.nsIn K mainGlobals "isinstance" = some none)
    (z_min : PySem.W.nsIn K mainGlobals "min" = some none)
    (z_max : PySem.W.nsIn K mainGlobals "max" = some none)
    {cL_first_of : Addr}
    (hl_first_of : cd2 = .ref cL_first_of)
    (hc_first_of : PySem.W.codeHdIn K cL_first_of tP_first_of = true)
    : ∃ fd : FuncData, (∀ (s : Shared) (v : Value), BindsTo s fd ⟨[v], []⟩ [("_law_script", v)]) ∧ (∃ c, PySem.W.codeHdIn K c tP_first_of = true) ∧ ∀ base : Heap, K.In base → base.Ns mainGlobals mg → BMain base mg → FnOk l.prog w K mg base CX0 4 fa fd ["_law_script"] (sp_law K tP_first_of) := by
  have e := hfa.symm.trans (PySem.W.mg_of X G a10)
  cases e
  have F0 := fun_mk (st := s_grown) l0 c0 k0
  have F1 := fun_mk (st := s_lifted) l1 c1 k1
  have F2 := fun_mk (st := s_first_of) l2 c2 k2
  have F3 := fun_mk (st := s__law_cell_at) l3 c3 k3
  have F4 := fun_mk (st := s__law_mix) l4 c4 k4
  have F5 := fun_mk (st := s__law_word) l5 c5 k5
  have F6 := fun_mk (st := s__law_is) l6 c6 k6
  have F7 := fun_mk (st := s__law_names) l7 c7 k7
  have F8 := fun_mk (st := s__law_rows) l8 c8 k8
  have F9 := fun_mk (st := s__law_before) l9 c9 k9
  have F10 := fun_mk (st := s_law) l10 c10 k10
  have b0 := F0.binds (ps := ["level", "cost", "share"]) fun _ _ _ _ _ _ us hl => match us, hl with | [_, _, _], _ => rfl
  have b1 := F1.binds (ps := ["level", "mark"]) fun _ _ _ _ _ _ us hl => match us, hl with | [_, _], _ => rfl
  have b2 := F2.binds (ps := ["rows"]) fun _ _ _ _ _ _ us hl => match us, hl with | [_], _ => rfl
  have b3 := F3.binds (ps := ["_law_script", "_law_k"]) fun _ _ _ _ _ _ us hl => match us, hl with | [_, _], _ => rfl
  have b4 := F4.binds (ps := ["_law_cell", "_law_k", "_law_many"]) fun _ _ _ _ _ _ us hl => match us, hl with | [_, _, _], _ => rfl
  have b5 := F5.binds (ps := ["_law_cell", "_law_turn"]) fun _ _ _ _ _ _ us hl => match us, hl with | [_, _], _ => rfl
  have b6 := F6.binds (ps := ["_law_num", "_law_due"]) fun _ _ _ _ _ _ us hl => match us, hl with | [_, _], _ => rfl
  have b7 := F7.binds (ps := ["_law_script", "_law_many"]) fun _ _ _ _ _ _ us hl => match us, hl with | [_, _], _ => rfl
  have b8 := F8.binds (ps := ["_law_script", "_law_many"]) fun _ _ _ _ _ _ us hl => match us, hl with | [_, _], _ => rfl
  have b9 := F9.binds (ps := ["_law_one", "_law_other"]) fun _ _ _ _ _ _ us hl => match us, hl with | [_, _], _ => rfl
  have b10 := F10.binds (ps := ["_law_script"]) fun _ _ _ _ _ _ us hl => match us, hl with | [_], _ => rfl
  have T : Txt K mg tP_first_of := ⟨PySem.W.mg_none_of X G z_len, PySem.W.mg_none_of X G z_range, PySem.W.mg_none_of X G z_int, PySem.W.mg_none_of X G z_bool, PySem.W.mg_none_of X G z_list, PySem.W.mg_none_of X G z_isinstance, PySem.W.mg_none_of X G z_min, PySem.W.mg_none_of X G z_max, ⟨⟨tCOMMON, by rw [← eCOMMON]; exact PySem.W.mg_of X G gCOMMON⟩⟩⟩
  refine ⟨PySem.W.fnOf "law" "law" (defArgs s_law) (defBody s_law) (defScope s_law) .none kV10 dc10 pm10 an10 cd10 ct10, fun s v => .of_eq rfl, ⟨cL_first_of, hc_first_of⟩, fun base _ _ BM => ?_⟩
  have D__law_word : Dfn l.prog w K mg base 1 "_law_word" ["_law_cell", "_law_turn"] (sp__law_word K) := ⟨_, _, ok__law_word F5 T, b5, k5, PySem.W.mg_of X G a5⟩
  have D__law_cell_at : Dfn l.prog w K mg base 1 "_law_cell_at" ["_law_script", "_law_k"] (sp__law_cell_at K) := ⟨_, _, ok__law_cell_at F3 T, b3, k3, PySem.W.mg_of X G a3⟩
  have D__law_names : Dfn l.prog w K mg base 2 "_law_names" ["_law_script", "_law_many"] (sp__law_names K) := ⟨_, _, ok__law_names F7 T D__law_word D__law_cell_at, b7, k7, PySem.W.mg_of X G a7⟩
  have D__law_mix : Dfn l.prog w K mg base 1 "_law_mix" ["_law_cell", "_law_k", "_law_many"] (sp__law_mix K) := ⟨_, _, ok__law_mix F4 T, b4, k4, PySem.W.mg_of X G a4⟩
  have D__law_rows : Dfn l.prog w K mg base 3 "_law_rows" ["_law_script", "_law_many"] (sp__law_rows K) := ⟨_, _, ok__law_rows F8 T D__law_names D__law_cell_at D__law_mix, b8, k8, PySem.W.mg_of X G a8⟩
  have D_first_of : Dfn l.prog w K mg base 2 "first_of" ["rows"] (sp_first_of tP_first_of) := ⟨_, _, ok_first_of F2 T hl_first_of hc_first_of BM, b2, k2, PySem.W.mg_of X G a2⟩
  have D__law_is : Dfn l.prog w K mg base 1 "_law_is" ["_law_num", "_law_due"] (sp__law_is K) := ⟨_, _, ok__law_is F6 T, b6, k6, PySem.W.mg_of X G a6⟩
  have D_grown : Dfn l.prog w K mg base 1 "grown" ["level", "cost", "share"] (sp_grown K) := ⟨_, _, ok_grown F0 T, b0, k0, PySem.W.mg_of X G a0⟩
  have D_lifted : Dfn l.prog w K mg base 1 "lifted" ["level", "mark"] (sp_lifted K) := ⟨_, _, ok_lifted F1 T, b1, k1, PySem.W.mg_of X G a1⟩
  have D__law_before : Dfn l.prog w K mg base 1 "_law_before" ["_law_one", "_law_other"] (sp__law_before K) := ⟨_, _, ok__law_before F9 T, b9, k9, PySem.W.mg_of X G a9⟩
  exact ok_law F10 T D__law_rows D_first_of D__law_cell_at D__law_is D_grown D_lifted D__law_before
theorem walk {l : PySem.W.OpenLaw} {q : Program} {loose : List Str} {XP : (Str → Option Value) → Heap → Prop} {YP : World → Heap → Prop} {d : DefRec} {K : Params → PySem.W.Frag} {tP_first_of : Addr} (hn : l.most = some 63) (hdf : d.params.defaults = [])
    (hY : ∀ (w : World) (h : Heap), YP w h → (K w.params).In h) (hT : ∀ (w : World) (h : Heap), YP w h → h.get? tP_first_of = some (PySem.W.tabObj #[])) (hKt : ∀ (w : World), (K w.params).lookup tP_first_of = none)
    (F : ∀ (w : World) (mg : Str → Option Value) (fa : Addr) (h : Heap), (K w.params).In h → h.Ns mainGlobals mg → mg d.name = some (.ref fa) →
      ∃ fd : FuncData, (∀ (s : Shared) (u : Value), BindsTo s fd ⟨[u], []⟩ [("_law_script", u)]) ∧ (∃ c, PySem.W.codeHdIn (K w.params) c tP_first_of = true) ∧ ∀ base : Heap, (K w.params).In base → base.Ns mainGlobals mg → BMain base mg → FnOk l.prog w (K w.params) mg base CX0 4 fa fd ["_law_script"] (sp_law (K w.params) tP_first_of)) :
    PySem.W.WalkO q loose XP YP l.row.toRowW d [] (fun f vs => PySem.call f vs) :=
  L2.walk_of1 (n := 63) (k := 4) (x := "_law_script") (tP := tP_first_of) (CX := fun _ => CX0) (sp := fun w => sp_law (K w.params) tP_first_of) hn (by decide) hdf ⟨rfl, by decide, by decide⟩ hY hT hKt F (fun _ _ a ns hl hP hS => ⟨a, rfl, ⟨⟨ns, hS, hl⟩⟩, .inl hP, fun _ => rfl⟩) fun _ _ _ _ _ z => z
end My
open PySem PySem.W PyProof.Rows
set_option maxRecDepth 100000 in
set_option maxHeartbeats 0 in
theorem PySem.Challenge.cw_spoolhall_k40_levels_holds : PySem.Challenge.rw_spoolhall_k40_levels.Holds := by
  w_on; o_law; k_head; (case hw => w_witness2)
  k_fill
  refine My.walk (l := PySem.Challenge.rw_spoolhall_k40_levels) rfl rfl (fun w h Y => PySem.W.km_in_of Y) (fun w h Y => PySem.W.km_tabs_of Y _ (List.mem_singleton.mpr rfl)) (fun w => by kernel_rfl) ?F
  case F =>
    intro w mg fa h KX G hmg
    refine' My.all_mk KX G hmg ?a0 ?l0 ?c0 ?k0 ?a1 ?l1 ?c1 ?k1 ?a2 ?l2 ?c2 ?k2 ?a3 ?l3 ?c3 ?k3 ?a4 ?l4 ?c4 ?k4 ?a5 ?l5 ?c5 ?k5 ?a6 ?l6 ?c6 ?k6 ?a7 ?l7 ?c7 ?k7 ?a8 ?l8 ?c8 ?k8 ?a9 ?l9 ?c9 ?k9 ?a10 ?l10 ?c10 ?k10 ?gCOMMON ?eCOMMON ?z_len ?z_range ?z_int ?z_bool ?z_list ?z_isinstance ?z_min ?z_max ?hl_first_of ?hc_first_of
    (case a0 => k_is)
    (case l0 => k_is)
    (case c0 => k_is)
    (case k0 => k_is)
    (case a1 => k_is)
    (case l1 => k_is)
    (case c1 => k_is)
    (case k1 => k_is)
    (case a2 => k_is)
    (case l2 => k_is)
    (case c2 => k_is)
    (case k2 => k_is)
    (case a3 => k_is)
    (case l3 => k_is)
    (case c3 => k_is)
    (case k3 => k_is)
    (case a4 => k_is)
    (case l4 => k_is)
    (case c4 => k_is)
    (case k4 => k_is)
    (case a5 => k_is)
    (case l5 => k_is)
    (case c5 => k_is)
    (case k5 => k_is)
    (case a6 => k_is)
    (case l6 => k_is)
    (case c6 => k_is)
    (case k6 => k_is)
    (case a7 => k_is)
    (case l7 => k_is)
    (case c7 => k_is)
    (case k7 => k_is)
    (case a8 => k_is)
    (case l8 => k_is)
    (case c8 => k_is)
    (case k8 => k_is)
    (case a9 => k_is)
    (case l9 => k_is)
    (case c9 => k_is)
    (case k9 => k_is)
    (case a10 => k_is)
    (case l10 => k_is)
    (case c10 => k_is)
    (case k10 => k_is)
    (case gCOMMON => k_is)
    (case eCOMMON => rfl)
    (case z_len => k_is)
    (case z_range => k_is)
    (case z_int => k_is)
    (case z_bool => k_is)
    (case z_list => k_is)
    (case z_isinstance => k_is)
    (case z_min => k_is)
    (case z_max => k_is)
    (case hl_first_of => rfl)
    (case hc_first_of => kernel_rfl)
#print axioms PySem.Challenge.cw_spoolhall_k40_levels_holds
