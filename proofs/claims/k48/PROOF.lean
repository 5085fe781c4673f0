import PyProof.Rows.All
import Wide.All
import OpenK.AllK
import Wide.FinOn
import Lean
import PyProof.EqAt
import PyProof.EqKinds
import PyProof.TupleCall
import PyProof.EnumMake
import PyProof.Draws
import PyProof.InstStoreFacts
import PyProof.ExcArgs
import PyProof.ExcBaseAll.ValueError
import KE.KDictLaws
import OpenK.KOwn
import PyProof.ListRange
import PyProof.AttrMissHeap
import PyProof.MinMaxWalk
import PyProof.WalksMore
import PyProof.NeKinds
import KE.KDictList
import KE.KDictSum
import KE.KEqDict
import PySem.Challenge.RW_spoolhall_k48_fitting_or_refused
set_option Elab.async false
set_option linter.all false
set_option maxRecDepth 100000
/-! THE HAND LAYER, for ints, bools, texts, own classes, LISTS and tuples (index, slices, in, append, pop ..), calls, loops. Paste it whole ahead of your own text; what your proof does not reach may be deleted. -/
namespace L2
open PySem PySem.Spec PyProof.Rows

/-- a key: an int or a str -/
abbrev Key := Sum Int Str
def keyIs : Key → Value → Bool
  | .inl k, v => Value.isInt k v
  | .inr x, v => Value.isStrOf x v
def keyH (w : World) : Key → Int
  | .inl k => hashInt k
  | .inr x => hashStr w x
theorem keyIs_shape : ∀ {k : Key} {v : Value}, keyIs k v = true → (∃ i t, k = Sum.inl i ∧ v = Value.int i t) ∨ (∃ x t, k = Sum.inr x ∧ v = Value.str x t)
  | .inl i, v, h => by
    obtain ⟨t, e⟩ := Value.isInt_shape (k := i) (v := v) h
    exact .inl ⟨i, t, rfl, e⟩
  | .inr x, v, h => by
    obtain ⟨t, e⟩ := Value.isStrOf_shape (x := x) (v := v) h
    exact .inr ⟨x, t, rfl, e⟩
theorem keyIs_int (i : Int) (t : Tok) : keyIs (.inl i) (.int i t) = true := by simp [keyIs, Value.isInt]
theorem keyIs_str (x : Str) (t : Tok) : keyIs (.inr x) (.str x t) = true := by simp [keyIs, Value.isStrOf]
theorem key_ll (a b : Int) : decide ((Sum.inl a : Key) = Sum.inl b) = (a == b) := by
  by_cases e : a = b
  · subst e; simp
  · have h : ¬ (Sum.inl a : Key) = Sum.inl b := fun q => e (Sum.inl.inj q)
    rw [decide_eq_false h]
    exact (beq_eq_false_iff_ne.mpr e).symm
theorem key_rr (a b : Str) : decide ((Sum.inr a : Key) = Sum.inr b) = decide (a = b) := by
  by_cases e : a = b
  · subst e; simp
  · have h : ¬ (Sum.inr a : Key) = Sum.inr b := fun q => e (Sum.inr.inj q)
    rw [decide_eq_false h, decide_eq_false e]
theorem key_lr (a : Int) (b : Str) : decide ((Sum.inl a : Key) = Sum.inr b) = false := decide_eq_false (fun q => nomatch q)
theorem key_rl (a : Str) (b : Int) : decide ((Sum.inr a : Key) = Sum.inl b) = false := decide_eq_false (fun q => nomatch q)

def mixKind (prog : Program) (w : World) : PySem.KeyKind prog w Key where
  is := keyIs
  hash := keyH w
  inj := fun v a b ha hb => by
    rcases keyIs_shape ha with ⟨i, t, rfl, rfl⟩ | ⟨x, t, rfl, rfl⟩
    · rcases keyIs_shape hb with ⟨j, u, rfl, e⟩ | ⟨y, u, rfl, e⟩
      · injection e with e1 _; rw [e1]
      · exact nomatch e
    · rcases keyIs_shape hb with ⟨j, u, rfl, e⟩ | ⟨y, u, rfl, e⟩
      · exact nomatch e
      · injection e with e1 _; rw [e1]
  byValue := fun k v h => by
    rcases keyIs_shape h with ⟨i, t, rfl, rfl⟩ | ⟨x, t, rfl, rfl⟩ <;> rfl
  pyHash := fun hv h => by
    rcases keyIs_shape hv with ⟨i, t, rfl, rfl⟩ | ⟨x, t, rfl, rfl⟩
    · exact wpAny_pyHash_int h
    · exact wpAny_pyHash_str h
  eqBool := fun hu hv h => by
    rcases keyIs_shape hu with ⟨i, t, rfl, rfl⟩ | ⟨x, t, rfl, rfl⟩
    · rcases keyIs_shape hv with ⟨j, u, rfl, rfl⟩ | ⟨y, u, rfl, rfl⟩
      · rw [key_ll] at h; exact wpAny_eqBool_int h
      · rw [key_lr] at h; exact SeqAt.EqAt.int_str i t y u _ _ _ _ h
    · rcases keyIs_shape hv with ⟨j, u, rfl, rfl⟩ | ⟨y, u, rfl, rfl⟩
      · rw [key_rl] at h; exact SeqAt.EqAt.str_int x t j u _ _ _ _ h
      · rw [key_rr] at h; exact wpAny_eqBool_str h
  «strs» := fun k x t v h => by
    rcases keyIs_shape h with ⟨i, u, rfl, e⟩ | ⟨y, u, rfl, e⟩
    · exact nomatch e
    · injection e with e1 _
      subst e1
      cases v <;> rfl

theorem mixKind_int (prog : Program) (w : World) (i : Int) (t : Tok) : (mixKind prog w).is (.inl i) (.int i t) = true := keyIs_int i t
theorem mixKind_str (prog : Program) (w : World) (x : Str) (t : Tok) : (mixKind prog w).is (.inr x) (.str x t) = true := keyIs_str x t
end L2

namespace L2
open PySem PySem.Spec PyProof.Rows

/-- a value, without the heap -/
inductive V where
  | non | bl (b : Bool) | int (i : Int) | str (x : Str) | byt (b : Array UInt8) | flt (b : UInt64) | ref (a : Addr) | ty (n : String)
  deriving DecidableEq

def RelV : V → Value → Prop
  | .non, u => u = Value.none
  | .bl b, u => u = Value.bool b
  | .int i, u => ∃ t, u = Value.int i t
  | .str x, u => ∃ t, u = Value.str x t
  | .byt b, u => ∃ t, u = Value.bytes b t
  | .flt b, u => ∃ t, u = Value.float b t
  | .ref a, u => u = Value.ref a
  | .ty n, u => u = Value.type n

abbrev Vals : List V → List Value → Prop := Paired RelV
theorem Vals.length {xs : List V} {us : List Value} (r : Vals xs us) : xs.length = us.length := Paired.length r
theorem Vals.get : ∀ {xs : List V} {us : List Value} {i : Nat} {x : V}, Vals xs us → xs[i]? = some x → ∃ u, us[i]? = some u ∧ RelV x u
  | _, _, _, _, .nil, e => by simp at e
  | _, _, 0, _, .cons r _, e => by simp at e; subst e; exact ⟨_, rfl, r⟩
  | _, _, i + 1, x, .cons _ t, e => by
    obtain ⟨u, h1, h2⟩ := Vals.get (i := i) (x := x) t (by simpa using e)
    exact ⟨u, by simpa using h1, h2⟩
theorem Vals.set {x : V} {u : Value} (r : RelV x u) : ∀ {xs : List V} {us : List Value} (i : Nat), Vals xs us → Vals (xs.set i x) (us.set i u)
  | _, _, _, .nil => .nil
  | _, _, 0, .cons _ t => .cons r t
  | _, _, i + 1, .cons q t => .cons q (Vals.set r i t)
theorem Vals.append : ∀ {xs ys : List V} {us ws : List Value}, Vals xs us → Vals ys ws → Vals (xs ++ ys) (us ++ ws)
  | _, _, _, _, .nil, s => s
  | _, _, _, _, .cons r t, s => .cons r (Vals.append t s)
theorem Vals.take : ∀ {xs : List V} {us : List Value} (n : Nat), Vals xs us → Vals (xs.take n) (us.take n)
  | _, _, 0, _ => .nil
  | _, _, _ + 1, .nil => .nil
  | _, _, n + 1, .cons r t => .cons r (Vals.take n t)
theorem Vals.drop : ∀ {xs : List V} {us : List Value} (n : Nat), Vals xs us → Vals (xs.drop n) (us.drop n)
  | _, _, 0, r => r
  | _, _, _ + 1, .nil => .nil
  | _, _, n + 1, .cons _ t => Vals.drop n t
theorem Vals.none_of : ∀ {xs : List V} {us : List Value} {i : Nat}, Vals xs us → xs[i]? = none → us[i]? = none := fun {xs us i} r e => by
  have h1 := r.length
  have h2 : xs.length ≤ i := List.getElem?_eq_none_iff.mp e
  exact List.getElem?_eq_none_iff.mpr (by omega)

def RelO : Option V → Option Value → Prop
  | some v, some u => RelV v u
  | none, none => True
  | _, _ => False
def KV {κ : Type} : List (κ × V) → List (κ × Value) → Prop := Paired fun (p : κ × V) (q : κ × Value) => p.1 = q.1 ∧ RelV p.2 q.2

/-- a key of a dict (00_mix): an int or a text -/
def kV : Key → V
  | .inl i => .int i
  | .inr x => .str x

/-- what stands at a tracked address -/
inductive HO where
  /-- a list -/
  | lst (xs : List V)
  /-- a tuple (never changes) -/
  | tup (xs : List V)
  /-- a dict whose keys are ints and texts; one whose keys are tuples of ints and texts (the empty one is both) -/
  | dK (kvs : List (Key × V)) | dT (kvs : List (List Key × V))
  /-- a set of ints: its members, its size -/
  | set (S : Int → Bool) (n : Nat)
  /-- an instance of the class at C, its dict at dx, its attributes -/
  | ins (C dx : Addr) (fs : List (Str × V))
  /-- the dict of the instance at x -/
  | own (x : Addr)
  /-- the dict of an exception -/
  | xd (fs : List (Str × V))
  /-- a bound method, f of x -/
  | met (f x : Addr)
  /-- a range object lo, lo + 1, .. below hi -/
  | rng (lo hi : Int)
  /-- a thing that is known to the object (the script; a dict while a loop walks it): read, never written while it is so -/
  | frz (o : Obj) (u : HO)
  /-- a code object's table -/
  | tbl (ps : Array Value)
  /-- any other thing, by what is true of its one object (a def of one's own: SetO a S n := HO.ext fun h => ..) -/
  | ext (φ : Heap → Prop)

abbrev Hp := Addr → Option HO
def upd (H : Hp) (a : Addr) (o : HO) : Hp := fun b => if b = a then some o else H b
theorem upd_same {H : Hp} {a : Addr} {o : HO} : upd H a o a = some o := by unfold upd; rw [if_pos rfl]
theorem upd_ne {H : Hp} {a b : Addr} {o : HO} (h : b ≠ a) : upd H a o b = H b := by unfold upd; rw [if_neg h]
theorem upd_upd {H : Hp} {a : Addr} {o u : HO} : upd (upd H a o) a u = upd H a u := by
  funext b; unfold upd; split <;> rfl
/-- two objects of different content stand apart -/
theorem ne_of {H : Hp} {a b : Addr} {o u : HO} (h : H a = some o) (h' : H b = some u) (d : o ≠ u) : a ≠ b := by
  intro e; subst e; rw [h] at h'; exact d (Option.some.inj h')
theorem ne_of_none {H : Hp} {a b : Addr} {o : HO} (h : H a = some o) (h' : H b = none) : a ≠ b := by
  intro e; subst e; rw [h] at h'; cases h'

section
variable (P : Program) (w : World)
def ObjOk (H : Hp) (h : Heap) (a : Addr) : HO → Prop
  | .lst xs => xs.length ≤ sizeLine ∧ ∃ (its : List Value) (n : Nat), Vals xs its ∧ h.get? a = some { cls := .type "list", data := .seq its.toArray n }
  | .tup xs => xs.length ≤ sizeLine ∧ ∃ its : List Value, Vals xs its ∧ IsTup h a its.toArray
  | .dK kvs => kvs.length ≤ sizeLine ∧ (a == sysModules) = false ∧ ∃ vs, KV kvs vs ∧ h.DictOf (mixKind P w) a vs
  | .dT kvs => kvs.length ≤ sizeLine ∧ (a == sysModules) = false ∧ ∃ xs : List (List Key × Addr × Value),
      Paired (fun (p : List Key × V) (q : List Key × Addr × Value) => p.1 = q.1 ∧ H q.2.1 = some (.tup (p.1.map kV)) ∧ RelV p.2 q.2.2) kvs xs ∧
      ∃ o es ep, h.get? a = some o ∧ o.ExactDict ∧ o.data = .dict es ep ∧ es.toList = xs.map (entryOfKey (tupleKind (mixKind P w))) ∧ (xs.map (·.1)).Nodup
  | .set S n => h.SetOf (intKind P w) a S n
  | .ins C dx fs => H dx = some (.own a) ∧ fs.length ≤ 1000 ∧ dx ≠ a ∧ h.get? a = some (PySem.W.instObj C dx) ∧
      ∃ mA, h.Ns1 dx mA ∧ (∀ f, RelO (fs.lookup f) (mA f)) ∧ PySem.Within mA (fs.map (·.1))
  | .own _ => ∃ o, h.get? a = some o
  | .xd fs => ∃ mA, h.Ns1 a mA ∧ ∀ f, RelO (fs.lookup f) (mA f)
  | .rng lo hi => ∃ t u v, h.get? a = some { cls := .type "range", data := .fields #[.int lo t, .int hi u, .int 1 v] }
  | .frz o u => h.get? a = some o ∧ ObjOk H h a u
  | .tbl ps => h.get? a = some { cls := .none, data := .fields ps }
  | .met f x => h.get? a = some (PySem.W.methodObj (.ref f) (.ref x))
  | .ext φ => φ h ∧ (∃ o, h.get? a = some o) ∧ ∀ h1 h2 : Heap, φ h1 → (∀ o, h1.get? a = some o → h2.get? a = some o) → φ h2
/-- the abstract heap is held -/
def HOk (H : Hp) (h : Heap) : Prop := ∀ a o, H a = some o → ObjOk P w H h a o
end

section
variable {P : Program} {w : World} {H H' : Hp} {h h' : Heap} {a : Addr} {o : HO}
theorem ObjOk.lt (x : ObjOk P w H h a o) : a < h.objs.size := by
  cases o with
  | lst xs => obtain ⟨_, _, _, _, e⟩ := x; exact Heap.lt_size e
  | tup xs => obtain ⟨_, _, _, p⟩ := x; exact p.lt
  | dK kvs => obtain ⟨_, _, _, _, o, _, _, e, _⟩ := x; exact Heap.lt_size e
  | dT kvs => obtain ⟨_, _, _, _, o, _, _, e, _⟩ := x; exact Heap.lt_size e
  | set S n => obtain ⟨o, _, _, _, e, _⟩ := x; exact Heap.lt_size e
  | ins C dx fs => obtain ⟨_, _, _, e, _⟩ := x; exact Heap.lt_size e
  | own y => obtain ⟨_, e⟩ := x; exact Heap.lt_size e
  | xd fs => obtain ⟨_, ⟨_, _, _, e, _⟩, _⟩ := x; exact Heap.lt_size e
  | rng lo hi => obtain ⟨_, _, _, e⟩ := x; exact Heap.lt_size e
  | frz ob u => obtain ⟨e, _⟩ := x; exact Heap.lt_size e
  | tbl ps => exact Heap.lt_size (show h.get? a = some _ from x)
  | met f y => exact Heap.lt_size (show h.get? a = some _ from x)
  | ext φ => obtain ⟨_, ⟨_, e⟩, _⟩ := x; exact Heap.lt_size e
theorem Paired.mapP {α β : Type} {F G : α → β → Prop} : ∀ {l₁ : List α} {l₂ : List β}, Paired F l₁ l₂ → (∀ a b, F a b → G a b) → Paired G l₁ l₂
  | _, _, .nil, _ => .nil
  | _, _, .cons r t, f => .cons (f _ _ r) (Paired.mapP t f)
/-- what an object's description leans on: its own object, its own dict, the tuples -/
theorem ObjOk.stay (x : ObjOk P w H h a o) (k : ∀ b u, (b = a ∨ H b = some (.own a)) → h.get? b = some u → h'.get? b = some u)
    (ho : ∀ b, H b = some (.own a) → H' b = some (.own a)) (ht : ∀ b xs, H b = some (.tup xs) → H' b = some (.tup xs)) : ObjOk P w H' h' a o := by
  induction o with
  | lst xs => obtain ⟨z, its, n, r, e⟩ := x; exact ⟨z, its, n, r, k _ _ (.inl rfl) e⟩
  | tup xs => obtain ⟨z, its, r, ob, e, c⟩ := x; exact ⟨z, its, r, ob, k _ _ (.inl rfl) e, c⟩
  | dK kvs => obtain ⟨z, y, vs, r, ob, es, ep, e, c⟩ := x; exact ⟨z, y, vs, r, ob, es, ep, k _ _ (.inl rfl) e, c⟩
  | dT kvs =>
    obtain ⟨z, y, xs, r, ob, es, ep, e, c⟩ := x
    exact ⟨z, y, xs, Paired.mapP r fun p q z => ⟨z.1, ht _ _ z.2.1, z.2.2⟩, ob, es, ep, k _ _ (.inl rfl) e, c⟩
  | set S n => obtain ⟨ob, es, ep, t, e, c⟩ := x; exact ⟨ob, es, ep, t, k _ _ (.inl rfl) e, c⟩
  | ins C dx fs =>
    obtain ⟨d, z, ne, e, mA, ⟨od, es, ep, e2, c⟩, r⟩ := x
    exact ⟨ho _ d, z, ne, k _ _ (.inl rfl) e, mA, ⟨od, es, ep, k _ _ (.inr d) e2, c⟩, r⟩
  | own y => obtain ⟨ob, e⟩ := x; exact ⟨ob, k _ _ (.inl rfl) e⟩
  | xd fs => obtain ⟨mA, ⟨od, es, ep, e, c⟩, r⟩ := x; exact ⟨mA, ⟨od, es, ep, k _ _ (.inl rfl) e, c⟩, r⟩
  | rng lo hi => obtain ⟨t, u, v, e⟩ := x; exact ⟨t, u, v, k _ _ (.inl rfl) e⟩
  | frz ob u ih => obtain ⟨e, q⟩ := x; exact ⟨k _ _ (.inl rfl) e, ih q⟩
  | tbl ps =>
    have e : h.get? a = some { cls := .none, data := .fields ps } := x
    show h'.get? a = some { cls := .none, data := .fields ps }
    exact k a _ (.inl rfl) e
  | met f y =>
    have e : h.get? a = some (PySem.W.methodObj (.ref f) (.ref y)) := x
    show h'.get? a = some (PySem.W.methodObj (.ref f) (.ref y))
    exact k a _ (.inl rfl) e
  | ext φ => obtain ⟨p, ⟨o, e⟩, st⟩ := x; exact ⟨st _ _ p fun o q => k _ _ (.inl rfl) q, ⟨o, k _ _ (.inl rfl) e⟩, st⟩
theorem HOk.lt (x : HOk P w H h) (e : H a = some o) : a < h.objs.size := (x a o e).lt
theorem HOk.fresh (x : HOk P w H h) (e : h.objs.size ≤ a) : H a = none := by
  cases q : H a with
  | none => rfl
  | some u => exact absurd (Nat.lt_of_lt_of_le (x.lt q) e) (Nat.lt_irrefl _)
/-- every object of the heap is kept -/
theorem HOk.kept (x : HOk P w H h) (k : ∀ b u, h.get? b = some u → h'.get? b = some u) : HOk P w H h' := fun a o e =>
  (x a o e).stay (fun b u _ q => k b u q) (fun _ q => q) fun _ _ q => q
/-- a new object is laid and tracked -/
theorem HOk.laid (x : HOk P w H h) (k : ∀ b u, h.get? b = some u → h'.get? b = some u) (hp : h.objs.size ≤ a) (new : ObjOk P w (upd H a o) h' a o) : HOk P w (upd H a o) h' := fun b u e => by
  have hn := x.fresh hp
  by_cases hb : b = a
  · subst hb; rw [upd_same] at e; cases e; exact new
  · rw [upd_ne hb] at e
    exact (x b u e).stay (fun c v _ q => k c v q) (fun c q => by rw [upd_ne (ne_of_none q hn)]; exact q) fun c xs q => by rw [upd_ne (ne_of_none q hn)]; exact q
end

/-- what may be read as u: it is u, or a known u -/
def Rd (H : Hp) (a : Addr) (u : HO) : Prop := H a = some u ∨ ∃ o, H a = some (.frz o u)
theorem Rd.of {H : Hp} {a : Addr} {u : HO} (h : H a = some u) : Rd H a u := .inl h
theorem Rd.ok {P : Program} {w : World} {H : Hp} {h : Heap} {a : Addr} {u : HO} (r : Rd H a u) (x : HOk P w H h) : ObjOk P w H h a u := by
  rcases r with r | ⟨o, r⟩
  · exact x a u r
  · obtain ⟨_, q⟩ := x a _ r
    exact q
/-- what may be written -/
def Mut : Option HO → Prop
  | some (.lst _) => True
  | some (.dK _) => True
  | some (.dT _) => True
  | some (.set _ _) => True
  | some (.ins _ _ _) => True
  | some (.ext _) => True
  | _ => False
section
variable {P : Program} {w : World} {H : Hp} {h h' : Heap} {x e : Addr} {o' : HO}
/-- the object at e is changed: x itself, or the dict of the instance x -/
theorem HOk.write (ok : HOk P w H h) (mu : Mut (H x)) (he : e = x ∨ H e = some (.own x)) (k : ∀ b u, b ≠ e → h.get? b = some u → h'.get? b = some u) (heo : ∃ u, h'.get? e = some u)
    (new : ObjOk P w (upd H x o') h' x o') : HOk P w (upd H x o') h' := fun b u q => by
  have nown : ∀ c y, H c = some (.own y) → c ≠ x := fun c y r z => by subst z; rw [r] at mu; exact mu
  have ntup : ∀ c xs, H c = some (.tup xs) → c ≠ x := fun c xs r z => by subst z; rw [r] at mu; exact mu
  by_cases hb : b = x
  · subst hb; rw [upd_same] at q; cases q; exact new
  · rw [upd_ne hb] at q
    by_cases hbe : b = e
    · have q' : H b = some (.own x) := by
        rcases he with z | z
        · exact absurd (hbe.trans z) hb
        · rw [hbe]; exact z
      rw [q] at q'; cases q'
      obtain ⟨v, hv⟩ := heo
      exact ⟨v, by rw [hbe]; exact hv⟩
    · refine (ok b u q).stay (fun c v hc r => k c v ?_ r) (fun c r => by rw [upd_ne (nown c b r)]; exact r) fun c xs r => by rw [upd_ne (ntup c xs r)]; exact r
      rcases hc with rfl | hc
      · exact hbe
      · rintro rfl
        rcases he with z | z
        · exact nown c b hc z
        · rw [hc] at z; cases z; exact hb rfl
end

/-! ### kept unless tracked; of the frames at fs (the callers') the slots may change (an exception that passes writes there); of the records at ex (iterators) nothing is said -/
structure Un (fs ex : List Addr) (H H' : Hp) (h h' : Heap) : Prop where
  keep : ∀ b o, h.get? b = some o → H b = none → b ∉ fs → b ∉ ex → h'.get? b = some o
  slot : ∀ b o, h.get? b = some o → H b = none → b ∈ fs → b ∉ ex → ∃ sl, h'.get? b = some { o with slots := sl }
  free : ∀ b o, h.get? b = some o → H b = none → b ∉ ex → H' b = none
  there : ∀ b o, h.get? b = some o → b ∉ ex → ∃ o', h'.get? b = some o'
  tups : ∀ b xs, H b = some (.tup xs) → H' b = some (.tup xs)
  frzs : ∀ b o u, H b = some (.frz o u) → H' b = some (.frz o u)
  tbls : ∀ b ps, H b = some (.tbl ps) → ∃ more, H' b = some (.tbl (ps ++ more))
section
variable {fs fs' ex ex' : List Addr} {H H1 H2 : Hp} {h h1 h2 h' : Heap} {a x e : Addr} {o : HO}
theorem Un.any (u : Un fs ex H H1 h h1) {b : Addr} {ob : Obj} (q : h.get? b = some ob) (n : H b = none) (hx : b ∉ ex) : ∃ sl, h1.get? b = some { ob with slots := sl } := by
  by_cases hb : b ∈ fs
  · exact u.slot b ob q n hb hx
  · exact ⟨ob.slots, u.keep b ob q n hb hx⟩
theorem Un.trans (a : Un fs ex H H1 h h1) (b : Un fs ex H1 H2 h1 h2) : Un fs ex H H2 h h2 where
  keep := fun c ob q n hc hx => b.keep c ob (a.keep c ob q n hc hx) (a.free c ob q n hx) hc hx
  slot := fun c ob q n hc hx => by
    obtain ⟨sl, e1⟩ := a.slot c ob q n hc hx
    obtain ⟨sl', e2⟩ := b.slot c _ e1 (a.free c ob q n hx) hc hx
    exact ⟨sl', e2⟩
  free := fun c ob q n hx => by
    obtain ⟨o', e1⟩ := a.there c ob q hx
    exact b.free c o' e1 (a.free c ob q n hx) hx
  there := fun c ob q hx => by
    obtain ⟨o', e1⟩ := a.there c ob q hx
    exact b.there c o' e1 hx
  tups := fun c xs q => b.tups c xs (a.tups c xs q)
  frzs := fun c ob xs q => b.frzs c ob xs (a.frzs c ob xs q)
  tbls := fun c ps q => by
    obtain ⟨m1, e1⟩ := a.tbls c ps q
    obtain ⟨m2, e2⟩ := b.tbls c _ e1
    exact ⟨m1 ++ m2, by rw [e2, Array.append_assoc]⟩
theorem Un.kept (k : ∀ b u, h.get? b = some u → h'.get? b = some u) : Un fs ex H H h h' :=
  ⟨fun b ob q _ _ _ => k b ob q, fun b ob q _ _ _ => ⟨ob.slots, k b ob q⟩, fun _ _ _ n _ => n, fun b ob q _ => ⟨ob, k b ob q⟩, fun _ _ q => q, fun _ _ _ q => q, fun _ ps q => ⟨#[], by rw [q]; simp⟩⟩
theorem Un.refl : Un fs ex H H h h := Un.kept fun _ _ q => q
theorem Un.laid (k : ∀ b u, h.get? b = some u → h'.get? b = some u) (hp : h.objs.size ≤ a) (hn : H a = none) : Un fs ex H (upd H a o) h h' where
  keep := fun b u q _ _ _ => k b u q
  slot := fun b u q _ _ _ => ⟨u.slots, k b u q⟩
  free := fun b u q n _ => by rw [upd_ne (Nat.ne_of_lt (Nat.lt_of_lt_of_le (Heap.lt_size q) hp))]; exact n
  there := fun b u q _ => ⟨u, k b u q⟩
  tups := fun b xs q => by rw [upd_ne (ne_of_none q hn)]; exact q
  frzs := fun b u xs q => by rw [upd_ne (ne_of_none q hn)]; exact q
  tbls := fun b ps q => ⟨#[], by rw [upd_ne (ne_of_none q hn), q]; simp⟩
theorem Un.write (mu : Mut (H x)) (he : e = x ∨ H e = some (.own x)) (k : ∀ b u, b ≠ e → h.get? b = some u → h'.get? b = some u) (heo : ∃ u, h'.get? e = some u) : Un fs ex H (upd H x o) h h' := by
  have hx : ∀ b, H b = none → b ≠ x := fun b n z => by subst z; rw [n] at mu; exact mu
  have hb : ∀ b, H b = none → b ≠ e := fun b n z => by
    subst z
    rcases he with r | r
    · exact hx b n r
    · rw [n] at r; cases r
  have hm : ∀ b u, H b = some u → ¬ Mut (some u) → b ≠ x := fun b u q nm z => by subst z; rw [q] at mu; exact nm mu
  refine ⟨fun b u q n _ _ => k b u (hb b n) q, fun b u q n _ _ => ⟨u.slots, k b u (hb b n) q⟩, fun b u q n _ => by rw [upd_ne (hx b n)]; exact n, fun b u q _ => ?_,
    fun b xs q => by rw [upd_ne (hm b _ q fun z => z)]; exact q, fun b u xs q => by rw [upd_ne (hm b _ q fun z => z)]; exact q, fun b ps q => ⟨#[], by rw [upd_ne (hm b _ q fun z => z), q]; simp⟩⟩
  by_cases hbe : b = e
  · subst hbe; exact heo
  · exact ⟨u, k b u hbe q⟩
theorem Un.mono (u : Un fs ex H H1 h h1) (hs : ∀ b ∈ fs, b ∈ fs') (hx : ∀ b ∈ ex, b ∈ ex') : Un fs' ex' H H1 h h1 :=
  ⟨fun b ob q n hb he => u.keep b ob q n (fun z => hb (hs b z)) fun z => he (hx b z), fun _ _ q n _ he => u.any q n fun z => he (hx _ z), fun b ob q n he => u.free b ob q n fun z => he (hx b z), fun b ob q he => u.there b ob q fun z => he (hx b z), u.tups, u.frzs, u.tbls⟩
end

/-! ### the heap without what is tracked -/
def trk (h : Heap) (H : Hp) : List Addr := (List.range h.objs.size).filter fun a => (H a).isSome
def hidT (h : Heap) (H : Hp) : Heap := PySem.W.hideAll h (trk h H)
theorem hidT_size (h : Heap) (H : Hp) : (hidT h H).objs.size = h.objs.size := PySem.W.hideAll_size _ _
theorem hidT_get {h : Heap} {H : Hp} {b : Addr} {o : Obj} (e : h.get? b = some o) (n : H b = none) : (hidT h H).get? b = some o :=
  PySem.W.hideAll_get _ e fun hm => by
    have q : (H b).isSome = true := (List.mem_filter.mp hm).2
    rw [n] at q; simp at q
theorem of_hidT {h : Heap} {H : Hp} {b : Addr} {o : Obj} (e : (hidT h H).get? b = some o) : h.get? b = some o ∧ H b = none := by
  have e' : h.get? b = some o := PySem.W.of_hideAll (trk h H) e
  refine ⟨e', ?_⟩
  cases q : H b with
  | none => rfl
  | some x =>
    have hm : b ∈ trk h H := List.mem_filter.mpr ⟨List.mem_range.mpr (Heap.lt_size e'), by simp [q]⟩
    have z : (hidT h H).get? b = none := PySem.W.hideAll_none (trk h H) hm
    rw [z] at e; cases e

/-! ### OpenK's ledger, filled with every new object but one -/
def allNews (g h : Heap) (L : Addr) : List (Addr × Obj) := (List.range h.objs.size).filterMap fun a => if a = L ∨ (g.get? a).isSome = true then none else (h.get? a).map fun o => (a, o)
def rest (g h : Heap) (L d : Addr) : List (Addr × Obj) := (allNews g h L).filter fun p => decide (p.1 ≠ d)
end L2

namespace L2
open PySem PySem.Spec PyProof.Rows

/-- the module's facts, over the base: the heap at the law's entry without what is tracked there -/
structure Mod (K : PySem.W.Frag) (mg : Str → Option Value) (base : Heap) : Prop where
  kin : K.In base
  glob : base.Ns mainGlobals mg
  blt : ∃ mb, base.Ns builtinsNs mb ∧ ∀ x : Str, x ≠ "__name__" → mb x = bootBuiltins x
  nolimit : base.NoLimit

/-- the context: a def's body (or a comprehension's block) running. base: fixed through the whole law; s₀, H₀: the entry; outer: the frames whose slots others may change (a def's callers); stack: all frames that run;
   ex: iterators that were made ahead of the entry and are walked here (a comprehension's); fn: the names whose cells were made at the entry (a def: all; a comprehension's block: its own); calm: not within an except suite; pn: pins that every state bears; xe: what is wanted of an exception that leaves the code -/
structure Cx where
  prog : Program
  w : World
  K : PySem.W.Frag
  mg : Str → Option Value
  base : Heap
  A : Around
  N : List Str
  s₀ : Shared
  H₀ : Hp
  env : Env
  outer : List Env
  stack : List Env
  ex : List Addr
  fn : Str → Bool
  calm : Bool
  pn : List (Addr × Obj)
  xe : Value → Shared → Prop
/-- the callers' frames -/
def frs (l : List Env) : List Addr := l.filterMap (·.frame)
abbrev Cx.fs (X : Cx) : List Addr := frs X.outer

def Vis (sc : Scope) (x : Str) : Prop := sc.names.lookup x = some .local ∨ sc.names.lookup x = some .cell ∨ sc.names.lookup x = some .free
def Loc (sc : Scope) (x : Str) : Prop := sc.names.lookup x = some .local ∨ sc.names.lookup x = some .cell
def Look (env : Env) (h : Heap) (m : Str → Option Value) (x : Str) (u : Value) : Prop :=
  (env.kindOf x = some .local ∧ m x = some u) ∨ ((env.kindOf x = some .cell ∨ env.kindOf x = some .free) ∧ ∃ c, env.cells.lookup x = some c ∧ h.IsCell c (some u))

structure Cx.Ok (X : Cx) : Prop where
  mod : Mod X.K X.mg X.base
  kind : X.env.scope.kind = .function
  glob : X.env.globals = mainGlobals
  blt : X.env.builtins = builtinsNs
  above : X.s₀.heap.objs.size ≤ X.env.locals
  inj : ∀ x y c, X.env.cells.lookup x = some c → X.env.cells.lookup y = some c → x = y
  has : ∀ x, (X.env.kindOf x = some .cell ∨ X.env.kindOf x = some .free) → ∃ c, X.env.cells.lookup x = some c
  cab : ∀ x c, X.fn x = true → X.env.cells.lookup x = some c → X.s₀.heap.objs.size ≤ c
  hd : X.calm = true → X.A.handled = none
  frames : X.A.frames = some X.stack
  stk : X.stack = X.outer ∨ (X.stack = X.env :: X.outer ∧ X.env.frame = some X.env.locals)
  exf : ∀ b ∈ X.ex, b ≠ X.env.locals ∧ ∀ x c, X.env.cells.lookup x = some c → c ≠ b
  bs : ∀ b o, X.base.get? b = some o → X.s₀.heap.get? b = some o ∧ X.H₀ b = none
  bsz : X.base.objs.size ≤ X.s₀.heap.objs.size
  noex : ∀ b o, X.base.get? b = some o → b ∉ X.ex
  exfs : ∀ b ∈ X.ex, b ∉ X.fs
  funs : X.s₀.heap.FunFrames X.base X.outer
  frf : ∀ b ∈ X.fs, X.H₀ b = none

structure Inv (X : Cx) (pins : List (Addr × Obj)) (σ : List (Option V)) (H : Hp) (s : Shared) : Prop where
  ok : X.Ok
  os : s.os = X.s₀.os
  bare : AllBare s.gens
  base : Un X.fs X.ex X.H₀ H X.s₀.heap s.heap
  loc : ∃ m, s.heap.Ns X.env.locals m ∧ ∀ (i : Nat) (x : Str) (v : V), X.N[i]? = some x → σ[i]? = some (some v) → Vis X.env.scope x → ∃ u, RelV v u ∧ Look X.env s.heap m x u
  cell : ∀ x c, X.env.cells.lookup x = some c → ∃ v, s.heap.IsCell c v
  free : H X.env.locals = none
  freeC : ∀ x c, X.env.cells.lookup x = some c → H c = none
  pin : ∀ p ∈ X.pn ++ pins, s.heap.get? p.1 = some p.2 ∧ H p.1 = none ∧ p.1 ≠ X.env.locals ∧ p.1 ∉ X.fs ∧ ∀ v, p.2.data ≠ .cell v
  hok : HOk X.prog X.w H s.heap
  len : σ.length = X.N.length

section
variable {X : Cx} {pins : List (Addr × Obj)} {σ : List (Option V)} {H H' : Hp} {s : Shared} {h' : Heap}

theorem Cx.Ok.nofr (ok : X.Ok) {b : Addr} {o : Obj} (e : X.base.get? b = some o) : b ∉ X.fs := fun hb => by
  have := (ok.funs.mem hb).1
  rw [e] at this; cases this
theorem Inv.bs (I : Inv X pins σ H s) : ∀ b o, X.base.get? b = some o → s.heap.get? b = some o ∧ H b = none := fun b o e =>
  ⟨I.base.keep b o (I.ok.bs b o e).1 (I.ok.bs b o e).2 (I.ok.nofr e) (I.ok.noex b o e), I.base.free b o (I.ok.bs b o e).1 (I.ok.bs b o e).2 (I.ok.noex b o e)⟩
theorem Inv.bk (I : Inv X pins σ H s) : ∀ b o, X.base.get? b = some o → s.heap.get? b = some o := fun b o e => (I.bs b o e).1
theorem Inv.mod (I : Inv X pins σ H s) : Mod X.K X.mg X.base := I.ok.mod
theorem Inv.kIn (I : Inv X pins σ H s) : X.K.In s.heap := I.ok.mod.kin.keeps I.bk
theorem Inv.nolimit (I : Inv X pins σ H s) : s.heap.NoLimit := I.ok.mod.nolimit.keeps I.bk
/-- the frame over the base: for OpenK's rules (K.In X.base is I.mod.kin) -/
theorem Inv.fr (I : Inv X pins σ H s) : ∃ m, Fr X.base X.env.locals s.heap m :=
  let ⟨m, hn, _⟩ := I.loc
  ⟨m, hn, I.bk, Nat.le_trans I.ok.bsz I.ok.above⟩
theorem Inv.lt (I : Inv X pins σ H s) : X.env.locals < s.heap.objs.size := let ⟨_, hn, _⟩ := I.loc; hn.lt
theorem Inv.sz (I : Inv X pins σ H s) : X.s₀.heap.objs.size ≤ s.heap.objs.size := Nat.le_trans I.ok.above (Nat.le_of_lt I.lt)
theorem Inv.nofs (I : Inv X pins σ H s) {a : Addr} (h : s.heap.objs.size ≤ a) : a ∉ X.fs := fun hb => by
  obtain ⟨_, o, ho, _⟩ := I.ok.funs.mem hb
  exact absurd (Nat.lt_of_lt_of_le (Heap.lt_size ho) (Nat.le_trans I.sz h)) (Nat.lt_irrefl _)
theorem Inv.cne (I : Inv X pins σ H s) : ∀ x c, X.env.cells.lookup x = some c → c ≠ X.env.locals := fun x c e z => by
  obtain ⟨v, o, ho, hd⟩ := I.cell x c e
  obtain ⟨m, ⟨o', es, ep, ho', hd', _⟩, _⟩ := I.loc
  rw [z, ho'] at ho; cases ho; rw [hd'] at hd; cases hd
theorem Inv.funs (I : Inv X pins σ H s) : s.heap.FunFrames X.base X.outer := by
  have all : ∀ (l : List Env), (∀ b ∈ frs l, b ∈ X.fs) → X.s₀.heap.FunFrames X.base l → s.heap.FunFrames X.base l := by
    intro l
    induction l with
    | nil => intro _ _; trivial
    | cons env r ih =>
      intro hs hl
      obtain ⟨hk, ⟨L, o, hf, hn, ho, hd⟩, hr⟩ := hl
      have hL : L ∈ X.fs := hs L (by unfold frs; rw [List.filterMap_cons, hf]; exact List.mem_cons_self)
      obtain ⟨sl, e⟩ := I.base.slot L o ho (I.ok.frf L hL) hL fun z => I.ok.exfs L z hL
      exact ⟨hk, ⟨L, _, hf, hn, e, hd⟩, ih (fun b hb => hs b (by unfold frs; rw [List.filterMap_cons, hf]; exact List.mem_cons_of_mem _ hb)) hr⟩
  exact all X.outer (fun _ hb => hb) I.ok.funs

/-- the frames that run, for a call -/
theorem Inv.stack (I : Inv X pins σ H s) : s.heap.FunFrames X.base X.stack := by
  rcases I.ok.stk with e | ⟨e, hf⟩
  · rw [e]; exact I.funs
  · rw [e]
    obtain ⟨m, hn, _⟩ := I.loc
    refine .cons (by rw [I.ok.kind]; decide) hf hn ?_ I.funs
    exact Heap.get?_none_of_le (Nat.le_trans I.ok.bsz I.ok.above)
theorem Inv.stkSub (I : Inv X pins σ H s) : ∀ b ∈ frs X.stack, b ∈ X.env.locals :: X.fs := fun b hb => by
  rcases I.ok.stk with e | ⟨e, hf⟩
  · rw [e] at hb; exact List.mem_cons_of_mem _ hb
  · rw [e] at hb
    unfold frs at hb
    rw [List.filterMap_cons, hf] at hb
    exact hb
theorem Inv.stkFree (I : Inv X pins σ H s) : ∀ b ∈ frs X.stack, H b = none := fun b hb => by
  rcases List.mem_cons.mp (I.stkSub b hb) with e | hb
  · rw [e]; exact I.free
  · obtain ⟨_, o, ho, _⟩ := I.ok.funs.mem hb
    exact I.base.free b o ho (I.ok.frf b hb) fun z => I.ok.exfs b z hb

/-- THE STEP: the untracked objects but the frame and the records at ch are kept (the callers' frames up to slots), the frame's map is kept, the new abstract heap is held -/
theorem Inv.step {g' : Array GenState} {t' : Nat} {d' : Drawn} {ch : List Addr} (I : Inv X pins σ H s)
    (hch : ∀ b ∈ ch, (b ∈ X.ex ∨ X.s₀.heap.objs.size ≤ b) ∧ b ≠ X.env.locals ∧ (∀ x c, X.env.cells.lookup x = some c → c ≠ b) ∧ ∀ p ∈ X.pn ++ pins, p.1 ≠ b)
    (keep : ∀ b o, b ≠ X.env.locals → b ∉ X.fs → b ∉ ch → s.heap.get? b = some o → H b = none → h'.get? b = some o)
    (slot : ∀ b o, b ≠ X.env.locals → b ∈ X.fs → b ∉ ch → s.heap.get? b = some o → H b = none → ∃ sl, h'.get? b = some { o with slots := sl }) (free : ∀ b o, b ∉ ch → s.heap.get? b = some o → H b = none → H' b = none)
    (there : ∀ b o, b ∉ ch → s.heap.get? b = some o → ∃ o', h'.get? b = some o')
    (tups : ∀ b xs, H b = some (.tup xs) → H' b = some (.tup xs)) (frzs : ∀ b o u, H b = some (.frz o u) → H' b = some (.frz o u)) (tbls : ∀ b ps, H b = some (.tbl ps) → ∃ more, H' b = some (.tbl (ps ++ more)))
    (ns : ∀ m, s.heap.Ns X.env.locals m → h'.Ns X.env.locals m) (hok : HOk X.prog X.w H' h') (hg : AllBare g') :
    Inv X pins σ H' { s with heap := h', gens := g', drawn := d', toks := t' } := by
  have neL : ∀ b o, X.s₀.heap.get? b = some o → b ≠ X.env.locals := fun b o e => Nat.ne_of_lt (Nat.lt_of_lt_of_le (Heap.lt_size e) I.ok.above)
  have neC : ∀ b o, X.s₀.heap.get? b = some o → b ∉ X.ex → b ∉ ch := fun b o e hx hb => by
    rcases (hch b hb).1 with z | z
    · exact hx z
    · exact absurd (Nat.lt_of_lt_of_le (Heap.lt_size e) z) (Nat.lt_irrefl _)
  have cellK : ∀ x c, X.env.cells.lookup x = some c → ∀ v, s.heap.IsCell c v → h'.IsCell c v := fun x c e v ⟨o, ho, hd⟩ => by
    have nch : c ∉ ch := fun z => (hch c z).2.2.1 x c e rfl
    by_cases hc : c ∈ X.fs
    · obtain ⟨sl, q⟩ := slot c o (I.cne x c e) hc nch ho (I.freeC x c e)
      exact ⟨_, q, hd⟩
    · exact ⟨o, keep c o (I.cne x c e) hc nch ho (I.freeC x c e), hd⟩
  refine ⟨I.ok, I.os, hg, ⟨fun b o e n hb hx => ?_, fun b o e n hb hx => ?_, fun b o e n hx => ?_, fun b o e hx => ?_, fun b xs e => tups b xs (I.base.tups b xs e), fun b o xs e => frzs b o xs (I.base.frzs b o xs e), fun b ps e => ?_⟩, ?_, fun x c e => ?_, ?_, fun x c e => ?_, fun p hp => ?_, hok, I.len⟩
  · exact keep b o (neL b o e) hb (neC b o e hx) (I.base.keep b o e n hb hx) (I.base.free b o e n hx)
  · obtain ⟨sl, e1⟩ := I.base.slot b o e n hb hx
    obtain ⟨sl', e2⟩ := slot b _ (neL b o e) hb (neC b o e hx) e1 (I.base.free b o e n hx)
    exact ⟨sl', e2⟩
  · obtain ⟨o', e1⟩ := I.base.there b o e hx
    exact free b o' (neC b o e hx) e1 (I.base.free b o e n hx)
  · obtain ⟨o', e1⟩ := I.base.there b o e hx
    exact there b o' (neC b o e hx) e1
  · obtain ⟨m1, e1⟩ := I.base.tbls b ps e
    obtain ⟨m2, e2⟩ := tbls b _ e1
    exact ⟨m1 ++ m2, by rw [e2, Array.append_assoc]⟩
  · obtain ⟨m, hn, hl⟩ := I.loc
    refine ⟨m, ns m hn, fun i x v e1 e2 e3 => ?_⟩
    obtain ⟨u, r, l⟩ := hl i x v e1 e2 e3
    refine ⟨u, r, ?_⟩
    rcases l with l | ⟨k, c, e, z⟩
    · exact .inl l
    · exact .inr ⟨k, c, e, cellK x c e _ z⟩
  · obtain ⟨v, z⟩ := I.cell x c e
    exact ⟨v, cellK x c e v z⟩
  · obtain ⟨m, ⟨o, _, _, ho, _⟩, _⟩ := I.loc
    exact free _ o (fun z => (hch _ z).2.1 rfl) ho I.free
  · obtain ⟨v, o, ho, hd⟩ := I.cell x c e
    exact free c o (fun z => (hch c z).2.2.1 x c e rfl) ho (I.freeC x c e)
  · obtain ⟨e, n, ne, nf, d⟩ := I.pin p hp
    have nch : p.1 ∉ ch := fun z => (hch p.1 z).2.2.2 p hp rfl
    exact ⟨keep p.1 p.2 ne nf nch e n, free p.1 p.2 nch e n, ne, nf, d⟩
/-- .. where the frame's own object is kept too -/
theorem Inv.un {t' : Nat} (I : Inv X pins σ H s) (u : Un X.fs [] H H' s.heap h') (hok : HOk X.prog X.w H' h') : Inv X pins σ H' { s with heap := h', toks := t' } := by
  obtain ⟨m, ⟨o, es, ep, ho, r⟩, _⟩ := id I.loc
  obtain ⟨sl, hL⟩ := u.any ho I.free (by simp)
  exact I.step (g' := s.gens) (d' := s.drawn) (ch := []) (fun _ z => nomatch z) (fun b o _ hb _ e n => u.keep b o e n hb (by simp)) (fun b o _ hb _ e n => u.slot b o e n hb (by simp)) (fun b o _ e n => u.free b o e n (by simp)) (fun b o _ e => u.there b o e (by simp)) u.tups u.frzs u.tbls (fun m' hm => by
    obtain ⟨o', es', ep', ho', r'⟩ := hm
    rw [ho] at ho'; cases ho'
    exact ⟨_, es', ep', hL, r'⟩) hok I.bare
/-- behind a call (or a comprehension's block): the slots of this frame may have changed too, the records at ch may have turned -/
theorem Inv.call {g' : Array GenState} {t' : Nat} {d' : Drawn} {ch : List Addr} (I : Inv X pins σ H s) (u : Un (frs X.stack) ch H H' s.heap h') (hok : HOk X.prog X.w H' h') (hg : AllBare g')
    (hch : ∀ b ∈ ch, (b ∈ X.ex ∨ X.s₀.heap.objs.size ≤ b) ∧ b ≠ X.env.locals ∧ (∀ x c, X.env.cells.lookup x = some c → c ≠ b) ∧ ∀ p ∈ X.pn ++ pins, p.1 ≠ b) :
    Inv X pins σ H' { s with heap := h', gens := g', drawn := d', toks := t' } := by
  obtain ⟨m, ⟨o, es, ep, ho, r⟩, _⟩ := id I.loc
  obtain ⟨sl, hL⟩ := u.any ho I.free fun z => (hch _ z).2.1 rfl
  exact I.step (ch := ch) hch (fun b o hL hb hc e n => u.keep b o e n (fun z => (List.mem_cons.mp (I.stkSub b z)).elim hL hb) hc) (fun b o _ _ hc e n => u.any e n hc) (fun b o hc e n => u.free b o e n hc) (fun b o hc e => u.there b o e hc) u.tups u.frzs u.tbls (fun m' hm => by
    obtain ⟨o', es', ep', ho', r'⟩ := hm
    rw [ho] at ho'; cases ho'
    exact ⟨_, es', ep', hL, r'⟩) hok hg
/-- an untracked record of ours (an iterator) has turned -/
theorem Inv.turned {t' : Nat} {it : Addr} (I : Inv X pins σ H s) (k : ∀ b o, b ≠ it → s.heap.get? b = some o → h'.get? b = some o) (hn : H it = none) (hL : it ≠ X.env.locals)
    (h1 : it ∈ X.ex ∨ X.s₀.heap.objs.size ≤ it) (h2 : ∀ x c, X.env.cells.lookup x = some c → c ≠ it) (h3 : ∀ p ∈ X.pn ++ pins, p.1 ≠ it) : Inv X pins σ H { s with heap := h', toks := t' } := by
  have nit : ∀ b u, H b = some u → b ≠ it := fun b u e z => by rw [z, hn] at e; cases e
  refine I.step (g' := s.gens) (d' := s.drawn) (ch := [it]) (fun b hb => ?_) (fun b o _ _ hc e _ => k b o (fun z => hc (by simp [z])) e) (fun b o _ _ hc e _ => ⟨o.slots, k b o (fun z => hc (by simp [z])) e⟩) (fun _ _ _ _ n => n)
    (fun b o hc e => ⟨o, k b o (fun z => hc (by simp [z])) e⟩) (fun _ _ e => e) (fun _ _ _ e => e) (fun b ps e => ⟨#[], by rw [e]; simp⟩) (fun m hm => ?_) (fun b u e => ?_) I.bare
  · have e : b = it := by simpa using hb
    subst e
    exact ⟨h1, hL, h2, h3⟩
  · obtain ⟨o, es, ep, ho, r⟩ := hm
    exact ⟨o, es, ep, k _ o (Ne.symm hL) ho, r⟩
  · refine (I.hok b u e).stay (fun c v hc q => k c v ?_ q) (fun _ q => q) fun _ _ q => q
    rcases hc with z | z
    · rw [z]; exact nit b u e
    · exact nit c _ z
theorem Inv.tok (I : Inv X pins σ H s) (t : Nat) : Inv X pins σ H { s with toks := t } := I.un (h' := s.heap) (t' := t) Un.refl I.hok
/-- all objects kept -/
theorem Inv.kept {t' : Nat} (I : Inv X pins σ H s) (k : ∀ b u, s.heap.get? b = some u → h'.get? b = some u) : Inv X pins σ H { s with heap := h', toks := t' } := I.un (Un.kept k) (I.hok.kept k)
/-- a new object laid and tracked -/
theorem Inv.laid {a : Addr} {o : HO} {t' : Nat} (I : Inv X pins σ H s) (k : ∀ b u, s.heap.get? b = some u → h'.get? b = some u) (hp : s.heap.objs.size ≤ a) (new : ObjOk X.prog X.w (upd H a o) h' a o) :
    Inv X pins σ (upd H a o) { s with heap := h', toks := t' } := I.un (Un.laid k hp (I.hok.fresh hp)) (I.hok.laid k hp new)
/-- an object written -/
theorem Inv.write {x e : Addr} {o : HO} {t' : Nat} (I : Inv X pins σ H s) (mu : Mut (H x)) (he : e = x ∨ H e = some (.own x)) (k : ∀ b u, b ≠ e → s.heap.get? b = some u → h'.get? b = some u) (heo : ∃ u, h'.get? e = some u)
    (new : ObjOk X.prog X.w (upd H x o) h' x o) : Inv X pins σ (upd H x o) { s with heap := h', toks := t' } := I.un (Un.write mu he k heo) (I.hok.write mu he k heo new)
/-- forgetting slots, pins -/
theorem Inv.weak {σ' : List (Option V)} (I : Inv X pins σ H s) (hl : σ'.length = σ.length) (w : ∀ (i : Nat) v, σ'[i]? = some (some v) → σ[i]? = some (some v)) : Inv X pins σ' H s :=
  ⟨I.ok, I.os, I.bare, I.base, let ⟨m, hn, hl'⟩ := I.loc; ⟨m, hn, fun i x v e1 e2 e3 => hl' i x v e1 (w i v e2) e3⟩, I.cell, I.free, I.freeC, I.pin, I.hok, hl.trans I.len⟩
theorem Inv.pins_of {pins' : List (Addr × Obj)} (I : Inv X pins σ H s) (h : ∀ p ∈ pins', s.heap.get? p.1 = some p.2 ∧ H p.1 = none ∧ p.1 ≠ X.env.locals ∧ p.1 ∉ X.fs ∧ ∀ v, p.2.data ≠ .cell v) : Inv X pins' σ H s :=
  ⟨I.ok, I.os, I.bare, I.base, I.loc, I.cell, I.free, I.freeC, fun p hp => (List.mem_append.mp hp).elim (fun z => I.pin p (List.mem_append_left _ z)) (h p), I.hok, I.len⟩

theorem nodup_ix {N : List Str} (hN : N.Nodup) {i j : Nat} {x : Str} (a : N[i]? = some x) (b : N[j]? = some x) : i = j := by
  obtain ⟨h1, e1⟩ := List.getElem?_eq_some_iff.mp a
  obtain ⟨h2, e2⟩ := List.getElem?_eq_some_iff.mp b
  exact (List.getElem_inj hN).mp (e1.trans e2.symm)

/-- a name is stored; what changed -/
theorem store_ok2 {M : Model} {A : Around} {E : Value → Shared → Prop} {i : Nat} {x : Str} {v : V} {u : Value} {Q : Unit → Shared → Prop} (I : Inv X pins σ H s) (hN : X.N.Nodup) (hi : X.N[i]? = some x) (hx : Loc X.env.scope x) (r : RelV v u)
    (h : ∀ s', Inv X pins (σ.set i (some v)) H s' → (∃ a, Heap.SameBut a s.heap s'.heap ∧ (a = X.env.locals ∨ X.env.cells.lookup x = some a)) → Q () s') (hf : X.fn x = true ∨ X.env.scope.names.lookup x = some .local := by first | exact .inl rfl | exact .inr rfl | assumption) : wpAny M A (storeName X.env x u) Q E s := by
  obtain ⟨m, hn, hl⟩ := id I.loc
  have hcls : (X.env.scope.kind == .class || (X.env.scope.kind == .module && X.env.locals != X.env.globals)) = false := by rw [I.ok.kind]; rfl
  have hiσ : i < σ.length := by rw [I.len]; exact (List.getElem?_eq_some_iff.mp hi).1
  have cne := I.cne
  have tracked : ∀ {a : Addr} {h' : Heap}, (∃ o, s.heap.get? a = some o ∧ H a = none) → Heap.SameBut a s.heap h' → HOk X.prog X.w H h' := fun {a h'} ha hs b ob e => by
    obtain ⟨_, _, hfree⟩ := ha
    refine (I.hok b ob e).stay (fun c w' hc q => (hs.2 c ?_).trans q) (fun _ q => q) fun _ _ q => q
    rintro rfl
    rcases hc with rfl | hc
    · rw [hfree] at e; cases e
    · rw [hfree] at hc; cases hc
  rcases hx with hk | hk
  · refine wpAny_storeName_local hk hn (fun h' hn' hs => ?_) hcls
    obtain ⟨oL, _, _, hoL, _⟩ := id hn
    refine h _ ⟨I.ok, I.os, I.bare, ⟨fun b o e n hb hx => ?_, fun b o e n hb hx => ?_, I.base.free, fun b o e hx => ?_, I.base.tups, I.base.frzs, I.base.tbls⟩, ⟨_, hn', fun j y v' e1 e2 e3 => ?_⟩, fun y c e => ?_, I.free, I.freeC, fun p hp => ?_, tracked ⟨oL, hoL, I.free⟩ hs, by simpa using I.len⟩ ⟨_, hs, .inl rfl⟩
    · exact (hs.2 b (Nat.ne_of_lt (Nat.lt_of_lt_of_le (Heap.lt_size e) I.ok.above))).trans (I.base.keep b o e n hb hx)
    · obtain ⟨sl, e1⟩ := I.base.slot b o e n hb hx
      exact ⟨sl, (hs.2 b (Nat.ne_of_lt (Nat.lt_of_lt_of_le (Heap.lt_size e) I.ok.above))).trans e1⟩
    · obtain ⟨o', e1⟩ := I.base.there b o e hx
      exact ⟨o', (hs.2 b (Nat.ne_of_lt (Nat.lt_of_lt_of_le (Heap.lt_size e) I.ok.above))).trans e1⟩
    · by_cases hj : j = i
      · subst hj
        rw [hi] at e1; cases e1
        rw [List.getElem?_set_self hiσ] at e2
        cases e2
        exact ⟨u, r, .inl ⟨hk, by simp⟩⟩
      · rw [List.getElem?_set_ne (Ne.symm hj)] at e2
        obtain ⟨u', r', q⟩ := hl j y v' e1 e2 e3
        refine ⟨u', r', ?_⟩
        rcases q with ⟨k, e⟩ | ⟨k, c, e, z⟩
        · refine .inl ⟨k, ?_⟩
          have : y ≠ x := fun e => hj (nodup_ix hN e1 (e ▸ hi))
          simp [this, e]
        · exact .inr ⟨k, c, e, z.sameBut hs (cne y c e)⟩
    · obtain ⟨w', z⟩ := I.cell y c e
      exact ⟨w', z.sameBut hs (cne y c e)⟩
    · obtain ⟨e, n, ne, nf, d⟩ := I.pin p hp
      exact ⟨(hs.2 p.1 ne).trans e, n, ne, nf, d⟩
  · have hfn : X.fn x = true := by
      rcases hf with z | z
      · exact z
      · rw [z] at hk; cases hk
    obtain ⟨c, hc⟩ := I.ok.has x (.inl hk)
    obtain ⟨w', z⟩ := I.cell x c hc
    refine wpAny_storeName_cell I.ok.kind hk hc z (fun h' hc' hs => ?_)
    obtain ⟨oc, hoc, hocd⟩ := id z
    refine h { s with heap := h' } ⟨I.ok, I.os, I.bare, ⟨fun b o e n hb hx => ?_, fun b o e n hb hx => ?_, I.base.free, fun b o e hx => ?_, I.base.tups, I.base.frzs, I.base.tbls⟩, ⟨m, hn.sameBut hs (Ne.symm (cne x c hc)), fun j y v' e1 e2 e3 => ?_⟩, fun y c' e => ?_, I.free, I.freeC, fun p hp => ?_, tracked ⟨oc, hoc, I.freeC x c hc⟩ hs, by simpa using I.len⟩ ⟨c, hs, .inr hc⟩
    · exact (hs.2 b (Nat.ne_of_lt (Nat.lt_of_lt_of_le (Heap.lt_size e) (I.ok.cab x c hfn hc)))).trans (I.base.keep b o e n hb hx)
    · obtain ⟨sl, e1⟩ := I.base.slot b o e n hb hx
      exact ⟨sl, (hs.2 b (Nat.ne_of_lt (Nat.lt_of_lt_of_le (Heap.lt_size e) (I.ok.cab x c hfn hc)))).trans e1⟩
    · obtain ⟨o', e1⟩ := I.base.there b o e hx
      exact ⟨o', (hs.2 b (Nat.ne_of_lt (Nat.lt_of_lt_of_le (Heap.lt_size e) (I.ok.cab x c hfn hc)))).trans e1⟩
    · by_cases hj : j = i
      · subst hj
        rw [hi] at e1; cases e1
        rw [List.getElem?_set_self hiσ] at e2
        cases e2
        exact ⟨u, r, .inr ⟨.inl hk, c, hc, hc'⟩⟩
      · rw [List.getElem?_set_ne (Ne.symm hj)] at e2
        obtain ⟨u', r', q⟩ := hl j y v' e1 e2 e3
        refine ⟨u', r', ?_⟩
        rcases q with q | ⟨k, c', e, z'⟩
        · exact .inl q
        · refine .inr ⟨k, c', e, z'.sameBut hs ?_⟩
          rintro rfl
          exact hj (nodup_ix hN e1 (I.ok.inj _ _ _ e hc ▸ hi))
    · by_cases hcc : c' = c
      · subst hcc; exact ⟨_, hc'⟩
      · obtain ⟨w2, z2⟩ := I.cell y c' e
        exact ⟨w2, z2.sameBut hs hcc⟩
    · obtain ⟨e, n, ne, nf, d⟩ := I.pin p hp
      refine ⟨(hs.2 p.1 ?_).trans e, n, ne, nf, d⟩
      intro q
      rw [q, hoc] at e
      have q' : oc = p.2 := Option.some.inj e
      exact d w' (by rw [← q']; exact hocd)
theorem store_ok {M : Model} {A : Around} {E : Value → Shared → Prop} {i : Nat} {x : Str} {v : V} {u : Value} {Q : Unit → Shared → Prop} (I : Inv X pins σ H s) (hN : X.N.Nodup) (hi : X.N[i]? = some x) (hx : Loc X.env.scope x) (r : RelV v u)
    (h : ∀ s', Inv X pins (σ.set i (some v)) H s' → Q () s') (hf : X.fn x = true ∨ X.env.scope.names.lookup x = some .local := by first | exact .inl rfl | exact .inr rfl | assumption) : wpAny M A (storeName X.env x u) Q E s :=
  store_ok2 I hN hi hx r (fun s' I' _ => h s' I') hf
/-- behind a call or a block, the state as it is -/
theorem Inv.call' {s' : Shared} {ch : List Addr} (I : Inv X pins σ H s) (ho : s'.os = s.os) (u : Un (frs X.stack) ch H H' s.heap s'.heap) (hok : HOk X.prog X.w H' s'.heap) (hg : AllBare s'.gens)
    (hch : ∀ b ∈ ch, (b ∈ X.ex ∨ X.s₀.heap.objs.size ≤ b) ∧ b ≠ X.env.locals ∧ (∀ x c, X.env.cells.lookup x = some c → c ≠ b) ∧ ∀ p ∈ X.pn ++ pins, p.1 ≠ b) : Inv X pins σ H' s' := by
  obtain ⟨h', g', d', t', o'⟩ := s'
  have e : o' = s.os := ho
  subst e
  exact I.call (g' := g') (t' := t') (d' := d') u hok hg hch
end

/-! ### the judgements -/
/-- an exception: its class, its own dict's address (where it has one), the abstract heap behind it -/
abbrev XK := Value → Option Addr → Hp → Prop
abbrev St := List (Option V)
abbrev VK := V → Hp → Prop
/-- an expression's reading; a test's; an argument list's -/
abbrev TE := St → Hp → VK → Prop
abbrev TT := St → Hp → (Bool → Hp → Prop) → Prop
abbrev TA := St → Hp → (List V → Hp → Prop) → Prop
/-- what is wanted behind a statement -/
structure Ends where
  nx : St → Hp → Prop
  rt : VK
  bk : St → Hp → Prop := fun _ _ => False
  ct : St → Hp → Prop := fun _ _ => False
abbrev TS := Ends → St → Hp → Prop

def EP (X : Cx) (pins : List (Addr × Obj)) (σ : St) (Q : VK) (u : Value) (s' : Shared) : Prop := ∃ v H', Inv X pins σ H' s' ∧ RelV v u ∧ Q v H'
def TP (X : Cx) (pins : List (Addr × Obj)) (σ : St) (Q : Bool → Hp → Prop) (b : Bool) (s' : Shared) : Prop := ∃ H', Inv X pins σ H' s' ∧ Q b H'
def AP (X : Cx) (pins : List (Addr × Obj)) (σ : St) (Q : List V → Hp → Prop) (us : List Value) (s' : Shared) : Prop := ∃ vs H', Inv X pins σ H' s' ∧ Vals vs us ∧ Q vs H'
def SP (X : Cx) (pins : List (Addr × Obj)) (D : Ends) (f : Flow) (s' : Shared) : Prop :=
  match f with
  | .next => ∃ σ' H', Inv X pins σ' H' s' ∧ D.nx σ' H'
  | .brk => ∃ σ' H', Inv X pins σ' H' s' ∧ D.bk σ' H'
  | .cont => ∃ σ' H', Inv X pins σ' H' s' ∧ D.ct σ' H'
  | .ret u => ∃ v σ' H', Inv X pins σ' H' s' ∧ RelV v u ∧ D.rt v H'

def PE (X : Cx) (e : Expr) (t : TE) : Prop :=
  ∀ (pins : List (Addr × Obj)) (s : Shared) (σ : St) (H : Hp) (Q : VK), Inv X pins σ H s → t σ H Q → wpAny (model X.prog X.w) X.A (eval e X.env) (EP X pins σ Q) X.xe s
def PT (X : Cx) (e : Expr) (t : TT) : Prop :=
  ∀ (pins : List (Addr × Obj)) (s : Shared) (σ : St) (H : Hp) (Q : Bool → Hp → Prop), Inv X pins σ H s → t σ H Q → wpAny (model X.prog X.w) X.A (isTrue e X.env (eval e X.env)) (TP X pins σ Q) X.xe s
/-- a test whatever its 'whole' is (and, or) -/
def PW (X : Cx) (e : Expr) (t : TT) : Prop :=
  ∀ (whole : Sem Value) (pins : List (Addr × Obj)) (s : Shared) (σ : St) (H : Hp) (Q : Bool → Hp → Prop), Inv X pins σ H s → t σ H Q → wpAny (model X.prog X.w) X.A (isTrue e X.env whole) (TP X pins σ Q) X.xe s
theorem PW.pt {X : Cx} {e : Expr} {t : TT} (h : PW X e t) : PT X e t := h _
/-- an argument list (no star), from the left -/
def PA (X : Cx) (es : List Expr) (t : TA) : Prop :=
  ∀ (pos : Pos) (pins : List (Addr × Obj)) (s : Shared) (σ : St) (H : Hp) (Q : List V → Hp → Prop), Inv X pins σ H s → t σ H Q → wpAny (model X.prog X.w) X.A (spliced (backTo pos (starEach es X.env))) (AP X pins σ Q) X.xe s
def PS (X : Cx) (st : Stmt) (t : TS) : Prop :=
  ∀ (pins : List (Addr × Obj)) (s : Shared) (σ : St) (H : Hp) (D : Ends), Inv X pins σ H s → t D σ H → wpAny (model X.prog X.w) X.A (exec st X.env) (SP X pins D) X.xe s
def PSs (X : Cx) (st : List Stmt) (t : TS) : Prop :=
  ∀ (pins : List (Addr × Obj)) (s : Shared) (σ : St) (H : Hp) (D : Ends), Inv X pins σ H s → t D σ H → wpAny (model X.prog X.w) X.A (execs st X.env) (SP X pins D) X.xe s
/-- weaken the end -/
theorem thn {α : Type} {t : Sem α} {Q Q' : α → Shared → Prop} {M : Model} {A : Around} {E : Value → Shared → Prop} {s : Shared} (h : wpAny M A t Q E s) (hQ : ∀ a s, Q a s → Q' a s) : wpAny M A t Q' E s := wpAny_mono h hQ fun _ _ x => x
end L2

namespace L2
open PySem PySem.Spec PyProof.Rows
section
variable {X : Cx}

/-- two expressions in a row -/
theorem bin {a b : Expr} {ta tb : TE} (ha : PE X a ta) (hb : PE X b tb) {pins : List (Addr × Obj)} {s : Shared} {σ : St} {H : Hp} {R : V → V → Hp → Prop} (I : Inv X pins σ H s) (h : ta σ H fun x H1 => tb σ H1 fun y H2 => R x y H2)
    {α : Type} {Q : α → Shared → Prop} {f : Value → Value → Sem α}
    (hf : ∀ v u s2 x y H2, Inv X pins σ H2 s2 → RelV x v → RelV y u → R x y H2 → wpAny (model X.prog X.w) X.A (f v u) Q X.xe s2) :
    wpAny (model X.prog X.w) X.A (eval a X.env) (fun v s₁ => wpAny (model X.prog X.w) X.A (eval b X.env) (fun u s₂ => wpAny (model X.prog X.w) X.A (f v u) Q X.xe s₂) X.xe s₁) X.xe s := by
  refine thn (ha pins s σ H _ I h) fun v s1 ⟨x, H1, I1, r1, q1⟩ => ?_
  refine thn (hb pins s1 σ H1 _ I1 q1) fun u s2 ⟨y, H2, I2, r2, q2⟩ => ?_
  exact hf v u s2 x y H2 I2 r1 r2 q2

/-! ### names and constants -/
def tVar (i : Nat) : TE := fun σ H Q => ∃ v, σ[i]? = some (some v) ∧ Q v H
def tC (v : V) : TE := fun _ H Q => Q v H
theorem pe_var {i : Nat} {x : Str} {pos : Pos} (hN : X.N[i]? = some x) (hv : Vis X.env.scope x) (hd : (x == ("__debug__" : Str)) = false := by decide) (hcd : (x == ("__classdict__" : Str)) = false := by decide) : PE X (.Name x pos) (tVar i) := by
  intro pins s σ H Q I h
  obtain ⟨v, e, h⟩ := h
  obtain ⟨m, hn, hl⟩ := I.loc
  obtain ⟨u, r, l⟩ := hl i x v hN e hv
  have fin : EP X pins σ Q u s := ⟨v, H, I, r, h⟩
  rcases l with ⟨hk, hm⟩ | ⟨hk, c, hc, hcell⟩
  · exact wpAny_Name (wpAny_loadName_local I.ok.kind hk hn hm fin) hd
  · rcases hk with hk | hk
    · exact wpAny_Name (wpAny_loadName_cell I.ok.kind hk hc hcell fin) hd
    · exact wpAny_Name (wpAny_loadName_free I.ok.kind hk hc hcell fin hcd) hd
theorem pe_int {i j pos} : PE X (.Constant (.int i) j pos) (tC (.int i)) := fun _ _ _ H _ I h => wpAny_Constant_int ⟨.int i, H, I.tok _, ⟨_, rfl⟩, h⟩
theorem pe_bl {b j pos} : PE X (.Constant (.bool b) j pos) (tC (.bl b)) := fun _ _ _ H _ I h => Constant_bool ⟨.bl b, H, I, rfl, h⟩
theorem pe_non {j pos} : PE X (.Constant .none j pos) (tC .non) := fun _ _ _ H _ I h => Constant_none ⟨.non, H, I, rfl, h⟩
theorem pe_str {x j pos} : PE X (.Constant (.str x) j pos) (tC (.str x)) := fun _ _ _ H _ I h => Calls.Constant_str ⟨.str x, H, I.tok _, ⟨_, rfl⟩, h⟩

/-- a global name of the def -/
def Gl (X : Cx) (x : Str) : Prop := X.env.kindOf x = some .globalImplicit
theorem ld_glob {E : Value → Shared → Prop} {pins : List (Addr × Obj)} {s : Shared} {σ : St} {H : Hp} {x : Str} {u : Value} {pos : Pos} {Q : Value → Shared → Prop} (I : Inv X pins σ H s) (hg : Gl X x) (hm : X.mg x = some u) (h : Q u s)
    (hd : (x == ("__debug__" : Str)) = false := by decide) : wpAny (model X.prog X.w) X.A (eval (.Name x pos) X.env) Q E s :=
  Calls.Name_function_global I.ok.kind hg (Calls.loadGlobal_global (by rw [I.ok.glob]; exact I.mod.glob.keeps I.bk) hm h) hd
theorem ld_blt {E : Value → Shared → Prop} {pins : List (Addr × Obj)} {s : Shared} {σ : St} {H : Hp} {x : Str} {u : Value} {pos : Pos} {Q : Value → Shared → Prop} (I : Inv X pins σ H s) (hg : Gl X x) (hm : X.mg x = none) (hv : bootBuiltins x = some u) (h : Q u s)
    (hn : x ≠ "__name__" := by decide) (hd : (x == ("__debug__" : Str)) = false := by decide) : wpAny (model X.prog X.w) X.A (eval (.Name x pos) X.env) Q E s := by
  obtain ⟨mb, h1, h2⟩ := I.mod.blt
  exact Calls.Name_function_global I.ok.kind hg (Calls.loadGlobal_builtin (by rw [I.ok.glob]; exact I.mod.glob.keeps I.bk) hm (by rw [I.ok.blt]; exact h1.keeps I.bk) ((h2 x hn).trans hv) h) hd
/-- a module's constant, a class, a function, as a value -/
theorem pe_glob {x : Str} {v : V} {u : Value} {pos : Pos} (hg : Gl X x) (hm : X.mg x = some u) (r : RelV v u) (hd : (x == ("__debug__" : Str)) = false := by decide) : PE X (.Name x pos) (tC v) :=
  fun _ _ _ H _ I h => ld_glob I hg hm ⟨v, H, I, r, h⟩ hd
theorem pe_bltn {x : Str} {v : V} {u : Value} {pos : Pos} (hg : Gl X x) (hm : X.mg x = none) (hv : bootBuiltins x = some u) (r : RelV v u) (hn : x ≠ "__name__" := by decide) (hd : (x == ("__debug__" : Str)) = false := by decide) : PE X (.Name x pos) (tC v) :=
  fun _ _ _ H _ I h => ld_blt I hg hm hv ⟨v, H, I, r, h⟩ hn hd

/-! ### arithmetic -/
/-- two ints -/
def t2I (ta tb : TE) (k : Int → Int → Hp → Prop) : St → Hp → Prop := fun σ H => ta σ H fun x H1 => tb σ H1 fun y H2 => ∃ i j, x = .int i ∧ y = .int j ∧ k i j H2
def tAdd (ta tb : TE) : TE := fun σ H Q => t2I ta tb (fun i j H2 => Q (.int (i + j)) H2) σ H
def tSub (ta tb : TE) : TE := fun σ H Q => t2I ta tb (fun i j H2 => Q (.int (i - j)) H2) σ H
/-- the left factor below 2^64 -/
def tMul (ta tb : TE) : TE := fun σ H Q => t2I ta tb (fun i j H2 => (-(2 ^ 64) < i ∧ i < 2 ^ 64) ∧ Q (.int (i * j)) H2) σ H
variable {a b : Expr} {ta tb : TE} {pos : Pos}
/-! ### comparisons -/
def PC (X : Cx) (op : CmpOp) (a b : Expr) (t : TE) : Prop :=
  ∀ (pins : List (Addr × Obj)) (s : Shared) (σ : St) (H : Hp) (Q : VK), Inv X pins σ H s → t σ H Q →
    wpAny (model X.prog X.w) X.A (eval a X.env) (fun v s₁ => wpAny (model X.prog X.w) X.A (eval b X.env) (fun u s₂ => wpAny (model X.prog X.w) X.A (compareOp op v u) (EP X pins σ Q) X.xe s₂) X.xe s₁) X.xe s
theorem nobehind (b : Expr) {op : CmpOp} (h : op ≠ .In) (h2 : op ≠ .NotIn) : behindInMarks op b = false := by
  have e1 : (op == CmpOp.In) = false := by cases op <;> first | rfl | exact absurd rfl h
  have e2 : (op == CmpOp.NotIn) = false := by cases op <;> first | rfl | exact absurd rfl h2
  cases b <;> simp [behindInMarks, e1, e2]
def tCmp (p : Int → Int → Bool) (ta tb : TE) : TE := fun σ H Q => t2I ta tb (fun i j H2 => Q (.bl (p i j)) H2) σ H
abbrev tLt : TE → TE → TE := tCmp fun i j => decide (i < j)
abbrev tLe : TE → TE → TE := tCmp fun i j => decide (i ≤ j)
abbrev tGt : TE → TE → TE := tCmp fun i j => decide (j < i)
abbrev tGe : TE → TE → TE := tCmp fun i j => decide (j ≤ i)
abbrev tEqI : TE → TE → TE := tCmp fun i j => decide (i = j)
abbrev tNeI : TE → TE → TE := tCmp fun i j => !decide (i = j)
/-- is None -/
def tIsN (ta : TE) : TE := fun σ H Q => ta σ H fun x H1 => Q (.bl (decide (x = .non))) H1
def tNotN (ta : TE) : TE := fun σ H Q => ta σ H fun x H1 => Q (.bl (!decide (x = .non))) H1
/-- a comparison as a value, as a test -/
def tB (t : TE) : TT := fun σ H Q => t σ H fun x H1 => ∃ c, x = .bl c ∧ Q c H1
theorem pe_cmp {op : CmpOp} {t : TE} (h : PC X op a b t) (h1 : behindInMarks op b = false := by first | exact nobehind _ (by decide) (by decide) | rfl) : PE X (.Compare a [op] [b] pos) t := fun pins s σ H Q I hw => wpAny_Compare1 (h pins s σ H Q I hw) h1
theorem pt_cmp {op : CmpOp} {t : TE} (h : PC X op a b t) (h1 : behindInMarks op b = false := by first | exact nobehind _ (by decide) (by decide) | rfl) : PT X (.Compare a [op] [b] pos) (tB t) := by
  intro pins s σ H Q I hw
  refine wpAny_isTrue_Compare1 (thn (h pins s σ H _ I hw) fun v s1 h1 => thn h1 fun u s2 h2 => thn h2 fun c s3 ⟨x, H1, I1, r1, q1⟩ => ?_) h1
  obtain ⟨d, rfl, q⟩ := q1
  cases r1
  exact wpAny_truthy_bool ⟨H1, I1, q⟩
/-! ### and, or, not -/
variable {tA tB' : TT} {rest : List Expr}
def tAnd (t u : TT) : TT := fun σ H Q => t σ H fun c H1 => if c = true then u σ H1 Q else Q false H1
def tOr (t u : TT) : TT := fun σ H Q => t σ H fun c H1 => if c = true then Q true H1 else u σ H1 Q
def tNot (t : TT) : TT := fun σ H Q => t σ H fun c H1 => Q (!c) H1
theorem pw_or1 (ha : PT X a tA) : PW X (.BoolOp .Or [a] pos) tA := by
  intro wh pins s σ H Q I h
  refine isTrue_or (thn (ha pins s σ H Q I h) fun c s1 e => ?_)
  cases c with
  | false => exact isTrue_or_nil e
  | true => exact e
theorem pw_or (ha : PT X a tA) (hb : PW X (.BoolOp .Or (b :: rest) pos) tB') : PW X (.BoolOp .Or (a :: b :: rest) pos) (tOr tA tB') := by
  intro wh pins s σ H Q I h
  refine isTrue_or (thn (ha pins s σ H _ I h) fun c s1 ⟨H1, I1, q1⟩ => ?_)
  cases c with
  | true => exact ⟨H1, I1, q1⟩
  | false => exact hb wh pins s1 σ H1 Q I1 q1
theorem pt_not (ha : PT X a tA) : PT X (.UnaryOp .Not a pos) (tNot tA) := by
  intro pins s σ H Q I h
  exact isTrue_not (ha pins s σ H (fun c H1 => Q (!c) H1) I h)
/-- .. as values (bools) -/
def tAndV (ta tb : TE) : TE := fun σ H Q => ta σ H fun x H1 => ∃ c, x = .bl c ∧ if c = true then tb σ H1 Q else Q (.bl false) H1
def tOrV (ta tb : TE) : TE := fun σ H Q => ta σ H fun x H1 => ∃ c, x = .bl c ∧ if c = true then Q (.bl true) H1 else tb σ H1 Q
def tNotV (ta : TE) : TE := fun σ H Q => ta σ H fun x H1 => ∃ c, x = .bl c ∧ Q (.bl (!c)) H1
theorem pe_one {op} {t : TE} (h : PE X a t) : PE X (.BoolOp op [a] pos) t := fun pins s σ H Q I hw => BoolOp_one (h pins s σ H Q I hw)
theorem pe_and (ha : PE X a ta) (hb : PE X (.BoolOp .And (b :: rest) pos) tb) : PE X (.BoolOp .And (a :: b :: rest) pos) (tAndV ta tb) := by
  intro pins s σ H Q I h
  refine BoolOp_and (thn (ha pins s σ H _ I h) fun v s1 ⟨x, H1, I1, r1, q1⟩ => ?_)
  obtain ⟨c, rfl, q1⟩ := q1
  cases r1
  refine wpAny_truthy_bool ?_
  cases c with
  | true => exact hb pins s1 σ H1 Q I1 q1
  | false => exact ⟨.bl false, H1, I1, rfl, q1⟩
theorem pe_not (ha : PE X a ta) : PE X (.UnaryOp .Not a pos) (tNotV ta) := by
  intro pins s σ H Q I h
  refine UnaryOp_ (thn (ha pins s σ H _ I h) fun v s1 ⟨x, H1, I1, r1, q1⟩ => ?_)
  obtain ⟨c, rfl, q1⟩ := q1
  cases r1
  exact not_of (wpAny_truthy_bool ⟨.bl (!c), H1, I1, rfl, q1⟩)
/-- a if t else b -/
def tIf (t : TT) (ta tb : TE) : TE := fun σ H Q => t σ H fun c H1 => if c = true then ta σ H1 Q else tb σ H1 Q
end
end L2

namespace L2
open PySem PySem.Spec PyProof.Rows

/-! ### a list, a tuple that is read: tracked, frozen, or an object of the module -/
def SqL (K : PySem.W.Frag) (H : Hp) (a : Addr) (xs : List V) : Prop :=
  Rd H a (.lst xs) ∨
    ∃ (o : Obj) (its : Array Value) (n : Nat), K.lookup a = some o ∧ o.cls = .type "list" ∧ o.dict = none ∧ o.data = .seq its n ∧ its.size ≤ sizeLine ∧ Vals xs its.toList
def SqT (K : PySem.W.Frag) (H : Hp) (a : Addr) (xs : List V) : Prop :=
  Rd H a (.tup xs) ∨
    ∃ (o : Obj) (its : Array Value) (n : Nat), K.lookup a = some o ∧ o.cls = .type "tuple" ∧ o.data = .seq its n ∧ its.size ≤ sizeLine ∧ Vals xs its.toList
def absV : Value → Option V
  | .none => some .non
  | .bool b => some (.bl b)
  | .int i _ => some (.int i)
  | .str x _ => some (.str x)
  | .bytes b _ => some (.byt b)
  | .float b _ => some (.flt b)
  | .ref a => some (.ref a)
  | .type n => some (.ty n)
  | _ => none
theorem RelV.abs {x : V} {u : Value} (r : RelV x u) : absV u = some x := by
  cases x with
  | non => cases r; rfl
  | bl _ => cases r; rfl
  | int _ => obtain ⟨t, rfl⟩ := r; rfl
  | str _ => obtain ⟨t, rfl⟩ := r; rfl
  | byt _ => obtain ⟨t, rfl⟩ := r; rfl
  | flt _ => obtain ⟨t, rfl⟩ := r; rfl
  | ref _ => cases r; rfl
  | ty _ => cases r; rfl
theorem RelV.inj {x y : V} {u : Value} (r : RelV x u) (q : RelV y u) : x = y := Option.some.inj (r.abs.symm.trans q.abs)
theorem Vals.inj : ∀ {xs ys : List V} {us : List Value}, Vals xs us → Vals ys us → xs = ys
  | _, _, _, .nil, .nil => rfl
  | _, _, _, .cons r t, .cons r' t' => by rw [r.inj r', Vals.inj t t']
section
variable {X : Cx} {pins : List (Addr × Obj)} {σ : St} {H : Hp} {s : Shared} {a : Addr} {xs ys : List V}
theorem SqL.of {K : PySem.W.Frag} (h : H a = some (.lst xs)) : SqL K H a xs := .inl (.inl h)
theorem SqT.of {K : PySem.W.Frag} (h : H a = some (.tup xs)) : SqT K H a xs := .inl (.inl h)
theorem Inv.list (I : Inv X pins σ H s) (h : SqL X.K H a xs) : ∃ its : List Value, Vals xs its ∧ PlainL s.heap a its.toArray ∧ xs.length ≤ sizeLine := by
  rcases h with h | ⟨o, its, n, hk, hc, hd, hs, hz, r⟩
  · obtain ⟨z, its, n, r, e⟩ := h.ok I.hok
    exact ⟨its, r, ⟨_, n, e, rfl, rfl, rfl⟩, z⟩
  · refine ⟨its.toList, r, ⟨o, n, I.kIn a o hk, hc, hd, by simpa using hs⟩, ?_⟩
    have e := r.length
    simp only [Array.length_toList] at e
    omega
theorem Inv.tuple (I : Inv X pins σ H s) (h : SqT X.K H a xs) : ∃ its : List Value, Vals xs its ∧ IsTup s.heap a its.toArray ∧ xs.length ≤ sizeLine := by
  rcases h with h | ⟨o, its, n, hk, hc, hs, hz, r⟩
  · obtain ⟨z, its, r, p⟩ := h.ok I.hok
    exact ⟨its, r, p, z⟩
  · refine ⟨its.toList, r, ⟨o, I.kIn a o hk, hc, n, by simpa using hs⟩, ?_⟩
    have e := r.length
    simp only [Array.length_toList] at e
    omega
theorem Inv.list_inj (I : Inv X pins σ H s) (h : SqL X.K H a xs) (h' : SqL X.K H a ys) : xs = ys := by
  obtain ⟨its, r, ⟨o, n, e, _, _, d⟩, _⟩ := I.list h
  obtain ⟨its', r', ⟨o', n', e', _, _, d'⟩, _⟩ := I.list h'
  rw [e] at e'; cases e'
  rw [d] at d'
  injection d' with d1 _
  have : its = its' := by simpa using congrArg Array.toList d1
  subst this
  exact r.inj r'
theorem Inv.tuple_inj (I : Inv X pins σ H s) (h : SqT X.K H a xs) (h' : SqT X.K H a ys) : xs = ys := by
  obtain ⟨its, r, ⟨o, e, _, n, d⟩, _⟩ := I.tuple h
  obtain ⟨its', r', ⟨o', e', _, n', d'⟩, _⟩ := I.tuple h'
  rw [e] at e'; cases e'
  rw [d] at d'
  injection d' with d1 _
  have : its = its' := by simpa using congrArg Array.toList d1
  subst this
  exact r.inj r'
end

/-! ### another wish about exceptions -/
abbrev Cx.wish (X : Cx) (E : Value → Shared → Prop) : Cx := { X with xe := E }
/-- no exception leaves -/
abbrev Cx.nox (X : Cx) : Cx := X.wish fun _ _ => False
theorem Cx.Ok.wish {X : Cx} (ok : X.Ok) (E : Value → Shared → Prop) : (X.wish E).Ok :=
  ⟨ok.mod, ok.kind, ok.glob, ok.blt, ok.above, ok.inj, ok.has, ok.cab, ok.hd, ok.frames, ok.stk, ok.exf, ok.bs, ok.bsz, ok.noex, ok.exfs, ok.funs, ok.frf⟩
theorem Cx.Ok.unwish {X : Cx} {E : Value → Shared → Prop} (ok : (X.wish E).Ok) : X.Ok :=
  ⟨ok.mod, ok.kind, ok.glob, ok.blt, ok.above, ok.inj, ok.has, ok.cab, ok.hd, ok.frames, ok.stk, ok.exf, ok.bs, ok.bsz, ok.noex, ok.exfs, ok.funs, ok.frf⟩
section
variable {X : Cx} {pins : List (Addr × Obj)} {σ : St} {H : Hp} {s : Shared} {E : Value → Shared → Prop}
theorem Inv.wish (I : Inv X pins σ H s) (E : Value → Shared → Prop) : Inv (X.wish E) pins σ H s := ⟨I.ok.wish E, I.os, I.bare, I.base, I.loc, I.cell, I.free, I.freeC, I.pin, I.hok, I.len⟩
theorem Inv.unwish (I : Inv (X.wish E) pins σ H s) : Inv X pins σ H s := ⟨I.ok.unwish, I.os, I.bare, I.base, I.loc, I.cell, I.free, I.freeC, I.pin, I.hok, I.len⟩
theorem SP.unwish {D : Ends} {f : Flow} {s' : Shared} (h : SP (X.wish E) pins D f s') : SP X pins D f s' := by
  cases f with
  | next => obtain ⟨σ', H', I, q⟩ := h; exact ⟨σ', H', I.unwish, q⟩
  | brk => obtain ⟨σ', H', I, q⟩ := h; exact ⟨σ', H', I.unwish, q⟩
  | cont => obtain ⟨σ', H', I, q⟩ := h; exact ⟨σ', H', I.unwish, q⟩
  | ret u => obtain ⟨v, σ', H', I, r, q⟩ := h; exact ⟨v, σ', H', I.unwish, r, q⟩
theorem PE.nox {e : Expr} {t : TE} (h : PE X.nox e t) : PE X e t := fun pins s σ H Q I hw =>
  wpAny_mono (h pins s σ H Q (I.wish _) hw) (fun _ _ ⟨v, H', I', r, q⟩ => ⟨v, H', I'.unwish, r, q⟩) fun _ _ z => False.elim z
theorem PT.nox {e : Expr} {t : TT} (h : PT X.nox e t) : PT X e t := fun pins s σ H Q I hw =>
  wpAny_mono (h pins s σ H Q (I.wish _) hw) (fun _ _ ⟨H', I', q⟩ => ⟨H', I'.unwish, q⟩) fun _ _ z => False.elim z
theorem PSs.nox {st : List Stmt} {t : TS} (h : PSs X.nox st t) : PSs X st t := fun pins s σ H D I hw =>
  wpAny_mono (h pins s σ H D (I.wish _) hw) (fun _ _ q => q.unwish) fun _ _ z => False.elim z
end

/-! ### blocks and small statements -/
section
variable {X : Cx} {st : Stmt} {rest : List Stmt} {t u : TS} {e : Expr} {te : TE} {pos : Pos}
def tNext : TS := fun D σ H => D.nx σ H
def tSeq (t u : TS) : TS := fun D σ H => t { D with nx := u D } σ H
theorem pss_nil : PSs X [] tNext := fun _ _ σ H _ I h => wpAny_execs_nil ⟨σ, H, I, h⟩
theorem pss_cons (h1 : PS X st t) (h2 : PSs X rest u) : PSs X (st :: rest) (tSeq t u) := by
  intro pins s σ H D I h
  refine wpAny_execs_cons (thn (h1 pins s σ H { D with nx := u D } I h) fun f s1 q => ?_)
  cases f with
  | next =>
    obtain ⟨σ', H', I', q⟩ := q
    exact h2 pins s1 σ' H' D I' q
  | ret v => exact q
  | brk => exact q
  | cont => exact q
theorem pss_one (h1 : PS X st t) : PSs X [st] t := by
  intro pins s σ H D I h
  refine wpAny_execs_cons (thn (h1 pins s σ H D I h) fun f s1 q => ?_)
  cases f with
  | next => exact wpAny_execs_nil q
  | ret v => exact q
  | brk => exact q
  | cont => exact q
def tBreak : TS := fun D σ H => D.bk σ H
def tCont : TS := fun D σ H => D.ct σ H
/-- in a def's body nothing is shown -/
theorem Inv.quiet {pins : List (Addr × Obj)} {σ : St} {H : Hp} {s : Shared} (I : Inv X pins σ H s) : interactive X.env = false := by simp [interactive, I.ok.kind]
/-- an expression whose value is dropped -/
def tDrop (te : TE) : TS := fun D σ H => te σ H fun _ H1 => D.nx σ H1
theorem ps_expr (he : PE X e te) (hs : swapsWith e none pos.line X.env = pure false := by rfl) : PS X (.Expr e pos) (tDrop te) := by
  intro pins s σ H D I h
  exact wpAny_Expr_any (thn (he pins s σ H _ I h) fun v s1 ⟨x, H1, I1, r1, q1⟩ => ⟨σ, H1, I1, q1⟩) I.quiet hs
def tRet (te : TE) : TS := fun D σ H => te σ H D.rt
theorem ps_ret (he : PE X e te) : PS X (.Return (some e) pos) (tRet te) := by
  intro pins s σ H D I h
  exact wpAny_Return_some (thn (he pins s σ H _ I h) fun v s1 ⟨x, H1, I1, r1, q1⟩ => ⟨x, σ, H1, I1, r1, q1⟩)
def tRetN : TS := fun D _ H => D.rt .non H
def tIfS (c : TT) (t u : TS) : TS := fun D σ H => c σ H fun b H1 => if b = true then t D σ H1 else u D σ H1
theorem ps_if {c : Expr} {a b : List Stmt} {tc : TT} (hc : PT X c tc) (ha : PSs X a t) (hb : PSs X b u) : PS X (.If c a b pos) (tIfS tc t u) := by
  intro pins s σ H D I h
  refine wpAny_If (thn (hc pins s σ H _ I h) fun d s1 ⟨H1, I1, q1⟩ => ?_)
  cases d with
  | true => exact ha pins s1 σ H1 D I1 q1
  | false => exact hb pins s1 σ H1 D I1 q1
/-- code that the proof never comes to -/
def tNever : TS := fun _ _ _ => False
end

/-! ### targets -/
abbrev TG := V → St → Hp → (St → Hp → Prop) → Prop
abbrev TGs := List V → St → Hp → (St → Hp → Prop) → Prop
def PG (X : Cx) (target : Expr) (t : TG) : Prop :=
  ∀ (pins : List (Addr × Obj)) (s : Shared) (σ : St) (H : Hp) (v : V) (u : Value) (Q : St → Hp → Prop), Inv X pins σ H s → RelV v u → t v σ H Q →
    wpAny (model X.prog X.w) X.A (assign target X.env u) (fun _ s' => ∃ σ' H', Inv X pins σ' H' s' ∧ Q σ' H') X.xe s
/-- several targets, one after another -/
def PGs (X : Cx) (ts : List Expr) (t : TGs) : Prop :=
  ∀ (pins : List (Addr × Obj)) (s : Shared) (σ : St) (H : Hp) (vs : List V) (us : List Value) (Q : St → Hp → Prop), Inv X pins σ H s → Vals vs us → t vs σ H Q →
    wpAny (model X.prog X.w) X.A (assignInOrder ((assignEach ts X.env).map (·.2)) us) (fun _ s' => ∃ σ' H', Inv X pins σ' H' s' ∧ Q σ' H') X.xe s
/-- o[i] = v, by values -/
abbrev TSet := V → V → V → Hp → (Hp → Prop) → Prop
def PSet (X : Cx) (t : TSet) : Prop :=
  ∀ (pins : List (Addr × Obj)) (s : Shared) (σ : St) (H : Hp) (o i v : V) (ov iv u : Value) (Q : Hp → Prop), Inv X pins σ H s → RelV o ov → RelV i iv → RelV v u → t o i v H Q →
    wpAny (model X.prog X.w) X.A (setItem ov iv u) (fun _ s' => ∃ H', Inv X pins σ H' s' ∧ Q H') X.xe s
/-- a op= b, by values -/
abbrev TIp := V → V → Hp → VK → Prop
def PIp (X : Cx) (op : Operator) (t : TIp) : Prop :=
  ∀ (pins : List (Addr × Obj)) (s : Shared) (σ : St) (H : Hp) (x y : V) (v u : Value) (Q : VK), Inv X pins σ H s → RelV x v → RelV y u → t x y H Q →
    wpAny (model X.prog X.w) X.A (inplaceOp op v u) (EP X pins σ Q) X.xe s
section
variable {X : Cx} {pos : Pos}
def gName (i : Nat) : TG := fun v σ H Q => Q (σ.set i (some v)) H
theorem pg_name {i : Nat} {x : Str} (hN : X.N.Nodup) (hi : X.N[i]? = some x) (hx : Loc X.env.scope x) (hf : X.fn x = true ∨ X.env.scope.names.lookup x = some .local := by first | exact .inl rfl | exact .inr rfl | assumption) : PG X (.Name x pos) (gName i) := by
  intro pins s σ H v u Q I r h
  exact wpAny_assign_Name (store_ok I hN hi hx r (fun s' I' => ⟨_, H, I', h⟩) hf)
def gNil : TGs := fun vs σ H Q => vs = [] ∧ Q σ H
def gCons (t : TG) (u : TGs) : TGs := fun vs σ H Q => ∃ v r, vs = v :: r ∧ t v σ H fun σ' H' => u r σ' H' Q
theorem pgs_nil : PGs X [] gNil := by
  intro pins s σ H vs us Q I r h
  obtain ⟨e, h⟩ := h
  subst e
  cases r
  exact assignInOrder_nil ⟨σ, H, I, h⟩
theorem pgs_cons {e : Expr} {es : List Expr} {t : TG} {u : TGs} (h1 : PG X e t) (h2 : PGs X es u)
    (hs : (assignEach (e :: es) X.env).map (·.2) = assign e X.env :: (assignEach es X.env).map (·.2) := by rfl) : PGs X (e :: es) (gCons t u) := by
  intro pins s σ H vs us Q I r h
  obtain ⟨v, vr, e1, h⟩ := h
  subst e1
  cases r with
  | cons r rr =>
    rw [hs]
    refine assignInOrder_cons (thn (h1 pins s σ H _ _ _ I r h) fun _ s1 ⟨σ1, H1, I1, q1⟩ => ?_)
    exact h2 pins s1 σ1 H1 _ _ Q I1 rr q1
/-- (a, b, ..) = a tuple of that length -/
def gTup (K : PySem.W.Frag) (n : Nat) (t : TGs) : TG := fun v σ H Q => ∃ a xs, v = .ref a ∧ SqT K H a xs ∧ xs.length = n ∧ t xs σ H Q
theorem pg_tup {es : List Expr} {k : Nat} {t : TGs} {n : Nat} (hc : X.calm = true) (h : PGs X es t)
    (hn : (assignEach es X.env).length = n := by rfl) (hst : (assignEach es X.env).findIdx? (·.1) = none := by rfl) : PG X (.Tuple es k pos) (gTup X.K n t) := by
  intro pins s σ H v u Q I r hw
  obtain ⟨a, xs, e1, hq, hl, hw⟩ := hw
  subst e1
  cases r
  obtain ⟨its, rv, ht, hz⟩ := I.tuple hq
  refine assign_Tuple_tuple (I.ok.hd hc) ht (by simp [hn, ← hl, rv.length]) hst fun h' hx => ?_
  have I1 : Inv X pins σ H { s with heap := h' } := I.kept (t' := s.toks) fun b o e => hx b o (Nat.ne_of_lt (Heap.lt_size e)) e
  exact h pins _ σ H xs _ Q I1 (by simpa using rv) hw
/-- o[i] = .. -/
def gSub (to ti : TE) (t : TSet) : TG := fun v σ H Q => to σ H fun o H1 => ti σ H1 fun i H2 => t o i v H2 fun H3 => Q σ H3
/-- target = value -/
def tAsg (te : TE) (g : TG) : TS := fun D σ H => te σ H fun x H1 => g x σ H1 D.nx
theorem ps_asg {tg e : Expr} {te : TE} {g : TG} (he : PE X e te) (hg : PG X tg g) (hs : swapsWithSole [tg] e pos.line X.env = pure false := by rfl) (hw : swappedStores [tg] e X.env = pure none := by rfl)
    (h1 : (assignEach [tg] X.env).map (·.2) = [assign tg X.env] := by rfl) : PS X (.Assign [tg] e pos) (tAsg te g) := by
  intro pins s σ H D I h
  refine wpAny_Assign_stores (thn (he pins s σ H _ I h) fun v s1 ⟨x, H1, I1, r1, q1⟩ => ?_) hs hw
  rw [h1]
  exact thn (hg pins s1 σ H1 x v _ I1 r1 q1) fun _ s2 q => q
/-- name = value -/
theorem ps_set {i : Nat} {x : Str} {e : Expr} {te : TE} {pos' : Pos} (hN : X.N.Nodup) (hi : X.N[i]? = some x) (hx : Loc X.env.scope x) (he : PE X e te) (hs : swapsWith e (some (.Name x pos')) pos.line X.env = pure false := by rfl) (hf : X.fn x = true ∨ X.env.scope.names.lookup x = some .local := by first | exact .inl rfl | exact .inr rfl | assumption) :
    PS X (.Assign [.Name x pos'] e pos) (tAsg te (gName i)) := by
  intro pins s σ H D I h
  refine wpAny_Assign_Name (thn (he pins s σ H _ I h) fun v s1 ⟨y, H1, I1, r1, q1⟩ => ?_) hs
  exact store_ok I1 hN hi hx r1 (fun s2 I2 => ⟨_, H1, I2, q1⟩) hf
/-- a, b = x, y with plain local names: stored from the right; the pair itself is not tracked (the opening rows as in PyProof/Rows/TupAssign.lean:23) -/
def tPar (i j : Nat) (ta : TA) : TS := fun D σ H => ta σ H fun vs H1 => ∃ v w, vs = [v, w] ∧ D.nx ((σ.set i (some v)).set j (some w)) H1
/-- name op= e -/
def tAug (i : Nat) (te : TE) (ti : TIp) : TS := fun D σ H => ∃ x, σ[i]? = some (some x) ∧ te σ H fun y H1 => ti x y H1 fun z H2 => D.nx (σ.set i (some z)) H2
/-- o[i] op= e -/
def tAugS (to ti te : TE) (tget : V → V → Hp → VK → Prop) (tip : TIp) (tset : TSet) : TS := fun D σ H => to σ H fun o H1 => ti σ H1 fun i H2 => tget o i H2 fun x H3 => te σ H3 fun y H4 => tip x y H4 fun z H5 => tset o i z H5 fun H6 => D.nx σ H6
/-- o[i], by values -/
def PGet (X : Cx) (t : V → V → Hp → VK → Prop) : Prop :=
  ∀ (pins : List (Addr × Obj)) (s : Shared) (σ : St) (H : Hp) (o i : V) (ov iv : Value) (Q : VK), Inv X pins σ H s → RelV o ov → RelV i iv → t o i H Q →
    wpAny (model X.prog X.w) X.A (getItem ov iv) (EP X pins σ Q) X.xe s
/-- ints -/
def ipI (f : Int → Int → Int) : TIp := fun x y H Q => ∃ i j, x = .int i ∧ y = .int j ∧ Q (.int (f i j)) H
end

/-! ### while -/
section
variable {X : Cx} {pos : Pos}
/-- the invariant W with its measure -/
def tWhile (c : TT) (tb : TS) : TS := fun D σ H => ∃ W : Nat → St → Hp → Prop, (∃ m, W m σ H) ∧ ∀ m σ H, W m σ H →
  c σ H fun b H1 => if b = true then ∃ N : St → Hp → Prop, (∀ σ' H', N σ' H' → ∃ m', m' < m ∧ W m' σ' H') ∧ tb { D with nx := N, ct := N, bk := D.nx } σ H1 else D.nx σ H1
end

/-! ### what a loop or a comprehension walks -/
/-- at turn i: it yields x (the heap may grow), or it stops -/
structure It where
  go : Nat → Hp → Prop
  yld : Nat → Hp → V → Hp → Prop
  stop : Nat → Hp → Prop
/-- the iterator's own objects may turn: they are not the frame's, not pinned, younger than the entry (or a comprehension's own) -/
def FpOk (X : Cx) (pins : List (Addr × Obj)) (H : Hp) (b : Addr) : Prop :=
  H b = none ∧ b ≠ X.env.locals ∧ b ∉ X.fs ∧ (b ∈ X.ex ∨ X.s₀.heap.objs.size ≤ b) ∧ (∀ x c, X.env.cells.lookup x = some c → c ≠ b) ∧ ∀ p ∈ X.pn ++ pins, p.1 ≠ b
theorem Inv.fpOk {X : Cx} {pins : List (Addr × Obj)} {σ : St} {H H' : Hp} {s : Shared} {b : Addr} (I : Inv X pins σ H s) (hb : s.heap.objs.size ≤ b) (hn : H' b = none) : FpOk X pins H' b := by
  refine ⟨hn, Nat.ne_of_gt (Nat.lt_of_lt_of_le I.lt hb), I.nofs hb, .inr (Nat.le_trans I.sz hb), fun x c e z => ?_, fun p hp z => ?_⟩
  · obtain ⟨v, q⟩ := I.cell x c e
    exact absurd (Nat.lt_of_lt_of_le q.lt (by rw [z]; exact hb)) (Nat.lt_irrefl _)
  · exact absurd (Nat.lt_of_lt_of_le (Heap.lt_size (I.pin p hp).1) (by rw [z]; exact hb)) (Nat.lt_irrefl _)
structure Turn (P : Program) (w : World) (K : PySem.W.Frag) (tg : Expr) (J : It) (fp : List Addr) (it : Addr) (tn : Nat → Heap → Prop) : Prop where
  mem : it ∈ fp
  obj : ∀ i h, tn i h → ∀ b ∈ fp, ∃ o, h.get? b = some o ∧ ∀ v, o.data ≠ .cell v
  keep : ∀ i h h', tn i h → (∀ b ∈ fp, ∀ o, h.get? b = some o → h'.get? b = some o) → tn i h'
  item : ∀ (X : Cx), X.prog = P → X.w = w → X.K = K → X.calm = true → ∀ (i : Nat) (pins : List (Addr × Obj)) (s : Shared) (σ : St) (H : Hp) (E : Value → Shared → Prop), Inv X pins σ H s → (∀ b ∈ fp, FpOk X pins H b) → tn i s.heap → J.go i H →
    wpAny (model P w) X.A (pyNext (.ref it)) (fun r s1 => ∃ u, r = some u ∧
      wpAny (model P w) X.A (letOwnedTupleGo tg (.ref it) u) (fun _ s2 => ∃ x H', Inv X pins σ H' s2 ∧ RelV x u ∧ J.yld i H x H' ∧ tn (i + 1) s2.heap ∧ ∀ b ∈ fp, H' b = none) E s1) E s
  done : ∀ (X : Cx), X.prog = P → X.w = w → X.K = K → X.calm = true → ∀ (i : Nat) (pins : List (Addr × Obj)) (s : Shared) (σ : St) (H : Hp) (E : Value → Shared → Prop), Inv X pins σ H s → (∀ b ∈ fp, FpOk X pins H b) → tn i s.heap → J.stop i H →
    wpAny (model P w) X.A (pyNext (.ref it)) (fun r s1 => r = none ∧ Inv X pins σ H s1) E s
  self : ∀ (A : Around) (i : Nat) (s : Shared) (Q : Value → Shared → Prop) (E : Value → Shared → Prop), tn i s.heap → Q (.ref it) s → wpAny (model P w) A (pyIter (.ref it)) Q E s
abbrev TI := St → Hp → (It → Hp → Prop) → Prop
/-- an iterator has come -/
def PIE (X : Cx) (pins : List (Addr × Obj)) (σ : St) (tg : Expr) (R : It → Hp → Prop) (itv : Value) (s2 : Shared) : Prop :=
  ∃ (it : Addr) (fp : List Addr) (tn : Nat → Heap → Prop) (J : It) (H' : Hp), itv = .ref it ∧ Inv X pins σ H' s2 ∧ Turn X.prog X.w X.K tg J fp it tn ∧ tn 0 s2.heap ∧ (∀ b ∈ fp, FpOk X pins H' b) ∧ R J H'
def PI (X : Cx) (tg iter : Expr) (wi : TI) : Prop :=
  ∀ (pins : List (Addr × Obj)) (s : Shared) (σ : St) (H : Hp) (R : It → Hp → Prop), Inv X pins σ H s → wi σ H R →
    wpAny (model X.prog X.w) X.A (eval iter X.env) (fun v s1 => wpAny (model X.prog X.w) X.A (pyIter v) (PIE X pins σ tg R) X.xe s1) X.xe s

/-- the step ahead of the store is nothing for an iterator that keeps no tuple -/
theorem go_of {M : Model} {A : Around} {E : Value → Shared → Prop} {s : Shared} {tg : Expr} {it : Addr} {u : Value} {o : Obj} {n : String} {vs : Array Value} {Q : Unit → Shared → Prop} (ho : s.heap.get? it = some o) (hc : o.cls = .type n) (hd : o.data = .fields vs)
    (hn : ["enumerate", "zip", "dict_itemiterator", "dict_reverseitemiterator", "odict_iterator", "itertools.zip_longest", "itertools.pairwise"].contains n = false) (hQ : Q () s) : wpAny M A (letOwnedTupleGo tg (.ref it) u) Q E s := by
  unfold letOwnedTupleGo
  cases tg <;> first
    | exact wpAny_pure hQ
    | (cases u <;> first
        | exact wpAny_pure hQ
        | (refine wpAny_bind (wpAny_load ho ?_)
           rw [hc, hd]
           show wpAny M A (if (["enumerate", "zip", "dict_itemiterator", "dict_reverseitemiterator", "odict_iterator", "itertools.zip_longest", "itertools.pairwise"].contains n && vs[0]? == some (rawInt _)) = true then _ else _) Q E s
           rw [if_neg (by intro h; rw [hn, Bool.false_and] at h; cases h)]
           exact wpAny_pure hQ))

/-- the list at a, as it stands at each turn (a loop may append to it) -/
def Itl (K : PySem.W.Frag) (a : Addr) : It :=
  ⟨fun i H => ∃ xs x, SqL K H a xs ∧ xs[i]? = some x, fun i H x H' => H' = H ∧ ∀ xs, SqL K H a xs → xs[i]? = some x, fun i H => ∃ xs, SqL K H a xs ∧ xs.length ≤ i⟩
def Itt (K : PySem.W.Frag) (a : Addr) : It :=
  ⟨fun i H => ∃ xs x, SqT K H a xs ∧ xs[i]? = some x, fun i H x H' => H' = H ∧ ∀ xs, SqT K H a xs → xs[i]? = some x, fun i H => ∃ xs, SqT K H a xs ∧ xs.length ≤ i⟩
/-- lo, lo + 1, .. (n of them) -/
def Itr (lo : Int) (n : Nat) : It := ⟨fun i _ => i < n, fun i H x H' => H' = H ∧ x = .int (lo + i), fun i _ => n ≤ i⟩
theorem turn_list {P : Program} {w : World} {K : PySem.W.Frag} {tg : Expr} (a it : Addr) : Turn P w K tg (Itl K a) [it] it (fun i h => h.IsListIter it a i) where
  mem := by simp
  obj := fun i h st b hb => by
    have e : b = it := by simpa using hb
    subst e
    obtain ⟨o, e, c, d⟩ := st
    exact ⟨o, e, fun v z => by rw [d] at z; cases z⟩
  keep := fun i h h' st k => st.at fun o e => k it (by simp) o e
  item := by
    intro X hP hw hK hc i pins s σ H E I hf st hg
    subst hP hw hK
    obtain ⟨xs, x, hq, hx⟩ := hg
    obtain ⟨its, rv, p, hz⟩ := I.list hq
    obtain ⟨u, hu, ru⟩ := rv.get hx
    obtain ⟨f0, f1, f2, f3, f4, f5⟩ := hf it (by simp)
    refine wpAny_pyNext_list_item st p.isList (x := u) (by simpa using hu) fun h' st' sb => ?_
    have I1 : Inv X pins σ H { s with heap := h' } := I.turned (t' := s.toks) (fun b o hb e => (sb.2 b hb).trans e) f0 f1 f3 f4 f5
    obtain ⟨o, e, c, d⟩ := id st'
    exact ⟨u, rfl, go_of (s := { s with heap := h' }) e c d (by decide) ⟨x, H, I1, ru, ⟨rfl, fun ys hy => by rw [I.list_inj hy hq]; exact hx⟩, st', fun b hb => (hf b hb).1⟩⟩
  done := by
    intro X hP hw hK hc i pins s σ H E I hf st hg
    subst hP hw hK
    obtain ⟨xs, hq, hx⟩ := hg
    obtain ⟨its, rv, p, hz⟩ := I.list hq
    obtain ⟨f0, f1, f2, f3, f4, f5⟩ := hf it (by simp)
    have hl := rv.length
    exact wpAny_pyNext_list_end (I.ok.hd hc) st p.isList (by simp; omega) fun h' eb => ⟨rfl, I.turned (t' := s.toks) (fun b o hb e => eb b o hb e) f0 f1 f3 f4 f5⟩
  self := fun _ _ _ _ _ st h => wpAny_pyIter_listiter st h
theorem turn_tuple {P : Program} {w : World} {K : PySem.W.Frag} {tg : Expr} (a it : Addr) : Turn P w K tg (Itt K a) [it] it (fun i h => h.IsTupleIter it a i) where
  mem := by simp
  obj := fun i h st b hb => by
    have e : b = it := by simpa using hb
    subst e
    obtain ⟨o, e, c, d⟩ := st
    exact ⟨o, e, fun v z => by rw [d] at z; cases z⟩
  keep := fun i h h' st k => st.at fun o e => k it (by simp) o e
  item := by
    intro X hP hw hK hc i pins s σ H E I hf st hg
    subst hP hw hK
    obtain ⟨xs, x, hq, hx⟩ := hg
    obtain ⟨its, rv, p, hz⟩ := I.tuple hq
    obtain ⟨u, hu, ru⟩ := rv.get hx
    obtain ⟨f0, f1, f2, f3, f4, f5⟩ := hf it (by simp)
    refine wpAny_pyNext_tuple_item st (show s.heap.IsTuple a its.toArray from p) (x := u) (by simpa using hu) fun h' st' sb => ?_
    have I1 : Inv X pins σ H { s with heap := h' } := I.turned (t' := s.toks) (fun b o hb e => (sb.2 b hb).trans e) f0 f1 f3 f4 f5
    obtain ⟨o, e, c, d⟩ := id st'
    exact ⟨u, rfl, go_of (s := { s with heap := h' }) e c d (by decide) ⟨x, H, I1, ru, ⟨rfl, fun ys hy => by rw [I.tuple_inj hy hq]; exact hx⟩, st', fun b hb => (hf b hb).1⟩⟩
  done := by
    intro X hP hw hK hc i pins s σ H E I hf st hg
    subst hP hw hK
    obtain ⟨xs, hq, hx⟩ := hg
    obtain ⟨its, rv, p, hz⟩ := I.tuple hq
    obtain ⟨f0, f1, f2, f3, f4, f5⟩ := hf it (by simp)
    have hl := rv.length
    exact wpAny_pyNext_tuple_end (I.ok.hd hc) st (show s.heap.IsTuple a its.toArray from p) (by simp; omega) fun h' eb => ⟨rfl, I.turned (t' := s.toks) (fun b o hb e => eb b o hb e) f0 f1 f3 f4 f5⟩
  self := fun _ _ _ _ _ st h => wpAny_pyIter_tupleiter st h
theorem turn_range {P : Program} {w : World} {K : PySem.W.Frag} {tg : Expr} (it : Addr) (lo : Int) (n : Nat) : Turn P w K tg (Itr lo n) [it] it (fun i h => IsRangeIter h it (lo + (i : Nat) * 1) ((n : Int) - (i : Nat)) 1) where
  mem := by simp
  obj := fun i h st b hb => by
    have e : b = it := by simpa using hb
    subst e
    exact ⟨_, st, fun v z => by
      have z' : Data.fields _ = Data.cell v := z
      cases z'⟩
  keep := fun i h h' st k => k it (by simp) _ st
  item := by
    intro X hP hw hK hc i pins s σ H E I hf st hg
    subst hP hw hK
    obtain ⟨f0, f1, f2, f3, f4, f5⟩ := hf it (by simp)
    have W := Walks.range (prog := X.prog) (w := X.w) (I.ok.hd hc) it lo 1 n
    refine W.item i s _ _ hg st fun v h' tk hv st' kk => ?_
    obtain ⟨t, rfl⟩ := hv
    have I1 : Inv X pins σ H { s with heap := h', toks := tk } := I.turned (fun b o hb e => kk b o (by simpa using hb) e) f0 f1 f3 f4 f5
    refine ⟨_, rfl, go_of (s := { s with heap := h', toks := tk }) (n := "range_iterator") st' rfl rfl (by decide) ⟨.int (lo + i), H, I1, ⟨t, ?_⟩, ⟨rfl, rfl⟩, st', fun b hb => (hf b hb).1⟩⟩
    rw [Int.mul_one]
  done := by
    intro X hP hw hK hc i pins s σ H E I hf st hg
    subst hP hw hK
    obtain ⟨f0, f1, f2, f3, f4, f5⟩ := hf it (by simp)
    exact wpAny_pyNext_range_end (I.ok.hd hc) st (by have : n ≤ i := hg; omega) fun h' eb => ⟨rfl, I.turned (t' := s.toks) (fun b o hb e => eb b o hb e) f0 f1 f3 f4 f5⟩
  self := fun _ _ _ _ _ st h => wpAny_pyIter_rangeiter st h
end L2

namespace L2
open PySem PySem.Spec PyProof.Rows
section
variable {X : Cx} {tg : Expr}
def iList (K : PySem.W.Frag) (tl : TE) : TI := fun σ H R => tl σ H fun x H1 => ∃ a, x = .ref a ∧ (∃ xs, SqL K H1 a xs) ∧ R (Itl K a) H1
def iTup (K : PySem.W.Frag) (tl : TE) : TI := fun σ H R => tl σ H fun x H1 => ∃ a, x = .ref a ∧ (∃ xs, SqT K H1 a xs) ∧ R (Itt K a) H1
theorem pi_list {l : Expr} {tl : TE} (hl : PE X l tl) : PI X tg l (iList X.K tl) := by
  intro pins s σ H R I h
  refine thn (hl pins s σ H _ I h) fun v s1 ⟨x, H1, I1, r1, q1⟩ => ?_
  obtain ⟨a, e, ⟨xs, hq⟩, q⟩ := q1
  subst e
  cases r1
  obtain ⟨its, rv, p, hz⟩ := I1.list hq
  refine wpAny_pyIter_list p.isList ?_
  refine ⟨s1.heap.objs.size, [s1.heap.objs.size], _, _, H1, rfl, I1.kept (t' := s1.toks) fun b o e => Heap.get?_push_of_some _ e, turn_list a _, ⟨_, Heap.get?_push_size _ rfl, rfl, rfl⟩, fun b hb => ?_, q⟩
  have e : b = s1.heap.objs.size := by simpa using hb
  subst e
  exact I1.fpOk (Nat.le_refl _) (I1.hok.fresh (Nat.le_refl _))
theorem pi_tup {l : Expr} {tl : TE} (hl : PE X l tl) : PI X tg l (iTup X.K tl) := by
  intro pins s σ H R I h
  refine thn (hl pins s σ H _ I h) fun v s1 ⟨x, H1, I1, r1, q1⟩ => ?_
  obtain ⟨a, e, ⟨xs, hq⟩, q⟩ := q1
  subst e
  cases r1
  obtain ⟨its, rv, p, hz⟩ := I1.tuple hq
  refine wpAny_pyIter_tuple (show s1.heap.IsTuple a its.toArray from p) ?_
  refine ⟨s1.heap.objs.size, [s1.heap.objs.size], _, _, H1, rfl, I1.kept (t' := s1.toks) fun b o e => Heap.get?_push_of_some _ e, turn_tuple a _, ⟨_, Heap.get?_push_size _ rfl, rfl, rfl⟩, fun b hb => ?_, q⟩
  have e : b = s1.heap.objs.size := by simpa using hb
  subst e
  exact I1.fpOk (Nat.le_refl _) (I1.hok.fresh (Nat.le_refl _))
/-- a range object just made, walked -/
theorem range_it {pins : List (Addr × Obj)} {σ : St} {H : Hp} {s : Shared} {R : It → Hp → Prop} {E : Value → Shared → Prop} {lo hi : Int} {t u v : Tok} {tk : Nat} (I : Inv X pins σ H s) (h1 : -(2 ^ 62) ≤ lo) (h2 : lo < 2 ^ 62) (h3 : -(2 ^ 62) ≤ hi) (h4 : hi < 2 ^ 62)
    (q : R (Itr lo (hi - lo).toNat) H) : wpAny (model X.prog X.w) X.A (pyIter (.ref s.heap.objs.size)) (PIE X pins σ tg R) E { s with heap := s.heap.push { cls := .type "range", data := .fields #[.int lo t, .int hi u, .int 1 v] }, toks := tk } := by
  refine wpAny_pyIter_range (IsRange.new ..) (small_one h1 h2 h3 h4) ?_
  have I1 : Inv X pins σ H { s with heap := s.heap.push { cls := .type "range", data := .fields #[.int lo t, .int hi u, .int 1 v] }, toks := tk } := I.kept fun b o e => Heap.get?_push_of_some _ e
  refine ⟨(s.heap.push { cls := .type "range", data := .fields #[.int lo t, .int hi u, .int 1 v] }).objs.size, [(s.heap.push { cls := .type "range", data := .fields #[.int lo t, .int hi u, .int 1 v] }).objs.size], _, _, H, rfl,
    I1.kept (t' := tk) fun b o e => Heap.get?_push_of_some _ e, turn_range _ lo (hi - lo).toNat, ?_, fun b hb => ?_, q⟩
  · have e1 : lo + ((0 : Nat) : Int) * 1 = lo := by simp
    have e2 : (((hi - lo).toNat : Nat) : Int) - ((0 : Nat) : Int) = Builtin.Range.rangeSize lo hi 1 := by rw [rangeSize_one]; split <;> omega
    show IsRangeIter _ _ (lo + ((0 : Nat) : Int) * 1) ((((hi - lo).toNat : Nat) : Int) - ((0 : Nat) : Int)) 1
    rw [e1, e2]
    exact Heap.get?_push_size _ rfl
  · have e : b = (s.heap.push { cls := .type "range", data := .fields #[.int lo t, .int hi u, .int 1 v] }).objs.size := by simpa using hb
    subst e
    exact I1.fpOk (Nat.le_refl _) (I1.hok.fresh (Nat.le_refl _))
def iRng1 (ta : TA) : TI := fun σ H R => ta σ H fun vs H1 => ∃ j : Int, vs = [.int j] ∧ -(2 ^ 62) ≤ j ∧ j < 2 ^ 62 ∧ R (Itr 0 j.toNat) H1
def iRng2 (ta : TA) : TI := fun σ H R => ta σ H fun vs H1 => ∃ i j : Int, vs = [.int i, .int j] ∧ (-(2 ^ 62) ≤ i ∧ i < 2 ^ 62 ∧ -(2 ^ 62) ≤ j ∧ j < 2 ^ 62) ∧ R (Itr i (j - i).toNat) H1
theorem pi_range1 {a : Expr} {ta : TA} {p pos : Pos} (hg : Gl X "range") (hm : X.mg "range" = none) (ha : PA X [a] ta) (hs : starEach [a] X.env = [(false, eval a X.env)] := by rfl) : PI X tg (.Call (.Name "range" p) [a] [] pos) (iRng1 ta) := by
  intro pins s σ H R I h
  refine Call_ (ld_blt I hg hm boot_range (PyProof.Rows.callWith_type1 (thn (ha pos pins s σ H _ I h) fun us s1 ⟨vs, H1, I1, r1, q1⟩ => ?_) hs rfl))
  obtain ⟨j, e, q1, q2, q⟩ := q1
  subst e
  cases r1 with
  | cons r rr =>
    cases rr
    obtain ⟨t, rfl⟩ := r
    exact call_range_1 (range_it I1 (by omega) (by omega) q1 q2 (by simpa using q))
/-! ### for -/
/-- W: the invariant by the turn and a measure; N: what the body is to reach -/
def tFor (wi : TI) (g : TG) (tb : TS) : TS := fun D σ H => wi σ H fun J H1 => ∃ W : Nat → Nat → St → Hp → Prop, (∃ m, W 0 m σ H1) ∧ ∀ i m σ H, W i m σ H →
  (J.stop i H ∧ D.nx σ H) ∨ (J.go i H ∧ ∃ N : St → Hp → Prop, (∀ σ' H', N σ' H' → ∃ m', m' < m ∧ W (i + 1) m' σ' H') ∧ ∀ x H', J.yld i H x H' → g x σ H' fun σ2 H2 => tb { D with nx := N, ct := N, bk := D.nx } σ2 H2)
/-- the records at fp as they stand -/
def pinsAt (fp : List Addr) (h : Heap) : List (Addr × Obj) := fp.filterMap fun b => (h.get? b).map fun o => (b, o)
theorem mem_pinsAt {fp : List Addr} {h : Heap} {b : Addr} {o : Obj} (hb : b ∈ fp) (e : h.get? b = some o) : (b, o) ∈ pinsAt fp h := List.mem_filterMap.mpr ⟨b, hb, by rw [e]; rfl⟩
theorem of_pinsAt {fp : List Addr} {h : Heap} {p : Addr × Obj} (hp : p ∈ pinsAt fp h) : p.1 ∈ fp ∧ h.get? p.1 = some p.2 := by
  obtain ⟨b, hb, e⟩ := List.mem_filterMap.mp hp
  cases q : h.get? b with
  | none => rw [q] at e; cases e
  | some o =>
    rw [q] at e
    have e' : (b, o) = p := Option.some.inj e
    subst e'
    exact ⟨hb, q⟩
theorem Inv.pinned {pins : List (Addr × Obj)} {σ : St} {H : Hp} {s : Shared} {fp : List Addr} (I : Inv X pins σ H s) (hf : ∀ b ∈ fp, FpOk X pins H b) (ho : ∀ b ∈ fp, ∃ o, s.heap.get? b = some o ∧ ∀ v, o.data ≠ .cell v) : Inv X (pins ++ pinsAt fp s.heap) σ H s :=
  I.pins_of fun p hp => (List.mem_append.mp hp).elim (fun z => I.pin p (List.mem_append_right _ z)) fun z => by
    obtain ⟨hb, e⟩ := of_pinsAt z
    obtain ⟨f0, f1, f2, _⟩ := hf p.1 hb
    obtain ⟨o, e', d⟩ := ho p.1 hb
    rw [e] at e'; cases e'
    exact ⟨e, f0, f1, f2, d⟩
theorem Inv.unpinned {pins pl : List (Addr × Obj)} {σ : St} {H : Hp} {s : Shared} (I : Inv X (pins ++ pl) σ H s) : Inv X pins σ H s := I.pins_of fun p hp => I.pin p (List.mem_append_right _ (List.mem_append_left _ hp))
theorem ps_for {iter : Expr} {body : List Stmt} {wi : TI} {g : TG} {tb : TS} {pos : Pos} (hp : PassesOwn (model X.prog X.w) X.A X.env X.xe) (hc : X.calm = true) (hi : PI X tg iter wi) (hg : PG X tg g) (hb : PSs X body tb)
    (hs : ∀ x, foldedSetIterable iter X.env x = pure x := by intro _; rfl) : PS X (.For tg iter body [] pos) (tFor wi g tb) := by
  intro pins s σ H D I h
  refine wpAny_For (thn (hi pins s σ H _ I h) fun v s1 h1 => thn h1 fun itv s2 h2 => ?_) hs
  obtain ⟨it, fp, tn, J, H2, e, I2, T, st2, f2, W, ⟨m0, w0⟩, turn⟩ := h2
  subst e
  -- what stays true of the iterator's objects through the loop
  have stat : ∀ {H' : Hp}, (∀ b ∈ fp, H' b = none) → ∀ b ∈ fp, FpOk X pins H' b := fun hn b hb => ⟨hn b hb, (f2 b hb).2⟩
  refine codeAny_forLoop_any (fun n s' => ∃ i σ' H', Inv X pins σ' H' s' ∧ tn i s'.heap ∧ (∀ b ∈ fp, H' b = none) ∧ W i n σ' H') ?_ m0 ⟨0, σ, H2, I2, st2, fun b hb => (f2 b hb).1, w0⟩
  rintro n s3 ⟨i, σ3, H3, I3, st3, fr3, w3⟩
  rcases turn i n σ3 H3 w3 with ⟨stop, qn⟩ | ⟨go, N, hN, step⟩
  · refine wpAny_passesOwn hp (thn (T.done X rfl rfl rfl hc i pins s3 σ3 H3 X.xe I3 (stat fr3) st3 stop) fun r s4 ⟨hr, I4⟩ => ?_)
    subst hr
    exact wpAny_execs_nil ⟨σ3, H3, I4, qn⟩
  · refine wpAny_passesOwn hp (thn (T.item X rfl rfl rfl hc i pins s3 σ3 H3 X.xe I3 (stat fr3) st3 go) fun r s4 ⟨u, hr, h4⟩ => ?_)
    subst hr
    refine wpAny_passesOwn hp (thn h4 fun _ s5 ⟨x, H5, I5, r5, y5, st5, fr5⟩ => ?_)
    have I5' := I5.pinned (stat fr5) (T.obj _ _ st5)
    refine wpAny_passesOwn hp (thn (hg _ s5 σ3 H5 x u _ I5' r5 (step x H5 y5)) fun _ s6 ⟨σ6, H6, I6, q6⟩ => ?_)
    refine wpAny_passesOwn hp (thn (hb _ s6 σ6 H6 _ I6 q6) fun f s7 q7 => ?_)
    have again : ∀ {σ7 : St} {H7 : Hp}, Inv X (pins ++ pinsAt fp s5.heap) σ7 H7 s7 → N σ7 H7 → ∃ m, m < n ∧ ∃ i σ' H', Inv X pins σ' H' s7 ∧ tn i s7.heap ∧ (∀ b ∈ fp, H' b = none) ∧ W i m σ' H' := fun {σ7 H7} I7 n7 => by
      obtain ⟨m', hm, w7⟩ := hN σ7 H7 n7
      refine ⟨m', hm, i + 1, σ7, H7, I7.unpinned, T.keep _ _ _ st5 fun b hb o e => (I7.pin (b, o) (List.mem_append_right _ (List.mem_append_right _ (mem_pinsAt hb e)))).1, fun b hb => ?_, w7⟩
      obtain ⟨o, e, d⟩ := T.obj _ _ st5 b hb
      exact (I7.pin (b, o) (List.mem_append_right _ (List.mem_append_right _ (mem_pinsAt hb e)))).2.1
    cases f with
    | next => obtain ⟨σ7, H7, I7, n7⟩ := q7; exact again I7 n7
    | cont => obtain ⟨σ7, H7, I7, n7⟩ := q7; exact again I7 n7
    | brk => obtain ⟨σ7, H7, I7, q7⟩ := q7; exact ⟨σ7, H7, I7.unpinned, q7⟩
    | ret v => obtain ⟨x7, σ7, H7, I7, r7, q7⟩ := q7; exact ⟨x7, σ7, H7, I7.unpinned, r7, q7⟩
end

/-! ### the forms one uses -/
/-- over a list that the body leaves as it is -/
theorem for_list {K : PySem.W.Frag} {a : Addr} {xs : List V} {g : TG} {tb : TS} {D : Ends} {σ : St} {H : Hp} (Pv : Nat → St → Hp → Prop) (h0 : Pv 0 σ H) (hl : ∀ i σ H, i ≤ xs.length → Pv i σ H → SqL K H a xs)
    (hs : ∀ i x σ H, xs[i]? = some x → Pv i σ H → g x σ H fun σ2 H2 => tb { D with nx := Pv (i + 1), ct := Pv (i + 1), bk := D.nx } σ2 H2) (hd : ∀ σ H, Pv xs.length σ H → D.nx σ H) :
    ∃ W : Nat → Nat → St → Hp → Prop, (∃ m, W 0 m σ H) ∧ ∀ i m σ H, W i m σ H →
      ((Itl K a).stop i H ∧ D.nx σ H) ∨ ((Itl K a).go i H ∧ ∃ N : St → Hp → Prop, (∀ σ' H', N σ' H' → ∃ m', m' < m ∧ W (i + 1) m' σ' H') ∧ ∀ x H', (Itl K a).yld i H x H' → g x σ H' fun σ2 H2 => tb { D with nx := N, ct := N, bk := D.nx } σ2 H2) := by
  refine ⟨fun i m σ H => m = xs.length - i ∧ i ≤ xs.length ∧ Pv i σ H, ⟨xs.length, by simp, Nat.zero_le _, h0⟩, ?_⟩
  rintro i m σ H ⟨rfl, hi, p⟩
  have q := hl i σ H hi p
  by_cases hlt : i < xs.length
  · refine .inr ⟨⟨xs, xs[i], q, by simp [hlt]⟩, Pv (i + 1), fun σ' H' p' => ⟨xs.length - (i + 1), by omega, rfl, hlt, p'⟩, fun x H' y => ?_⟩
    obtain ⟨e, y⟩ := y
    subst e
    exact hs i x σ _ (y xs q) p
  · have e : i = xs.length := by omega
    subst e
    exact .inl ⟨⟨xs, q, Nat.le_refl _⟩, hd σ H p⟩
theorem for_tup {K : PySem.W.Frag} {a : Addr} {xs : List V} {g : TG} {tb : TS} {D : Ends} {σ : St} {H : Hp} (Pv : Nat → St → Hp → Prop) (h0 : Pv 0 σ H) (hl : ∀ i σ H, i ≤ xs.length → Pv i σ H → SqT K H a xs)
    (hs : ∀ i x σ H, xs[i]? = some x → Pv i σ H → g x σ H fun σ2 H2 => tb { D with nx := Pv (i + 1), ct := Pv (i + 1), bk := D.nx } σ2 H2) (hd : ∀ σ H, Pv xs.length σ H → D.nx σ H) :
    ∃ W : Nat → Nat → St → Hp → Prop, (∃ m, W 0 m σ H) ∧ ∀ i m σ H, W i m σ H →
      ((Itt K a).stop i H ∧ D.nx σ H) ∨ ((Itt K a).go i H ∧ ∃ N : St → Hp → Prop, (∀ σ' H', N σ' H' → ∃ m', m' < m ∧ W (i + 1) m' σ' H') ∧ ∀ x H', (Itt K a).yld i H x H' → g x σ H' fun σ2 H2 => tb { D with nx := N, ct := N, bk := D.nx } σ2 H2) := by
  refine ⟨fun i m σ H => m = xs.length - i ∧ i ≤ xs.length ∧ Pv i σ H, ⟨xs.length, by simp, Nat.zero_le _, h0⟩, ?_⟩
  rintro i m σ H ⟨rfl, hi, p⟩
  have q := hl i σ H hi p
  by_cases hlt : i < xs.length
  · refine .inr ⟨⟨xs, xs[i], q, by simp [hlt]⟩, Pv (i + 1), fun σ' H' p' => ⟨xs.length - (i + 1), by omega, rfl, hlt, p'⟩, fun x H' y => ?_⟩
    obtain ⟨e, y⟩ := y
    subst e
    exact hs i x σ _ (y xs q) p
  · have e : i = xs.length := by omega
    subst e
    exact .inl ⟨⟨xs, q, Nat.le_refl _⟩, hd σ H p⟩
theorem for_range {lo : Int} {n : Nat} {g : TG} {tb : TS} {D : Ends} {σ : St} {H : Hp} (Pv : Nat → St → Hp → Prop) (h0 : Pv 0 σ H)
    (hs : ∀ i σ H, i < n → Pv i σ H → g (.int (lo + i)) σ H fun σ2 H2 => tb { D with nx := Pv (i + 1), ct := Pv (i + 1), bk := D.nx } σ2 H2) (hd : ∀ σ H, Pv n σ H → D.nx σ H) :
    ∃ W : Nat → Nat → St → Hp → Prop, (∃ m, W 0 m σ H) ∧ ∀ i m σ H, W i m σ H →
      ((Itr lo n).stop i H ∧ D.nx σ H) ∨ ((Itr lo n).go i H ∧ ∃ N : St → Hp → Prop, (∀ σ' H', N σ' H' → ∃ m', m' < m ∧ W (i + 1) m' σ' H') ∧ ∀ x H', (Itr lo n).yld i H x H' → g x σ H' fun σ2 H2 => tb { D with nx := N, ct := N, bk := D.nx } σ2 H2) := by
  refine ⟨fun i m σ H => m = n - i ∧ i ≤ n ∧ Pv i σ H, ⟨n, by simp, Nat.zero_le _, h0⟩, ?_⟩
  rintro i m σ H ⟨rfl, hi, p⟩
  by_cases hlt : i < n
  · refine .inr ⟨hlt, Pv (i + 1), fun σ' H' p' => ⟨n - (i + 1), by omega, rfl, hlt, p'⟩, fun x H' y => ?_⟩
    obtain ⟨e, y⟩ := y
    subst e y
    exact hs i σ _ hlt p
  · have e : i = n := by omega
    subst e
    exact .inl ⟨Nat.le_refl _, hd σ H p⟩
end L2

namespace L2
open PySem PySem.Spec PyProof.Rows

abbrev R2 := V → V → Hp → VK → Prop
/-- a two-place operation on values: f is binaryOp op, inplaceOp op or compareOp op -/
def OpR (X : Cx) (f : Value → Value → Sem Value) (r : R2) : Prop :=
  ∀ (pins : List (Addr × Obj)) (s : Shared) (σ : St) (H : Hp) (x y : V) (v u : Value) (Q : VK), Inv X pins σ H s → RelV x v → RelV y u → r x y H Q →
    wpAny (model X.prog X.w) X.A (f v u) (EP X pins σ Q) X.xe s
/-- a one-place operation -/
def UnR (X : Cx) (f : Value → Sem Value) (r : V → Hp → VK → Prop) : Prop :=
  ∀ (pins : List (Addr × Obj)) (s : Shared) (σ : St) (H : Hp) (x : V) (v : Value) (Q : VK), Inv X pins σ H s → RelV x v → r x H Q →
    wpAny (model X.prog X.w) X.A (f v) (EP X pins σ Q) X.xe s
/-- a call of a value that is known (a builtin, a type) with values -/
def CallR (X : Cx) (f : Value) (r : List V → Hp → VK → Prop) : Prop :=
  ∀ (pins : List (Addr × Obj)) (s : Shared) (σ : St) (H : Hp) (xs : List V) (us : List Value) (Q : VK), Inv X pins σ H s → Vals xs us → r xs H Q →
    wpAny (model X.prog X.w) X.A (call f us) (EP X pins σ Q) X.xe s
/-- a value's truth -/
def TruR (X : Cx) (r : V → Hp → (Bool → Hp → Prop) → Prop) : Prop :=
  ∀ (pins : List (Addr × Obj)) (s : Shared) (σ : St) (H : Hp) (x : V) (v : Value) (Q : Bool → Hp → Prop), Inv X pins σ H s → RelV x v → r x H Q →
    wpAny (model X.prog X.w) X.A (truthy v) (TP X pins σ Q) X.xe s

def tOp (r : R2) (ta tb : TE) : TE := fun σ H Q => ta σ H fun x H1 => tb σ H1 fun y H2 => r x y H2 Q
def tUn (r : V → Hp → VK → Prop) (ta : TE) : TE := fun σ H Q => ta σ H fun x H1 => r x H1 Q
/-- ints in, under C, and a value out -/
def rI (C : Int → Int → Prop) (g : Int → Int → V) : R2 := fun x y H Q => ∃ i j, x = .int i ∧ y = .int j ∧ C i j ∧ Q (g i j) H
def rI0 (g : Int → Int → V) : R2 := fun x y H Q => ∃ i j, x = .int i ∧ y = .int j ∧ Q (g i j) H
def rU (g : Int → V) : V → Hp → VK → Prop := fun x H Q => ∃ i, x = .int i ∧ Q (g i) H

section
variable {X : Cx} {a b c : Expr} {ta tb tc : TE} {pos : Pos}

theorem binT (ha : PE X a ta) (hb : PE X b tb) {pins : List (Addr × Obj)} {s : Shared} {σ : St} {H : Hp} {R : V → V → Hp → Prop} (I : Inv X pins σ H s)
    (h : ta σ H fun x H1 => tb σ H1 fun y H2 => R x y H2) {Q : Value → Shared → Prop} {f : Value → Value → Sem Value}
    (hf : ∀ v u s2 x y H2, Inv X pins σ H2 s2 → RelV x v → RelV y u → R x y H2 → wpAny (model X.prog X.w) X.A (f v u) Q X.xe s2) :
    wpAny (model X.prog X.w) X.A (eval a X.env) (fun v s₁ => wpAny (model X.prog X.w) X.A (eval b X.env) (fun u s₂ => wpAny (model X.prog X.w) X.A (f v u) Q X.xe s₂) X.xe s₁) X.xe s := by
  refine thn (ha pins s σ H _ I h) fun v s1 ⟨x, H1, I1, r1, q1⟩ => ?_
  refine thn (hb pins s1 σ H1 _ I1 q1) fun u s2 ⟨y, H2, I2, r2, q2⟩ => ?_
  exact hf v u s2 x y H2 I2 r1 r2 q2

theorem pe_op {op : Operator} {r : R2} (ho : OpR X (binaryOp op) r) (ha : PE X a ta) (hb : PE X b tb) : PE X (.BinOp a op b pos) (tOp r ta tb) := by
  intro pins s σ H Q I h
  exact wpAny_BinOp (binT ha hb I h fun v u s2 x y H2 I2 rx ry q => ho pins s2 σ H2 x y v u Q I2 rx ry q)
/-! ### ints -/
theorem opI {f : Value → Value → Sem Value} {C : Int → Int → Prop} {g : Int → Int → Int}
    (rule : ∀ (i j : Int) (t u : Tok) (s : Shared) (Q : Value → Shared → Prop) (E : Value → Shared → Prop), C i j → Q (.int (g i j) s.toks) { s with toks := s.toks + 1 } → wpAny (model X.prog X.w) X.A (f (.int i t) (.int j u)) Q E s) :
    OpR X f (rI C fun i j => .int (g i j)) := by
  intro pins s σ H x y v u Q I rx ry h
  obtain ⟨i, j, rfl, rfl, hc, q⟩ := h
  obtain ⟨t, rfl⟩ := rx
  obtain ⟨t', rfl⟩ := ry
  exact rule i j t t' s _ _ hc ⟨.int (g i j), H, I.tok _, ⟨_, rfl⟩, q⟩
theorem opI0 {f : Value → Value → Sem Value} {g : Int → Int → Int}
    (rule : ∀ (i j : Int) (t u : Tok) (s : Shared) (Q : Value → Shared → Prop) (E : Value → Shared → Prop), Q (.int (g i j) s.toks) { s with toks := s.toks + 1 } → wpAny (model X.prog X.w) X.A (f (.int i t) (.int j u)) Q E s) :
    OpR X f (rI0 fun i j => .int (g i j)) := by
  intro pins s σ H x y v u Q I rx ry h
  obtain ⟨i, j, rfl, rfl, q⟩ := h
  obtain ⟨t, rfl⟩ := rx
  obtain ⟨t', rfl⟩ := ry
  exact rule i j t t' s _ _ ⟨.int (g i j), H, I.tok _, ⟨_, rfl⟩, q⟩
theorem opB0 {f : Value → Value → Sem Value} {g : Int → Int → Bool}
    (rule : ∀ (i j : Int) (t u : Tok) (s : Shared) (Q : Value → Shared → Prop) (E : Value → Shared → Prop), Q (.bool (g i j)) s → wpAny (model X.prog X.w) X.A (f (.int i t) (.int j u)) Q E s) :
    OpR X f (rI0 fun i j => .bl (g i j)) := by
  intro pins s σ H x y v u Q I rx ry h
  obtain ⟨i, j, rfl, rfl, q⟩ := h
  obtain ⟨t, rfl⟩ := rx
  obtain ⟨t', rfl⟩ := ry
  exact rule i j t t' s _ _ ⟨.bl (g i j), H, I, rfl, q⟩

def CDiv (i j : Int) : Prop := 0 < j ∧ j < 1073741824
def CDivN (i j : Int) : Prop := j ≠ 0 ∧ j.natAbs < 1073741824
def CPow (i j : Int) : Prop := 0 ≤ j ∧ j ≤ 1000000 ∧ i.natAbs < 2 ^ 64
def CMul (i j : Int) : Prop := (-(2 ^ 64) < i ∧ i < 2 ^ 64) ∨ (-(2 ^ 64) < j ∧ j < 2 ^ 64)
theorem CMul.ok {i j : Int} (h : CMul i j) : IntMulOk i j := by
  rcases h with ⟨h1, h2⟩ | ⟨h1, h2⟩
  · exact .of_left (intBits_le_64 h1 h2)
  · exact .of_right (intBits_le_64 h1 h2)
theorem op_add : OpR X (binaryOp .Add) (rI0 fun i j => .int (i + j)) := opI0 fun _ _ _ _ _ _ _ q => add_int q
theorem op_mul : OpR X (binaryOp .Mult) (rI CMul fun i j => .int (i * j)) := opI fun _ _ _ _ _ _ _ hc q => mul_int q hc.ok
/-- // by a positive divisor -/
theorem op_fdiv : OpR X (binaryOp .FloorDiv) (rI CDiv fun i j => .int (i / j)) := opI fun i j _ _ _ _ _ hc q => by
  have h1 : (0 : Int) < j := hc.1
  have h2 : j < 1073741824 := hc.2
  exact floordiv_int (by omega) (by rw [Int.fdiv_eq_ediv_of_nonneg i (by omega)]; exact q) (.inl (PyProof.noPylong_small (by omega)))
/-- % by a positive divisor of any size -/
theorem op_mod : OpR X (binaryOp .Mod) (rI (fun _ j => 0 < j) fun i j => .int (i % j)) := opI fun i j _ _ _ _ _ hc q => by
  have h1 : (0 : Int) < j := hc
  exact mod_int' (by omega) (by rw [Int.fmod_eq_emod_of_nonneg i (by omega)]; exact q)
/-! ### bools among ints: n += (a < b) -/
end

/-! ### comparisons -/
/-- the scalars that == tells apart as data does -/
def scal : V → V → Bool
  | .non, .non => true | .non, .int _ => true | .int _, .non => true | .non, .bl _ => true | .bl _, .non => true | .non, .str _ => true | .str _, .non => true
  | .int _, .int _ => true | .bl _, .bl _ => true | .str _, .str _ => true | .byt _, .byt _ => true
  | .int _, .str _ => true | .str _, .int _ => true | .bl _, .str _ => true | .str _, .bl _ => true
  | _, _ => false
def rEq : R2 := fun x y H Q => scal x y = true ∧ Q (.bl (decide (x = y))) H
def rNe : R2 := fun x y H Q => scal x y = true ∧ Q (.bl (!decide (x = y))) H

theorem dec_int {i j : Int} : decide (V.int i = V.int j) = (i == j) := by
  rw [Bool.eq_iff_iff]
  simp
theorem dec_bl {i j : Bool} : decide (V.bl i = V.bl j) = (i == j) := by
  rw [Bool.eq_iff_iff]
  simp
theorem dec_str {i j : Str} : decide (V.str i = V.str j) = (i == j) := by
  rw [Bool.eq_iff_iff]
  simp
theorem dec_byt {i j : Array UInt8} : decide (V.byt i = V.byt j) = (i.toList == j.toList) := by
  rw [Bool.eq_iff_iff]
  cases i
  cases j
  simp

section
variable {X : Cx} {a b c : Expr} {ta tb tc : TE} {pos : Pos}
theorem fin_bl {pins : List (Addr × Obj)} {σ : St} {H : Hp} {s : Shared} {Q : VK} {k k' : Bool} (I : Inv X pins σ H s) (q : Q (.bl k) H) (e : k = k') : EP X pins σ Q (.bool k') s := by
  subst e
  exact ⟨.bl k, H, I, rfl, q⟩
theorem op_eq : OpR X (compareOp .Eq) rEq := by
  intro pins s σ H x y v u Q I rx ry h
  obtain ⟨hs, q⟩ := h
  cases x with
  | non =>
    cases rx
    cases y with
    | non => cases ry; exact PySem.EqNone.eq_none_none (fin_bl I q (by simp))
    | bl j => cases ry; exact PySem.EqNone.eq_none_bool (fin_bl I q (by simp))
    | int j => obtain ⟨t', rfl⟩ := ry; exact PySem.EqNone.eq_none_int (fin_bl I q (by simp))
    | str j => obtain ⟨t', rfl⟩ := ry; exact PySem.EqNone.eq_none_str (fin_bl I q (by simp))
    | _ => exact absurd (show false = true from hs) Bool.false_ne_true
  | bl i =>
    cases rx
    cases y with
    | non => cases ry; exact PySem.EqNone.eq_bool_none (fin_bl I q (by simp))
    | bl j => cases ry; exact eq_bool (fin_bl I q dec_bl)
    | str j => obtain ⟨t', rfl⟩ := ry; exact PySem.EqMixed.eq_bool_str (fin_bl I q (by simp))
    | _ => exact absurd (show false = true from hs) Bool.false_ne_true
  | int i =>
    obtain ⟨t, rfl⟩ := rx
    cases y with
    | non => cases ry; exact PySem.EqNone.eq_int_none (fin_bl I q (by simp))
    | int j => obtain ⟨t', rfl⟩ := ry; exact eq_int (fin_bl I q dec_int)
    | str j => obtain ⟨t', rfl⟩ := ry; exact PySem.EqMixed.eq_int_str (fin_bl I q (by simp))
    | _ => exact absurd (show false = true from hs) Bool.false_ne_true
  | str i =>
    obtain ⟨t, rfl⟩ := rx
    cases y with
    | non => cases ry; exact PySem.EqNone.eq_str_none (fin_bl I q (by simp))
    | bl j => cases ry; exact PySem.EqMixed.eq_str_bool (fin_bl I q (by simp))
    | int j => obtain ⟨t', rfl⟩ := ry; exact PySem.EqMixed.eq_str_int (fin_bl I q (by simp))
    | str j => obtain ⟨t', rfl⟩ := ry; exact eq_str (fin_bl I q dec_str)
    | _ => exact absurd (show false = true from hs) Bool.false_ne_true
  | byt i =>
    obtain ⟨t, rfl⟩ := rx
    cases y with
    | byt j => obtain ⟨t', rfl⟩ := ry; exact PySem.W.eq_bytes (fin_bl I q dec_byt)
    | _ => exact absurd (show false = true from hs) Bool.false_ne_true
  | _ => cases y <;> exact absurd (show false = true from hs) Bool.false_ne_true
theorem op_ne : OpR X (compareOp .NotEq) rNe := by
  intro pins s σ H x y v u Q I rx ry h
  obtain ⟨hs, q⟩ := h
  cases x with
  | non =>
    cases rx
    cases y with
    | non => cases ry; exact PySem.EqNone.ne_none_none (fin_bl I q (by simp))
    | bl j => cases ry; exact PySem.EqNone.ne_none_bool (fin_bl I q (by simp))
    | int j => obtain ⟨t', rfl⟩ := ry; exact PySem.EqNone.ne_none_int (fin_bl I q (by simp))
    | str j => obtain ⟨t', rfl⟩ := ry; exact PySem.EqNone.ne_none_str (fin_bl I q (by simp))
    | _ => exact absurd (show false = true from hs) Bool.false_ne_true
  | bl i =>
    cases rx
    cases y with
    | non => cases ry; exact PySem.EqNone.ne_bool_none (fin_bl I q (by simp))
    | bl j => cases ry; exact ne_bool (fin_bl I q (congrArg not dec_bl))
    | str j => obtain ⟨t', rfl⟩ := ry; exact PySem.EqMixed.ne_bool_str (fin_bl I q (by simp))
    | _ => exact absurd (show false = true from hs) Bool.false_ne_true
  | int i =>
    obtain ⟨t, rfl⟩ := rx
    cases y with
    | non => cases ry; exact PySem.EqNone.ne_int_none (fin_bl I q (by simp))
    | int j => obtain ⟨t', rfl⟩ := ry; exact ne_int (fin_bl I q (congrArg not dec_int))
    | str j => obtain ⟨t', rfl⟩ := ry; exact PySem.EqMixed.ne_int_str (fin_bl I q (by simp))
    | _ => exact absurd (show false = true from hs) Bool.false_ne_true
  | str i =>
    obtain ⟨t, rfl⟩ := rx
    cases y with
    | non => cases ry; exact PySem.EqNone.ne_str_none (fin_bl I q (by simp))
    | bl j => cases ry; exact PySem.EqMixed.ne_str_bool (fin_bl I q (by simp))
    | int j => obtain ⟨t', rfl⟩ := ry; exact PySem.EqMixed.ne_str_int (fin_bl I q (by simp))
    | str j => obtain ⟨t', rfl⟩ := ry; exact ne_str (fin_bl I q (congrArg not dec_str))
    | _ => exact absurd (show false = true from hs) Bool.false_ne_true
  | byt i =>
    obtain ⟨t, rfl⟩ := rx
    cases y with
    | byt j => obtain ⟨t', rfl⟩ := ry; exact PySem.W.ne_bytes (fin_bl I q (congrArg not dec_byt))
    | _ => exact absurd (show false = true from hs) Bool.false_ne_true
  | _ => cases y <;> exact absurd (show false = true from hs) Bool.false_ne_true

theorem op_lt : OpR X (compareOp .Lt) (rI0 fun i j => .bl (decide (i < j))) := opB0 fun _ _ _ _ _ _ _ q => lt_int q
theorem op_gt : OpR X (compareOp .Gt) (rI0 fun i j => .bl (decide (j < i))) := opB0 fun _ _ _ _ _ _ _ q => gt_int q
/-- is None, is not None: the right side a value none -/
theorem op_isN : OpR X (compareOp .Is) (fun x y H Q => y = .non ∧ Q (.bl (decide (x = .non))) H) := by
  intro pins s σ H x y v u Q I rx ry h
  obtain ⟨rfl, q⟩ := h
  cases ry
  refine is_none_gen (fin_bl I q ?_)
  cases x <;> first
    | (cases rx; rfl)
    | (obtain ⟨t, rfl⟩ := rx; rfl)
theorem op_notN : OpR X (compareOp .IsNot) (fun x y H Q => y = .non ∧ Q (.bl (!decide (x = .non))) H) := by
  intro pins s σ H x y v u Q I rx ry h
  obtain ⟨rfl, q⟩ := h
  cases ry
  refine isnot_none_gen (fin_bl I q ?_)
  cases x <;> first
    | (cases rx; rfl)
    | (obtain ⟨t, rfl⟩ := rx; rfl)

/-- is, is not of two objects that are tracked lists or instances -/
def isObj : HO → Bool
  | .lst _ => true
  | .ins _ _ _ => true
  | _ => false
/-- two rules for one operation: by cases -/
theorem OpR.or {f : Value → Value → Sem Value} {r r' : R2} (h : OpR X f r) (h' : OpR X f r') : OpR X f (fun x y H Q => r x y H Q ∨ r' x y H Q) := by
  intro pins s σ H x y v u Q I rx ry q
  rcases q with q | q
  · exact h pins s σ H x y v u Q I rx ry q
  · exact h' pins s σ H x y v u Q I rx ry q

theorem nomark (b : Expr) {op : CmpOp} (h : op ≠ .In := by decide) (h2 : op ≠ .NotIn := by decide) : behindInMarks op b = false := by
  have e1 : (op == CmpOp.In) = false := by cases op <;> first | rfl | exact absurd rfl h
  have e2 : (op == CmpOp.NotIn) = false := by cases op <;> first | rfl | exact absurd rfl h2
  cases b <;> simp [behindInMarks, e1, e2]
/-- a comparison as a value; hm: nomark b, or (for in, not in) by with_unfolding_all rfl -/
theorem pe_cmpR {op : CmpOp} {r : R2} (ho : OpR X (compareOp op) r) (ha : PE X a ta) (hb : PE X b tb) (hm : behindInMarks op b = false) : PE X (.Compare a [op] [b] pos) (tOp r ta tb) := by
  intro pins s σ H Q I h
  exact wpAny_Compare1 (binT ha hb I h fun v u s2 x y H2 I2 rx ry q => ho pins s2 σ H2 x y v u Q I2 rx ry q) hm
/-- a reading of a value as a test -/
def tTest (t : TE) : TT := fun σ H Q => t σ H fun x H' => ∃ k, x = .bl k ∧ Q k H'
theorem pt_cmpR {op : CmpOp} {r : R2} (ho : OpR X (compareOp op) r) (ha : PE X a ta) (hb : PE X b tb) (hm : behindInMarks op b = false) : PT X (.Compare a [op] [b] pos) (tTest (tOp r ta tb)) := by
  intro pins s σ H Q I h
  refine wpAny_isTrue_Compare1 (thn (ha pins s σ H _ I h) fun v s1 ⟨x, H1, I1, r1, q1⟩ => thn (hb pins s1 σ H1 _ I1 q1) fun u s2 ⟨y, H2, I2, r2, q2⟩ =>
    thn (ho pins s2 σ H2 x y v u _ I2 r1 r2 q2) fun c s3 ⟨z, H3, I3, r3, k, e, q3⟩ => ?_) hm
  subst e
  cases r3
  exact wpAny_truthy_bool ⟨H3, I3, q3⟩
/-- a op1 b op2 c -/
def tChain (r r' : R2) (ta tb tc : TE) : TE := fun σ H Q => ta σ H fun x H1 => tb σ H1 fun y H2 => r x y H2 fun z H3 => ∃ k, z = .bl k ∧
  (if k = true then tc σ H3 fun w' H4 => r' y w' H4 Q else Q (.bl false) H3)
/-! ### truth -/
/-- a value's truth by the abstract heap -/
def TruV (K : PySem.W.Frag) (x : V) (H : Hp) (k : Bool) : Prop :=
  match x with
  | .non => k = false
  | .bl b => k = b
  | .int i => k = (i != 0)
  | .str y => y.length ≤ sizeLine ∧ k = ((y.length : Int) != 0)
  | .byt y => y.size ≤ sizeLine ∧ k = ((y.size : Int) != 0)
  | .ref p => (∃ xs, SqL K H p xs ∧ k = !xs.isEmpty) ∨ (∃ xs, SqT K H p xs ∧ k = !xs.isEmpty) ∨ ∃ kvs, H p = some (.dK kvs) ∧ k = !kvs.isEmpty
  | _ => False
theorem isEmpty_kv {κ : Type} {kvs : List (κ × V)} {vs : List (κ × Value)} (r : KV kvs vs) : (!vs.isEmpty) = !kvs.isEmpty := by
  cases r <;> rfl
theorem isEmpty_of {xs : List V} {its : List Value} (r : Vals xs its) : (!its.toArray.isEmpty) = !xs.isEmpty := by
  cases r <;> simp
theorem line63 : (sizeLine : Nat) < 2 ^ 63 := by rw [sizeLine_eq]; decide
theorem tru_ok : TruR X (fun x H Q => ∃ k, TruV X.K x H k ∧ Q k H) := by
  intro pins s σ H x v Q I rx h
  obtain ⟨k, e, q⟩ := h
  have hl := line63
  have hs : sizeLine = 16777216 := sizeLine_eq
  cases x with
  | non =>
    cases rx
    have e' : k = false := e
    subst e'
    exact truthy_none ⟨H, I, q⟩
  | bl b =>
    cases rx
    have e' : k = b := e
    subst e'
    exact wpAny_truthy_bool ⟨H, I, q⟩
  | int i =>
    obtain ⟨t, rfl⟩ := rx
    have e' : k = (i != 0) := e
    subst e'
    exact PySem.P.truthy_int ⟨H, I, q⟩
  | str y =>
    obtain ⟨t, rfl⟩ := rx
    obtain ⟨hy, e'⟩ : y.length ≤ sizeLine ∧ k = ((y.length : Int) != 0) := e
    subst e'
    exact PySem.P.truthy_str (by omega) ⟨H, I.tok _, q⟩
  | byt y =>
    obtain ⟨t, rfl⟩ := rx
    obtain ⟨hy, e'⟩ : y.size ≤ sizeLine ∧ k = ((y.size : Int) != 0) := e
    subst e'
    exact PySem.W.truthy_bytes (by omega) ⟨H, I.tok _, q⟩
  | ref p =>
    cases rx
    have e' : (∃ xs, SqL X.K H p xs ∧ k = !xs.isEmpty) ∨ (∃ xs, SqT X.K H p xs ∧ k = !xs.isEmpty) ∨ ∃ kvs, H p = some (.dK kvs) ∧ k = !kvs.isEmpty := e
    rcases e' with ⟨xs, hx, e'⟩ | ⟨xs, hx, e'⟩ | ⟨kvs, hx, e'⟩
    · subst e'
      obtain ⟨its, r, pl, hz⟩ := I.list hx
      have hlen := r.length
      exact wpAny_truthy_list pl.isList (by simp only [List.size_toArray]; omega) ⟨H, I.tok _, by rw [isEmpty_of r]; exact q⟩
    · subst e'
      obtain ⟨its, r, pl, hz⟩ := I.tuple hx
      have hlen := r.length
      exact truthy_tuple pl (by simp only [List.size_toArray]; omega) ⟨H, I.tok _, by rw [isEmpty_of r]; exact q⟩
    · subst e'
      obtain ⟨hz, hS, vs, r, m⟩ : kvs.length ≤ sizeLine ∧ (p == sysModules) = false ∧ ∃ vs, KV kvs vs ∧ s.heap.DictOf (mixKind X.prog X.w) p vs := I.hok p _ hx
      have hlen : kvs.length = vs.length := Paired.length r
      exact wpAny_truthy_dict hS m (by omega) ⟨H, I.tok _, by rw [isEmpty_kv r]; exact q⟩
  | _ => exact (show False from e).elim
/-- any expression whose test is its value's truth (a name, a call, a subscript, a field ..: he by fun _ => rfl) -/
theorem pt_truth (ha : PE X a ta) (he : ∀ whole, isTrue a X.env whole = (do let v ← whole; standAt a.pos; holding [v] (truthy v))) :
    PT X a (fun σ H Q => ta σ H fun x H' => ∃ k, TruV X.K x H' k ∧ Q k H') := by
  intro pins s σ H Q I h
  exact isTrue_plain (thn (ha pins s σ H _ I h) fun v s1 ⟨x, H1, I1, r1, q1⟩ => tru_ok pins s1 σ H1 x v Q I1 r1 q1) (he _)

/-! ### strs and bytes -/
theorem op_add_str : OpR X (binaryOp .Add) (fun x y H Q => ∃ i j, x = .str i ∧ y = .str j ∧ i.length + j.length ≤ sizeLine ∧ Q (.str (i ++ j)) H) := by
  intro pins s σ H x y v u Q I rx ry h
  obtain ⟨i, j, rfl, rfl, hz, q⟩ := h
  obtain ⟨t, rfl⟩ := rx
  obtain ⟨t', rfl⟩ := ry
  exact add_str (fun t' tk => ⟨.str (i ++ j), H, I.tok _, ⟨_, rfl⟩, q⟩) hz
def PlainIxT (b : Expr) : Prop := ∀ o i, subscripted b false o i = operate [o, i] (getItem o i)
/-! ### scalar builtins, by CallR -/
theorem vals1 {x : V} {us : List Value} (r : Vals [x] us) : ∃ u, us = [u] ∧ RelV x u := by
  cases r with
  | cons r1 r2 => cases r2; exact ⟨_, rfl, r1⟩
theorem vals2 {x y : V} {us : List Value} (r : Vals [x, y] us) : ∃ u w', us = [u, w'] ∧ RelV x u ∧ RelV y w' := by
  cases r with
  | cons r1 r2 =>
    cases r2 with
    | cons r3 r4 => cases r4; exact ⟨_, _, rfl, r1, r3⟩
theorem call_int1 : CallR X (.type "int") (fun xs H Q => (∃ i, xs = [.int i] ∧ Q (.int i) H) ∨ ∃ k, xs = [.bl k] ∧ Q (.int (if k then 1 else 0)) H) := by
  intro pins s σ H xs us Q I r h
  rcases h with ⟨i, rfl, q⟩ | ⟨k, rfl, q⟩
  · obtain ⟨u, rfl, t, rfl⟩ := vals1 r
    exact call_int_int ⟨.int i, H, I, ⟨_, rfl⟩, q⟩
  · obtain ⟨u, rfl, r1⟩ := vals1 r
    cases r1
    exact call_int_bool ⟨.int (if k then 1 else 0), H, I.tok _, ⟨_, rfl⟩, q⟩
/-- len of a str, a bytes, a list, a tuple -/
def LenV (K : PySem.W.Frag) (x : V) (H : Hp) (n : Nat) : Prop :=
  match x with
  | .str y => y.length ≤ sizeLine ∧ n = y.length
  | .byt y => y.size ≤ sizeLine ∧ n = y.size
  | .ref p => (∃ xs, SqL K H p xs ∧ n = xs.length) ∨ ∃ xs, SqT K H p xs ∧ n = xs.length
  | _ => False
end
end L2

namespace L2
open PySem PySem.Spec PyProof.Rows

/-! ### an instance, its attributes a map -/
structure ObjM (h : Heap) (x dx C : Addr) (mA : Str → Option Value) : Prop where
  obj : h.get? x = some (PySem.W.instObj C dx)
  ns : h.Ns1 dx mA
  ne : dx ≠ x

theorem lookIn_ns {h : Heap} {dx : Addr} {mA : Str → Option Value} (n : h.Ns1 dx mA) : ∃ od, h.get? dx = some od ∧ ∀ name, PySem.W.lookIn name od = some (mA name) := by
  obtain ⟨o, es, ep, ho, hd, hk, _, hm⟩ := n
  refine ⟨o, ho, fun name => ?_⟩
  have e := hm name
  unfold nsFind findBy at e
  rw [← Array.find?_toList] at e
  unfold PySem.W.lookIn
  rw [hd]
  dsimp only
  split
  · rename_i y q
    rw [q] at e
    exact congrArg some e
  · rename_i q
    rw [q] at e
    have a : es.toList.any (·.refKey) = false := by
      rw [List.any_eq_false]
      intro y hy
      obtain ⟨z, t, hkey⟩ := hk y (Array.mem_toList_iff.mp hy)
      simp [DictEntry.refKey, hkey]
    have a' : ¬ es.toList.any (·.refKey) = true := by rw [a]; exact Bool.false_ne_true
    rw [if_neg a']
    exact congrArg some e

theorem ObjM.look {h : Heap} {x dx C : Addr} {mA : Str → Option Value} (I : ObjM h x dx C mA) : ∃ od, PySem.W.InstAt h x (PySem.W.instObj C dx) C (some od) ∧ ∀ name, PySem.W.lookIn name od = some (mA name) :=
  let ⟨od, ho, hl⟩ := lookIn_ns I.ns
  ⟨od, ⟨I.obj, rfl, rfl, ho⟩, hl⟩

section
variable {prog : Program} {w : World} {A : Around} {E : Value → Shared → Prop} {s : Shared} {K : PySem.W.Frag} {x dx C f : Addr} {mA : Str → Option Value} {name : Str} {v : Value}

theorem get_map {expr : Bool} {Q : Value → Shared → Prop} (X : K.In s.heap) (I : ObjM s.heap x dx C mA) (hg : PySem.W.plainGet K C name = true) (hh : PySem.W.hasDictIn K C = true)
    (ha : PySem.W.findIn K (.ref C) name = some none) (hv : mA name = some v) (hv' : PySem.W.handedIn v = true) (h : Q v { s with toks := s.toks + 1 }) :
    wpAny (model prog w) A (getAttr (.ref x) name expr) Q E s := by
  obtain ⟨od, J, hl⟩ := I.look
  exact PySem.W.get_value X J (PySem.W.plainGet_of hg).1 (PySem.W.findObj_own hh ha rfl (by rw [hl, hv])) hv' h

theorem get_meth {pl : Sem Bool} {Q : Value × List Value → Shared → Prop} (X : K.In s.heap) (I : ObjM s.heap x dx C mA) (hg : PySem.W.plainGet K C name = true)
    (hf : PySem.W.findIn K (.ref C) name = some (some (.ref f))) (ht : PySem.W.isFn K (.ref f) = true) (hv : mA name = none) (h : Q (.ref f, [.ref x]) s) :
    wpAny (model prog w) A (getMethod (.ref x) name pl) Q E s := by
  obtain ⟨od, J, hl⟩ := I.look
  exact PySem.W.method_fn X J (PySem.W.plainGet_of hg).1 (PySem.W.plainGet_of hg).2 hf (beq_iff_eq.mp ht) (by show (PySem.W.lookIn name od).map (·.isSome) = some false; rw [hl, hv]; rfl) h

theorem set_map {ns : List Str} {Q : Unit → Shared → Prop} (X : K.In s.heap) (I : ObjM s.heap x dx C mA)
    (hs : PySem.W.findIn K (.ref C) "__setattr__" = some (some (.builtin "object.__setattr__"))) (hp : PySem.W.plainOver K C = true) (ht : PySem.W.takerIn K C name = some none) (hh : PySem.W.hasDictIn K C = true)
    (hw : PySem.Within mA ns) (hsz : ns.length ≤ sizeLine)
    (h : ∀ h', ObjM h' x dx C (fun y => if y = name then some v else mA y) → Heap.SameBut dx s.heap h' → Q () { s with heap := h', toks := s.toks + 2 }) :
    wpAny (model prog w) A (setAttr (.ref x) name v) Q E s := by
  obtain ⟨od, J, hl⟩ := I.look
  refine PySem.W.set_plain X J hs (PySem.W.osa_open (s := { s with toks := s.toks + 1 }) (r := none) X J hp ht fun b => ?_)
  obtain ⟨cd, hc, hd'⟩ := PySem.W.any_some hh
  have hx : s.heap.get? x = some ⟨.ref C, some dx, .plain, #[]⟩ := I.obj
  refine wpAny_bind (wpAny_pure (wpAny_bind (wpAny_bind (wpAny_loadPart hx (wpAny_bind (PySem.W.Looks.here (s := { s with toks := s.toks + 1 }) (PySem.W.looks_clsIn X hc) ?_))))))
  rw [hd']
  refine wpAny_pure (a := some dx) (wpAny_bind (wpAny_pure (wpAny_bind ?_)))
  refine wpAny_nsSet1 (s := { s with toks := s.toks + 1 }) I.ns fun h' hn2 hs2 => ?_
  obtain ⟨oD, esD, epD, hoD, hdD, hcD⟩ := hn2.count (PySem.Within.cons name v hw)
  refine wpAny_bind (wpAny_lookBehind hoD (by rw [hdD]; exact pastItsLine_dict (Nat.le_trans hcD (by rw [List.length_cons]; omega))) ?_)
  exact wpAny_pure (h _ ⟨(hs2.2 _ (Ne.symm I.ne)).trans I.obj, hn2, I.ne⟩ hs2)

/-- C(..): the dict at the heap's end, the instance behind it; then its __init__ -/
theorem make_map {R : Result → Shared → Prop} {vs : List Value} {kw : List (Str × Value)} (X : K.In s.heap) (hm : PySem.W.makesIn K C = true)
    (hi : PySem.W.findIn K (.ref C) "__init__" = some (some (.ref f))) (hf : PySem.W.typeIn K (.ref f) = some (.type "function"))
    (h : codeAny (model prog w) (A.under (.builtin "type.__call__" ⟨.ref C :: vs, kw⟩)) (.call (.ref f) ⟨.ref (s.heap.objs.size + 1) :: vs, kw⟩) (PySem.W.InitBack (s.heap.objs.size + 1) R)
      { s with heap := (s.heap.push PySem.W.emptyDict).push (PySem.W.instObj C s.heap.objs.size) }) :
    codeAny (model prog w) A (.call (.ref C) ⟨vs, kw⟩) R s := by
  obtain ⟨hh, g, d, t, os⟩ := s
  exact PySem.W.make_core (PySem.W.makes_of X hm) (PySem.W.looks_findIn X hi) (fun self => PySem.W.bind_fn X self hf) (.inl rfl) h
end

/-! ### the attributes as a list of pairs -/
def putF (f : Str) (v : V) : List (Str × V) → List (Str × V)
  | [] => [(f, v)]
  | (g, x) :: r => if g = f then (g, v) :: r else (g, x) :: putF f v r
theorem lookup_putF (f g : Str) (v : V) : ∀ fs : List (Str × V), (putF f v fs).lookup g = if g = f then some v else fs.lookup g
  | [] => by
    show List.lookup g [(f, v)] = _
    by_cases h : g = f
    · have hb : (g == f) = true := beq_iff_eq.mpr h
      simp only [List.lookup, hb, if_pos h]
    · have hb : (g == f) = false := beq_eq_false_iff_ne.mpr h
      simp only [List.lookup, hb, if_neg h]
  | (k, x) :: r => by
    have ih := lookup_putF f g v r
    rw [show putF f v ((k, x) :: r) = (if k = f then (k, v) :: r else (k, x) :: putF f v r) from rfl]
    by_cases hk : k = f
    · rw [if_pos hk]
      by_cases h : g = k
      · have hb : (g == k) = true := beq_iff_eq.mpr h
        simp only [List.lookup, hb, if_pos (h.trans hk)]
      · have hb : (g == k) = false := beq_eq_false_iff_ne.mpr h
        simp only [List.lookup, hb, if_neg (fun e : g = f => h (e.trans hk.symm))]
    · rw [if_neg hk]
      by_cases h : g = k
      · have hb : (g == k) = true := beq_iff_eq.mpr h
        simp only [List.lookup, hb, if_neg (fun e : g = f => hk (h.symm.trans e))]
      · have hb : (g == k) = false := beq_eq_false_iff_ne.mpr h
        simp only [List.lookup, hb]
        exact ih
theorem keys_putF (f : Str) (v : V) : ∀ fs : List (Str × V), f ∈ (putF f v fs).map (·.1) ∧ ∀ g, g ∈ fs.map (·.1) → g ∈ (putF f v fs).map (·.1)
  | [] => ⟨by simp [putF], fun g h => by simp at h⟩
  | (k, x) :: r => by
    obtain ⟨i1, i2⟩ := keys_putF f v r
    rw [show putF f v ((k, x) :: r) = (if k = f then (k, v) :: r else (k, x) :: putF f v r) from rfl]
    by_cases hk : k = f
    · rw [if_pos hk]
      subst hk
      exact ⟨by simp, fun g h => by simpa using h⟩
    · rw [if_neg hk]
      refine ⟨?_, fun g h => ?_⟩
      · rw [List.map_cons]
        exact List.mem_cons_of_mem _ i1
      · rw [List.map_cons] at h ⊢
        rcases List.mem_cons.mp h with e | e
        · exact List.mem_cons.mpr (.inl e)
        · exact List.mem_cons_of_mem _ (i2 g e)
theorem length_putF (f : Str) (v : V) : ∀ fs : List (Str × V), (putF f v fs).length ≤ fs.length + 1
  | [] => by simp [putF]
  | (k, x) :: r => by
    have ih := length_putF f v r
    rw [show putF f v ((k, x) :: r) = (if k = f then (k, v) :: r else (k, x) :: putF f v r) from rfl]
    by_cases hk : k = f
    · rw [if_pos hk, List.length_cons, List.length_cons]; omega
    · rw [if_neg hk, List.length_cons, List.length_cons]; omega

theorem RelO.some_of {v : V} {o : Option Value} (r : RelO (some v) o) : ∃ u, o = some u ∧ RelV v u := by
  cases o with
  | none => exact (show False from r).elim
  | some u => exact ⟨u, rfl, r⟩
theorem RelO.none_of {o : Option Value} (r : RelO none o) : o = none := by
  cases o with
  | none => rfl
  | some u => exact (show False from r).elim
theorem handed_of {v : V} {u : Value} (r : RelV v u) : PySem.W.handedIn u = true := by
  cases v with
  | non => cases (show u = Value.none from r); rfl
  | bl b => cases (show u = Value.bool b from r); rfl
  | int i => obtain ⟨t, e⟩ := (show ∃ t, u = Value.int i t from r); cases e; rfl
  | str x => obtain ⟨t, e⟩ := (show ∃ t, u = Value.str x t from r); cases e; rfl
  | byt b => obtain ⟨t, e⟩ := (show ∃ t, u = Value.bytes b t from r); cases e; rfl
  | flt b => obtain ⟨t, e⟩ := (show ∃ t, u = Value.float b t from r); cases e; rfl
  | ref a => cases (show u = Value.ref a from r); rfl
  | ty n => cases (show u = Value.type n from r); rfl

section
variable {P : Program} {w : World} {H H' : Hp} {h h' : Heap} {a C dx : Addr} {fs fs' : List (Str × V)}
theorem ins_get (hok : HOk P w H h) (e : H a = some (.ins C dx fs)) : ∃ mA, ObjM h a dx C mA ∧ (∀ f, RelO (fs.lookup f) (mA f)) ∧ PySem.Within mA (fs.map (·.1)) ∧ fs.length ≤ 1000 ∧ H dx = some (.own a) := by
  obtain ⟨d, z, ne, ob, mA, n, r, q⟩ := (show ObjOk P w H h a (.ins C dx fs) from hok a _ e)
  exact ⟨mA, ⟨ob, n, ne⟩, r, q, z, d⟩
end

/-! ### what of the text a class must have -/
structure Cls (K : PySem.W.Frag) (C : Addr) : Prop where
  pg : PySem.W.plainGet K C Str.empty = true
  hd : PySem.W.hasDictIn K C = true
  po : PySem.W.plainOver K C = true
  sa : PySem.W.findIn K (.ref C) "__setattr__" = some (some (.builtin "object.__setattr__"))
theorem Cls.get {K : PySem.W.Frag} {C : Addr} (c : Cls K C) (f : Str) : PySem.W.plainGet K C f = true := c.pg
/-- no class of it has the name -/
def NoAttr (K : PySem.W.Frag) (C : Addr) (f : Str) : Prop := PySem.W.findIn K (.ref C) f = some none
theorem NoAttr.taker {K : PySem.W.Frag} {C : Addr} {f : Str} (n : NoAttr K C f) : PySem.W.takerIn K C f = some none := by
  unfold PySem.W.takerIn
  rw [show PySem.W.findIn K (.ref C) f = some none from n]
  rfl
/-- a constant of the class -/
structure Con (K : PySem.W.Frag) (C : Addr) (f : Str) (v : V) (u : Value) : Prop where
  at_ : PySem.W.findIn K (.ref C) f = some (some u)
  rel : RelV v u
  get : PySem.W.specialIn K u "__get__" = some none
  cp : PySem.W.copiedNames.contains f = false
/-- a method: a plain def of the class or of one above it -/
structure Meth (K : PySem.W.Frag) (C : Addr) (m : Str) (f : Addr) : Prop where
  at_ : PySem.W.findIn K (.ref C) m = some (some (.ref f))
  fn : PySem.W.isFn K (.ref f) = true
  kp : PySem.W.keepIn K (.ref f) = true

section
variable {X : Cx} {pins : List (Addr × Obj)} {σ : St} {H : Hp} {s : Shared} {a C dx : Addr} {fs : List (Str × V)} {f : Str} {v : V} {A : Around} {E : Value → Shared → Prop}

theorem getattr_ok {b : Bool} {Q : Value → Shared → Prop} (I : Inv X pins σ H s) (e : H a = some (.ins C dx fs)) (c : Cls X.K C) (n : NoAttr X.K C f) (l : fs.lookup f = some v)
    (h : ∀ u s', Inv X pins σ H s' → RelV v u → Q u s') : wpAny (model X.prog X.w) A (getAttr (.ref a) f b) Q E s := by
  obtain ⟨mA, O, r, _, _, _⟩ := ins_get I.hok e
  obtain ⟨u, hu, ru⟩ := RelO.some_of (v := v) (o := mA f) (by rw [← l]; exact r f)
  exact get_map I.kIn O (c.get f) c.hd n hu (handed_of ru) (h u _ (I.tok _) ru)

theorem getmeth_ok {m : Str} {g : Addr} {pl : Sem Bool} {Q : Value × List Value → Shared → Prop} (I : Inv X pins σ H s) (e : H a = some (.ins C dx fs)) (c : Cls X.K C) (k : Meth X.K C m g) (l : fs.lookup m = none)
    (h : Q (.ref g, [.ref a]) s) : wpAny (model X.prog X.w) A (getMethod (.ref a) m pl) Q E s := by
  obtain ⟨mA, O, r, _, _, _⟩ := ins_get I.hok e
  have hn : mA m = none := RelO.none_of (by rw [← l]; exact r m)
  exact get_meth I.kIn O (c.get m) k.at_ k.fn hn h

theorem setattr_ok {y : V} {u : Value} {Q : Unit → Shared → Prop} (I : Inv X pins σ H s) (e : H a = some (.ins C dx fs)) (c : Cls X.K C) (n : NoAttr X.K C f) (hl : fs.length < 1000) (ry : RelV y u)
    (h : ∀ s', Inv X pins σ (upd H a (.ins C dx (putF f y fs))) s' → Q () s') : wpAny (model X.prog X.w) A (setAttr (.ref a) f u) Q E s := by
  obtain ⟨mA, O, r, wi, _, ho⟩ := ins_get I.hok e
  have hz : (fs.map (·.1)).length ≤ sizeLine := by rw [List.length_map, sizeLine_eq]; omega
  refine set_map I.kIn O c.sa c.po n.taker c.hd wi hz fun h' O' sb => h _ ?_
  have hd : ∃ o, h'.get? dx = some o := let ⟨o, _, _, e', _⟩ := O'.ns; ⟨o, e'⟩
  refine I.write (x := a) (e := dx) (by rw [e]; exact True.intro) (.inr ho) (fun b q hb z => (sb.2 b hb).trans z) hd ?_
  refine ⟨by rw [upd_ne O.ne]; exact ho, ?_, O.ne, O'.obj, _, O'.ns, fun g => ?_, fun g hg => ?_⟩
  · have := length_putF f y fs; omega
  · show RelO ((putF f y fs).lookup g) (if g = f then some u else mA g)
    rw [lookup_putF]
    by_cases q : g = f
    · rw [if_pos q, if_pos q]; exact ry
    · rw [if_neg q, if_neg q]; exact r g
  · by_cases q : g = f
    · rw [q]; exact (keys_putF f y fs).1
    · refine (keys_putF f y fs).2 g (wi g fun z => hg ?_)
      show (if g = f then some u else mA g) = none
      rw [if_neg q]; exact z

/-- a new instance, tracked, without attributes -/
theorem Inv.made (I : Inv X pins σ H s) : Inv X pins σ (upd (upd H s.heap.objs.size (.own (s.heap.objs.size + 1))) (s.heap.objs.size + 1) (.ins C s.heap.objs.size []))
    { s with heap := (s.heap.push PySem.W.emptyDict).push (PySem.W.instObj C s.heap.objs.size) } := by
  have e1 : (s.heap.push PySem.W.emptyDict).get? s.heap.objs.size = some PySem.W.emptyDict := Heap.get?_push_size s.heap rfl
  have e2 : ((s.heap.push PySem.W.emptyDict).push (PySem.W.instObj C s.heap.objs.size)).get? (s.heap.objs.size + 1) = some (PySem.W.instObj C s.heap.objs.size) := by
    have := Heap.get?_push_size (s.heap.push PySem.W.emptyDict) (o := PySem.W.instObj C s.heap.objs.size) rfl
    rwa [Heap.size_push] at this
  have e3 : (s.heap.push PySem.W.emptyDict).Ns s.heap.objs.size (fun _ => none) := ⟨PySem.W.emptyDict, #[], _, e1, rfl, (fun e he => absurd he (by simp)), fun _ => rfl⟩
  have I1 := I.laid (a := s.heap.objs.size) (o := .own (s.heap.objs.size + 1)) (h' := s.heap.push PySem.W.emptyDict) (t' := s.toks) (fun b u q => Heap.get?_push_of_some _ q) (Nat.le_refl _) ⟨_, e1⟩
  refine I1.laid (a := s.heap.objs.size + 1) (o := .ins C s.heap.objs.size []) (t' := s.toks) (fun b u q => Heap.get?_push_of_some _ q) (Nat.le_of_eq (Heap.size_push _ _)) ?_
  have ne : s.heap.objs.size ≠ s.heap.objs.size + 1 := Nat.ne_of_lt (Nat.lt_succ_self _)
  refine ⟨by rw [upd_ne ne, upd_same], Nat.zero_le _, ne, e2, fun _ => none, (Heap.Ns1.of_empty e3).at fun o q => Heap.get?_push_of_some _ q, fun _ => True.intro, fun y hy => absurd rfl hy⟩

/-- e.f where nothing but the object is asked: through attributeBase (super) and the last hold -/
theorem attr_of {prog : Program} {w : World} {env : Env} {e : Expr} {f : Str} {pos : Pos} {s : Shared} {Q : Value → Shared → Prop} (hb : attributeBase e f env (eval e env) = eval e env)
    (h : wpAny (model prog w) A (eval e env) (fun o s₁ => wpAny (model prog w) A (getAttr o f true) Q E s₁) E s) : wpAny (model prog w) A (eval (.Attribute e f pos) env) Q E s :=
  Attribute_any_ h (by rw [arm_eval_Attribute, hb])
end

/-! ### readings and rules -/
/-- e.f, an attribute of the instance -/
def tFld (K : PySem.W.Frag) (ta : TE) (f : Str) : TE := fun σ H Q => ta σ H fun x H1 => ∃ a C dx fs v, x = .ref a ∧ H1 a = some (.ins C dx fs) ∧ Cls K C ∧ NoAttr K C f ∧ fs.lookup f = some v ∧ Q v H1
/-- e.f, a constant of the class -/
def tCon (K : PySem.W.Frag) (ta : TE) (f : Str) : TE := fun σ H Q => ta σ H fun x H1 => ∃ a C dx fs v u, x = .ref a ∧ H1 a = some (.ins C dx fs) ∧ Cls K C ∧ Con K C f v u ∧ fs.lookup f = none ∧ Q v H1
/-- e.f = value -/
def sFld (K : PySem.W.Frag) (ta tv : TE) (f : Str) : TS := fun D σ H => tv σ H fun y H1 => ta σ H1 fun x H2 => ∃ a C dx fs, x = .ref a ∧ H2 a = some (.ins C dx fs) ∧ Cls K C ∧ NoAttr K C f ∧ fs.length < 1000 ∧
  D.nx σ (upd H2 a (.ins C dx (putF f y fs)))
/-- an augmented operator on two values -/
def InOp (X : Cx) (op : Operator) (rd : V → V → Hp → VK → Prop) : Prop :=
  ∀ (pins : List (Addr × Obj)) (s : Shared) (σ : St) (H : Hp) (x y : V) (u v : Value) (Q : VK), Inv X pins σ H s → RelV x u → RelV y v → rd x y H Q → wpAny (model X.prog X.w) X.A (inplaceOp op u v) (EP X pins σ Q) X.xe s
/-- e.f op= value -/
def sFldAug (K : PySem.W.Frag) (ta tv : TE) (rd : V → V → Hp → VK → Prop) (f : Str) : TS := fun D σ H => ta σ H fun x H1 => ∃ a C dx fs v, x = .ref a ∧ H1 a = some (.ins C dx fs) ∧ Cls K C ∧ NoAttr K C f ∧ fs.lookup f = some v ∧
  tv σ H1 fun y H2 => rd v y H2 fun z H3 => ∃ dx' fs', H3 a = some (.ins C dx' fs') ∧ fs'.length < 1000 ∧ D.nx σ (upd H3 a (.ins C dx' (putF f z fs')))

section
variable {X : Cx} {o e value : Expr} {f : Str} {pos pos' tpos : Pos} {ta tv : TE}
theorem pe_fld (he : PE X e ta) (hb : attributeBase e f X.env (eval e X.env) = eval e X.env) : PE X (.Attribute e f pos) (tFld X.K ta f) := by
  intro pins s σ H Q I h
  refine attr_of hb (thn (he pins s σ H _ I h) fun u s1 ⟨x, H1, I1, rx, a, C, dx, fs, v, ex, ea, c, n, l, q⟩ => ?_)
  subst ex
  obtain rfl : u = Value.ref a := rx
  exact getattr_ok I1 ea c n l fun u' s2 I2 ru => ⟨v, H1, I2, ru, q⟩
theorem ps_fld (ha : PE X o ta) (hv : PE X value tv) (hs : swapsWith value (some (.Attribute o f pos')) pos.line X.env = pure false) : PS X (.Assign [.Attribute o f pos'] value pos) (sFld X.K ta tv f) := by
  intro pins s σ H D I h
  refine plainObj_wpAny_Assign_Attribute (thn (hv pins s σ H _ I h) fun u s1 ⟨y, H1, I1, ry, q⟩ => thn (ha pins s1 σ H1 _ I1 q) fun ov s2 ⟨x, H2, I2, rx, a, C, dx, fs, ex, ea, c, n, l, q2⟩ => ?_) hs
  subst ex
  obtain rfl : ov = Value.ref a := rx
  exact setattr_ok I2 ea c n l ry fun s3 I3 => ⟨σ, _, I3, q2⟩
def rAdd : V → V → Hp → VK → Prop := fun x y H Q => ∃ i j, x = .int i ∧ y = .int j ∧ Q (.int (i + j)) H
def rSub : V → V → Hp → VK → Prop := fun x y H Q => ∃ i j, x = .int i ∧ y = .int j ∧ Q (.int (i - j)) H
theorem in_add : InOp X .Add rAdd := by
  rintro pins s σ H x y u v Q I rx ry ⟨i, j, rfl, rfl, q⟩
  obtain ⟨t, rfl⟩ := (show ∃ t, u = Value.int i t from rx)
  obtain ⟨t', rfl⟩ := (show ∃ t', v = Value.int j t' from ry)
  exact PyProof.Rows.iadd_int ⟨.int (i + j), H, I.tok _, ⟨_, rfl⟩, q⟩
end

/-! ### isinstance -/
section
variable {X : Cx} {pins : List (Addr × Obj)} {σ : St} {H : Hp} {s : Shared} {A : Around} {E : Value → Shared → Prop} {Q : Value → Shared → Prop} {c : Value} {b : Bool}
/-- the type of a value, as the fragment's deciders take it; for an instance its class -/
inductive TyOf (K : PySem.W.Frag) (H : Hp) : V → Value → Prop where
  | non : TyOf K H .non (.type "NoneType")
  | bl (x : Bool) : TyOf K H (.bl x) (.type "bool")
  | int (i : Int) : TyOf K H (.int i) (.type "int")
  | str (x : Str) : TyOf K H (.str x) (.type "str")
  | flt (x : UInt64) : TyOf K H (.flt x) (.type "float")
  | lst {a : Addr} {xs : List V} (e : H a = some (.lst xs)) : TyOf K H (.ref a) (.type "list")
  | frz {a : Addr} {o : Obj} {xs : List V} (e : H a = some (.frz o (.lst xs))) : TyOf K H (.ref a) (.type "list")
  | tup {a : Addr} {xs : List V} (e : H a = some (.tup xs)) : TyOf K H (.ref a) (.type "tuple")
  | dK {a : Addr} {kvs : List (Key × V)} (e : H a = some (.dK kvs)) : TyOf K H (.ref a) (.type "dict")
  | dT {a : Addr} {kvs : List (List Key × V)} (e : H a = some (.dT kvs)) : TyOf K H (.ref a) (.type "dict")
  | ins {a C dx : Addr} {fs : List (Str × V)} (e : H a = some (.ins C dx fs)) (cl : Cls K C) (ha : PySem.W.findIn K (.ref C) "__class__" = some (some (.builtin "object.__class__")))
      (hn : PySem.W.specialIn K (.builtin "object.__class__") "__get__" = some (some (.builtin "getset_descriptor.__get__"))) (htk : PySem.W.takesIn K (.builtin "object.__class__") = some true)
      (hm : PySem.W.mroIn K C (.type "object") = some true) : TyOf K H (.ref a) (.ref C)
/-- isinstance(x, c) for one class c, a built-in or an own one: kitOne's answer -/
theorem isinst_ok {x : V} {u t : Value} (I : Inv X pins σ H s) (rx : RelV x u) (ty : TyOf X.K H x t) (e : PySem.W.kitOne X.K t c = some b) (h : ∀ tk, Q (.bool b) { s with toks := tk }) :
    wpAny (model X.prog X.w) A (call (.builtin "isinstance") [u, c]) Q E s := by
  cases ty with
  | non => cases (show u = Value.none from rx); exact PySem.W.kia_one PySem.W.kitx_none I.kIn True.intro e (fun z => nomatch z) h
  | bl y => cases (show u = Value.bool y from rx); exact PySem.W.kia_one PySem.W.kitx_bool I.kIn True.intro e (fun z => nomatch z) h
  | int i => obtain ⟨t, q⟩ := (show ∃ t, u = Value.int i t from rx); cases q; exact PySem.W.kia_one PySem.W.kitx_int I.kIn True.intro e (fun z => nomatch z) h
  | str y => obtain ⟨t, q⟩ := (show ∃ t, u = Value.str y t from rx); cases q; exact PySem.W.kia_one PySem.W.kitx_str I.kIn True.intro e (fun z => nomatch z) h
  | flt y => obtain ⟨t, q⟩ := (show ∃ t, u = Value.float y t from rx); cases q; exact PySem.W.kia_one PySem.W.kitx_float I.kIn True.intro e (fun z => nomatch z) h
  | @lst a xs ea =>
    cases (show u = Value.ref a from rx)
    obtain ⟨_, _, n, _, h1⟩ := (show ObjOk X.prog X.w H s.heap a (.lst xs) from I.hok a _ ea)
    exact PySem.W.kia_one PySem.W.kitx_list I.kIn ⟨_, h1, rfl⟩ e (fun z => nomatch z) h
  | @frz a ob xs ea =>
    cases (show u = Value.ref a from rx)
    obtain ⟨_, _, _, n, _, h1⟩ := (show ObjOk X.prog X.w H s.heap a (.frz ob (.lst xs)) from I.hok a _ ea)
    exact PySem.W.kia_one PySem.W.kitx_list I.kIn ⟨_, h1, rfl⟩ e (fun z => nomatch z) h
  | @tup a xs ea =>
    cases (show u = Value.ref a from rx)
    obtain ⟨_, _, _, p⟩ := (show ObjOk X.prog X.w H s.heap a (.tup xs) from I.hok a _ ea)
    obtain ⟨o, h1, h2, _⟩ := p
    exact PySem.W.kia_one PySem.W.kitx_tuple I.kIn ⟨o, h1, h2⟩ e (fun z => nomatch z) h
  | @dK a kvs ea =>
    cases (show u = Value.ref a from rx)
    obtain ⟨_, _, vs, _, p⟩ := (show ObjOk X.prog X.w H s.heap a (.dK kvs) from I.hok a _ ea)
    obtain ⟨o, es, ep, h1, h2, _⟩ := p
    exact PySem.W.kia_one PySem.W.kitx_dict I.kIn ⟨o, h1, h2.1⟩ e (fun z => nomatch z) h
  | @dT a kvs ea =>
    cases (show u = Value.ref a from rx)
    obtain ⟨_, _, xs, _, o, es, ep, h1, h2, _⟩ := (show ObjOk X.prog X.w H s.heap a (.dT kvs) from I.hok a _ ea)
    exact PySem.W.kia_one PySem.W.kitx_dict I.kIn ⟨o, h1, h2.1⟩ e (fun z => nomatch z) h
  | @ins a C dx fs ea cl ha hn htk hm =>
    cases (show u = Value.ref a from rx)
    obtain ⟨mA, O, _⟩ := ins_get I.hok ea
    obtain ⟨od, J, _⟩ := O.look
    exact PySem.W.kia_one (PySem.W.kitx_own (cl.get _) cl.hd ha hn htk hm) I.kIn J e (fun z => nomatch z) h
end
end L2

namespace L2
open PySem PySem.Spec PyProof.Rows

/-! ### room -/
structure Room (k : Nat) (A : Around) : Prop where
  hd : A.handled = none
  dp : A.depth + 3 * k + 5 < recursionLimit
  un : A.units + 16 * k + 200 < cLine
theorem Room.mono {j k : Nat} {A : Around} (r : Room k A) (h : j ≤ k) : Room j A := ⟨r.hd, by have := r.dp; omega, by have := r.un; omega⟩
theorem Room.deeper {k : Nat} {A : Around} (r : Room (k + 1) A) (env : Env) : Room k (A.deeper env) :=
  ⟨r.hd, by have := r.dp; show A.depth + 1 + 3 * k + 5 < _; omega, by have := r.un; show A.units + 3 + 16 * k + 200 < _; omega⟩
theorem Room.in1 {k : Nat} {A : Around} (r : Room (k + 1) A) : Room k A.in1 :=
  ⟨r.hd, by have := r.dp; show A.depth + 3 * k + 5 < _; omega, by have := r.un; show A.units + 1 + 16 * k + 200 < _; omega⟩
theorem make_depth {A : Around} {C : Addr} {us : List Value} {kw : List (Str × Value)} : (A.under (.builtin "type.__call__" ⟨.ref C :: us, kw⟩)).depth = A.depth + 1 := by
  first | rfl | simp [Around.under, Code.weight, Code.isCreation, Code.isGuard, Code.isCaller, Code.frames, Code.isFrame, guardIds]
theorem make_units {A : Around} {C : Addr} {us : List Value} {kw : List (Str × Value)} : (A.under (.builtin "type.__call__" ⟨.ref C :: us, kw⟩)).units = A.units + 1 := by
  first | rfl | simp [Around.under, Code.cUnits, Code.frames, Code.isFrame]
theorem Room.make {k : Nat} {A : Around} (r : Room (k + 1) A) (C : Addr) (us : List Value) (kw : List (Str × Value)) : Room k (A.under (.builtin "type.__call__" ⟨.ref C :: us, kw⟩)) :=
  ⟨r.hd, by have := r.dp; rw [make_depth]; omega, by have := r.un; rw [make_units]; omega⟩
theorem Room.depth {k : Nat} {A : Around} (r : Room k A) : A.depth < recursionLimit := by have := r.dp; omega
theorem Room.units {k : Nat} {A : Around} (r : Room k A) : A.units + 64 < cLine := by have := r.un; omega
/-! ### argument lists and displays -/
def tNil : TA := fun _ H Q => Q [] H
def tCons (ta : TE) (tr : TA) : TA := fun σ H Q => ta σ H fun x H1 => tr σ H1 fun xs H2 => Q (x :: xs) H2
section
variable {X : Cx} {e : Expr} {es : List Expr} {te : TE} {t : TA} {pos : Pos}
theorem pa_nil : PA X [] tNil := fun _ _ _ _ H Q I h => Calls.spliced_nil ⟨[], H, I, .nil, h⟩
theorem pa_cons (ha : PE X e te) (hr : PA X es t) (hs : starEach (e :: es) X.env = (false, eval e X.env) :: starEach es X.env := by rfl) : PA X (e :: es) (tCons te t) := by
  intro pos pins s σ H Q I h
  rw [hs]
  show wpAny _ _ (spliced ((false, eval e X.env) :: backTo pos (starEach es X.env))) _ _ s
  refine Calls.spliced_cons (thn (ha pins s σ H _ I h) fun u s1 ⟨x, H1, I1, r1, q1⟩ => ?_)
  exact thn (hr pos pins s1 σ H1 _ I1 q1) fun us s2 ⟨xs, H2, I2, r2, q2⟩ => ⟨x :: xs, H2, I2, .cons r1 r2, q2⟩

/-- a tuple, a list of written items -/
def tTup (t : TA) : TE := fun σ H Q => t σ H fun xs H1 => xs.length ≤ sizeLine ∧ ∀ p, H1 p = none → Q (.ref p) (upd H1 p (.tup xs))
def tLst (t : TA) : TE := fun σ H Q => t σ H fun xs H1 => xs.length ≤ sizeLine ∧ ∀ p, H1 p = none → Q (.ref p) (upd H1 p (.lst xs))
theorem pe_tup {x1} (h : PA X es t) : PE X (.Tuple es x1 pos) (tTup t) := by
  intro pins s σ H Q I hq
  refine wpAny_Tuple_spliced (thn (h pos pins s σ H _ I hq) fun us s1 ⟨xs, H1, I1, r, z, q⟩ => ⟨by rw [← r.length]; exact z, ?_⟩)
  have hf : H1 s1.heap.objs.size = none := I1.hok.fresh (Nat.le_refl _)
  refine ⟨.ref s1.heap.objs.size, upd H1 s1.heap.objs.size (.tup xs), I1.laid (t' := s1.toks) (fun b u e => Heap.get?_push_of_some _ e) (Nat.le_refl _) ?_, rfl, q _ hf⟩
  exact ⟨z, us, r, ⟨_, Heap.get?_push_size _ rfl, rfl, _, rfl⟩⟩
theorem pe_lst (h : PA X es t) : PE X (.List es pos) (tLst t) := by
  intro pins s σ H Q I hq
  refine wpAny_List_spliced (thn (h pos pins s σ H _ I hq) fun us s1 ⟨xs, H1, I1, r, z, q⟩ => ⟨by rw [← r.length]; exact z, ?_⟩)
  have hf : H1 s1.heap.objs.size = none := I1.hok.fresh (Nat.le_refl _)
  refine ⟨.ref s1.heap.objs.size, upd H1 s1.heap.objs.size (.lst xs), I1.laid (t' := s1.toks) (fun b u e => Heap.get?_push_of_some _ e) (Nat.le_refl _) ?_, rfl, q _ hf⟩
  exact ⟨z, us, 0, r, Heap.get?_push_size _ rfl⟩
end

/-! ### what a def promises -/
/-- a def's promise: the bound arguments in the parameters' order, the heap, the wanted end, the wanted exception -/
abbrev Sp := List V → Hp → VK → XK → Prop
/-- how an exception lies behind a call (file 08 gives it): the callers' frames, abstract heap and state ahead of the call, the wish, the exception, the state -/
abbrev CXT := List Env → Hp → Shared → XK → Value → Shared → Prop

/-- the state at a call -/
structure Env0 (P : Program) (w : World) (K : PySem.W.Frag) (mg : Str → Option Value) (base : Heap) (A : Around) (outer : List Env) (s : Shared) (H : Hp) : Prop where
  frames : A.frames = some outer
  mod : Mod K mg base
  bs : ∀ b o, base.get? b = some o → s.heap.get? b = some o ∧ H b = none
  bsz : base.objs.size ≤ s.heap.objs.size
  funs : s.heap.FunFrames base outer
  frf : ∀ b ∈ frs outer, H b = none
  hok : HOk P w H s.heap
  bare : AllBare s.gens
/-- a call's end -/
def CE (outer : List Env) (P : Program) (w : World) (H : Hp) (s : Shared) (Q : VK) (u : Value) (s' : Shared) : Prop :=
  ∃ v H', s'.os = s.os ∧ AllBare s'.gens ∧ Un (frs outer) [] H H' s.heap s'.heap ∧ HOk P w H' s'.heap ∧ RelV v u ∧ Q v H'
def CR (CX : CXT) (outer : List Env) (P : Program) (w : World) (H : Hp) (s : Shared) (Q : VK) (E : XK) (r : Result) (s' : Shared) : Prop :=
  match r with
  | .ok (.ret u) => CE outer P w H s Q u s'
  | .ok _ => False
  | .error e => CX outer H s E e s'
structure FnOk (P : Program) (w : World) (K : PySem.W.Frag) (mg : Str → Option Value) (base : Heap) (CX : CXT) (k : Nat) (f : Addr) (fd : FuncData) (ps : List Str) (sp : Sp) : Prop where
  len : ∀ vs H Q E, sp vs H Q E → vs.length = ps.length
  run : ∀ (A : Around) (outer : List Env) (s : Shared) (H : Hp) (args : Args) (us : List Value) (vs : List V) (Q : VK) (E : XK), Room k A → Env0 P w K mg base A outer s H → BindsTo s fd args (ps.zip us) → Vals vs us → sp vs H Q E →
    codeAny (model P w) A (.call (.ref f) args) (CR CX outer P w H s Q E) s
theorem FnOk.mono {P : Program} {w : World} {K : PySem.W.Frag} {mg : Str → Option Value} {base : Heap} {CX : CXT} {j k : Nat} {f : Addr} {fd : FuncData} {ps : List Str} {sp : Sp} (F : FnOk P w K mg base CX j f fd ps sp) (h : j ≤ k) :
    FnOk P w K mg base CX k f fd ps sp := ⟨F.len, fun A outer s H args us vs Q E hr => F.run A outer s H args us vs Q E (hr.mono h)⟩
/-- a weaker promise -/
theorem FnOk.imp {P : Program} {w : World} {K : PySem.W.Frag} {mg : Str → Option Value} {base : Heap} {CX : CXT} {k : Nat} {f : Addr} {fd : FuncData} {ps : List Str} {sp sp' : Sp} (F : FnOk P w K mg base CX k f fd ps sp)
    (h : ∀ vs H Q E, sp' vs H Q E → sp vs H Q E) : FnOk P w K mg base CX k f fd ps sp' :=
  ⟨fun vs H Q E q => F.len vs H Q E (h _ _ _ _ q), fun A outer s H args us vs Q E hr he hb hv hs => F.run A outer s H args us vs Q E hr he hb hv (h _ _ _ _ hs)⟩

theorem Env0.make {P : Program} {w : World} {K : PySem.W.Frag} {mg : Str → Option Value} {base : Heap} {A : Around} {outer : List Env} {s : Shared} {H : Hp} (e : Env0 P w K mg base A outer s H) (C : Addr) (us : List Value) (kw : List (Str × Value)) :
    Env0 P w K mg base (A.under (.builtin "type.__call__" ⟨.ref C :: us, kw⟩)) outer s H := ⟨by first | exact e.frames | (simpa [Around.under, Code.envs, Code.isFrame, pushEnvs] using e.frames), e.mod, e.bs, e.bsz, e.funs, e.frf, e.hok, e.bare⟩
theorem Env0.in1 {P : Program} {w : World} {K : PySem.W.Frag} {mg : Str → Option Value} {base : Heap} {A : Around} {outer : List Env} {s : Shared} {H : Hp} (e : Env0 P w K mg base A outer s H) :
    Env0 P w K mg base A.in1 outer s H := ⟨e.frames, e.mod, e.bs, e.bsz, e.funs, e.frf, e.hok, e.bare⟩

section
variable {X : Cx} {pins : List (Addr × Obj)} {σ : St} {H : Hp} {s s' : Shared}
/-- from a body: what a callee wants -/
theorem Inv.env0 (I : Inv X pins σ H s) : Env0 X.prog X.w X.K X.mg X.base X.A X.stack s H :=
  ⟨I.ok.frames, I.ok.mod, I.bs, Nat.le_trans I.ok.bsz I.sz, I.stack, I.stkFree, I.hok, I.bare⟩
/-- behind a call -/
theorem Inv.after {Q : VK} {u : Value} (I : Inv X pins σ H s) (h : CE X.stack X.prog X.w H s Q u s') : EP X pins σ Q u s' := by
  obtain ⟨v, H', os, bare, un, hok, r, q⟩ := h
  obtain ⟨hh, g, d, t, os'⟩ := s'
  obtain rfl : os' = s.os := os
  exact ⟨v, H', I.call (h' := hh) (g' := g) (d' := d) (t' := t) (ch := []) un hok bare (fun b z => absurd z (by simp)), r, q⟩
end

/-! ### calls -/
/-- f(..): the written arguments, then the defaults dvs; E: what is wanted of an exception -/
def tCall (sp : Sp) (dvs : List V) (E : XK) (t : TA) : TE := fun σ H Q => t σ H fun vs H1 => sp (vs ++ dvs) H1 Q E
/-- o.m(..) of an instance of the class at C -/
def tMeth (C : Addr) (m : Str) (sp : Sp) (dvs : List V) (E : XK) (ta : TE) (t : TA) : TE := fun σ H Q => ta σ H fun x H1 => ∃ a dx fs, x = .ref a ∧ H1 a = some (.ins C dx fs) ∧ fs.lookup m = none ∧
  t σ H1 fun vs H2 => sp (x :: (vs ++ dvs)) H2 Q E
/-- C(..): a new instance and its dict, then __init__ -/
def tMake (C : Addr) (sp : Sp) (dvs : List V) (E : XK) (t : TA) : TE := fun σ H Q => t σ H fun vs H1 => ∀ x dx, H1 x = none → H1 dx = none → dx ≠ x →
  sp (.ref x :: (vs ++ dvs)) (upd (upd H1 dx (.own x)) x (.ins C dx [])) (fun v H2 => v = .non ∧ Q (.ref x) H2) E

/-- how the parameters are bound: us the positional arguments, kw the keywords' values by name, ds the defaults that fill up -/
def Binds (K : PySem.W.Frag) (fd : FuncData) (ps : List Str) (ds : List Value) : Prop :=
  ∀ (s : Shared) (us : List Value), K.In s.heap → (us ++ ds).length = ps.length → BindsTo s fd ⟨us, []⟩ (ps.zip (us ++ ds))
/-- every parameter is given -/
theorem Binds.all {K : PySem.W.Frag} {fd : FuncData} {ps : List Str} (h : ∀ us : List Value, us.length = ps.length → bindArgs fd ⟨us, []⟩ = pure (ps.zip us)) : Binds K fd ps [] := fun s us _ hl => by
  rw [List.append_nil] at hl ⊢
  exact .of_eq (h us hl)

/-- an exception of a callee reaches what this body wants of exceptions -/
def Passes (CX : CXT) (X : Cx) (E : XK) : Prop := ∀ (pins : List (Addr × Obj)) (σ : St) (H : Hp) (s : Shared) (e : Value) (s' : Shared), Inv X pins σ H s → CX X.stack H s E e s' → X.xe e s'

section
variable {X : Cx} {CX : CXT} {k : Nat} {f C : Addr} {fd : FuncData} {ps : List Str} {sp : Sp} {dvs : List V} {ds : List Value} {E : XK} {x m : Str} {p pos apos : Pos} {e o : Expr} {es : List Expr} {ta : TE} {t : TA}

/-- the callee runs -/
theorem run_fn {pins : List (Addr × Obj)} {σ : St} {H : Hp} {s : Shared} {Q : VK} {us : List Value} {vs : List V} (F : FnOk X.prog X.w X.K X.mg X.base CX k f fd ps sp) (hr : Room k X.A) (hb : Binds X.K fd ps ds) (hd : Vals dvs ds) (hx : Passes CX X E)
    (I : Inv X pins σ H s) (r : Vals vs us) (h : sp (vs ++ dvs) H Q E) : wpAny (model X.prog X.w) X.A (call (.ref f) us) (EP X pins σ Q) X.xe s := by
  have r2 : Vals (vs ++ dvs) (us ++ ds) := r.append hd
  have hl : (us ++ ds).length = ps.length := by rw [← r2.length]; exact F.len _ _ _ _ h
  refine wpAny_call (codeAny_mono (F.run X.A X.stack s H ⟨us, []⟩ (us ++ ds) (vs ++ dvs) Q E hr I.env0 (hb s us I.kIn hl) r2 h) fun r s' hq => ?_)
  cases r with
  | error e => exact hx pins σ H s e s' I hq
  | ok fl =>
    cases fl with
    | ret u => exact I.after hq
    | next => exact False.elim hq
    | brk => exact False.elim hq
    | cont => exact False.elim hq

theorem pe_call (F : FnOk X.prog X.w X.K X.mg X.base CX k f fd ps sp) (hr : Room k X.A) (hg : Gl X x) (hm : X.mg x = some (.ref f)) (hk : PySem.W.keepIn X.K (.ref f) = true) (hb : Binds X.K fd ps ds) (hd : Vals dvs ds) (hx : Passes CX X E)
    (ha : PA X (e :: es) t) (hdb : (x == ("__debug__" : Str)) = false := by decide) (he : starEach (e :: es) X.env = (false, eval e X.env) :: starEach es X.env := by rfl) (hpl : (backTo pos (starEach es X.env)).any (·.1) = false := by rfl) :
    PE X (.Call (.Name x p) (e :: es) [] pos) (tCall sp dvs E t) := by
  intro pins s σ H Q I h
  refine wpAny_Call_Name_kw (ld_glob I hg hm ?_ hdb)
  refine PySem.W.callWith_K (h₀ := X.base) I.ok.mod.kin hk (thn (ha pos pins s σ H _ I h) fun us s1 ⟨vs, H1, I1, r, q⟩ => ⟨I1.kIn, ?_⟩) he hpl
  exact run_fn F hr hb hd hx I1 r q
/-- what a class must have to be made -/
structure Mk (K : PySem.W.Frag) (C f : Addr) : Prop where
  makes : PySem.W.makesIn K C = true
  init : PySem.W.findIn K (.ref C) "__init__" = some (some (.ref f))
  fn : PySem.W.isFn K (.ref f) = true
  kp : PySem.W.keepIn K (.ref C) = true

theorem run_make {pins : List (Addr × Obj)} {σ : St} {H : Hp} {s : Shared} {Q : VK} {us : List Value} {vs : List V} (M : Mk X.K C f) (F : FnOk X.prog X.w X.K X.mg X.base CX k f fd ps sp) (hr : Room (k + 1) X.A) (hb : Binds X.K fd ps ds) (hd : Vals dvs ds)
    (hx : Passes CX X E) (I : Inv X pins σ H s) (r : Vals vs us)
    (h : ∀ x dx, H x = none → H dx = none → dx ≠ x → sp (.ref x :: (vs ++ dvs)) (upd (upd H dx (.own x)) x (.ins C dx [])) (fun v H2 => v = .non ∧ Q (.ref x) H2) E) :
    wpAny (model X.prog X.w) X.A (call (.ref C) us) (EP X pins σ Q) X.xe s := by
  have hq := h (s.heap.objs.size + 1) s.heap.objs.size (I.hok.fresh (Nat.le_succ _)) (I.hok.fresh (Nat.le_refl _)) (Nat.ne_of_lt (Nat.lt_succ_self _))
  have I2 := Inv.made (C := C) I
  have r2 : Vals (V.ref (s.heap.objs.size + 1) :: (vs ++ dvs)) (Value.ref (s.heap.objs.size + 1) :: (us ++ ds)) := .cons rfl (r.append hd)
  have hl : (Value.ref (s.heap.objs.size + 1) :: us ++ ds).length = ps.length := by
    have e := r2.length
    rw [F.len _ _ _ _ hq] at e
    exact e.symm
  refine wpAny_call (make_map (f := f) I.kIn M.makes M.init (beq_iff_eq.mp M.fn) (codeAny_mono (F.run _ X.stack _ _ ⟨Value.ref (s.heap.objs.size + 1) :: us, []⟩ (Value.ref (s.heap.objs.size + 1) :: (us ++ ds)) _ _ E (hr.make C us [])
    (I2.env0.make C us []) (hb _ (Value.ref (s.heap.objs.size + 1) :: us) I2.kIn hl) r2 hq) fun r s' hq' => ?_))
  cases r with
  | error e => exact hx pins σ _ _ e s' I2 hq'
  | ok fl =>
    cases fl with
    | ret u =>
      obtain ⟨v, H', I3, rv, ev, q3⟩ := I2.after hq'
      subst ev
      exact ⟨rv, ⟨V.ref (s.heap.objs.size + 1), H', I3, rfl, q3⟩⟩
    | next => exact False.elim hq'
    | brk => exact False.elim hq'
    | cont => exact False.elim hq'
theorem pe_make (M : Mk X.K C f) (F : FnOk X.prog X.w X.K X.mg X.base CX k f fd ps sp) (hr : Room (k + 1) X.A) (hg : Gl X x) (hm : X.mg x = some (.ref C)) (hb : Binds X.K fd ps ds) (hd : Vals dvs ds) (hx : Passes CX X E)
    (ha : PA X (e :: es) t) (hdb : (x == ("__debug__" : Str)) = false := by decide) (he : starEach (e :: es) X.env = (false, eval e X.env) :: starEach es X.env := by rfl) (hpl : (backTo pos (starEach es X.env)).any (·.1) = false := by rfl) :
    PE X (.Call (.Name x p) (e :: es) [] pos) (tMake C sp dvs E t) := by
  intro pins s σ H Q I h
  refine wpAny_Call_Name_kw (ld_glob I hg hm ?_ hdb)
  refine PySem.W.callWith_K (h₀ := X.base) I.ok.mod.kin M.kp (thn (ha pos pins s σ H _ I h) fun us s1 ⟨vs, H1, I1, r, q⟩ => ⟨I1.kIn, ?_⟩) he hpl
  exact run_make M F hr hb hd hx I1 r q
theorem pe_make0 (M : Mk X.K C f) (F : FnOk X.prog X.w X.K X.mg X.base CX k f fd ps sp) (hr : Room (k + 1) X.A) (hg : Gl X x) (hm : X.mg x = some (.ref C)) (hb : Binds X.K fd ps ds) (hd : Vals dvs ds) (hx : Passes CX X E)
    (hdb : (x == ("__debug__" : Str)) = false := by decide) : PE X (.Call (.Name x p) [] [] pos) (tMake C sp dvs E tNil) := by
  intro pins s σ H Q I h
  refine wpAny_Call_Name_kw (ld_glob I hg hm ?_ hdb)
  exact PySem.W.callWith_K0 I.kIn M.kp (run_make (us := []) M F hr hb hd hx I .nil h)
end

/-! ### keywords -/
/-- the values of the keywords, from the left -/
def PK (X : Cx) (kws : List Keyword) (t : TA) : Prop :=
  ∀ (pos : Pos) (pins : List (Addr × Obj)) (s : Shared) (σ : St) (H : Hp) (Q : List V → Hp → Prop), Inv X pins σ H s → t σ H Q → wpAny (model X.prog X.w) X.A (evalAll ((backToKw pos (keywordEach kws X.env)).map (·.2))) (AP X pins σ Q) X.xe s
section
variable {X : Cx} {CX : CXT} {k : Nat} {f C : Addr} {fd : FuncData} {ps ks : List Str} {sp : Sp} {E : XK} {x m : Str} {p pos apos kpos : Pos} {e o : Expr} {es : List Expr} {kws : List Keyword} {te ta : TE} {t tk : TA} {nm : Option Str}
/-- how a call with keywords binds: g puts the positional values us and the keywords' values ws (names ks) in the parameters' order, defaults among them -/
structure KBinds (K : PySem.W.Frag) (fd : FuncData) (ps ks : List Str) (g : List Value → List Value → List Value) (gV : List V → List V → List V) : Prop where
  to : ∀ (s : Shared) (us ws : List Value), K.In s.heap → (g us ws).length = ps.length → BindsTo s fd ⟨us, ks.zip ws⟩ (ps.zip (g us ws))
  rel : ∀ {vs : List V} {us : List Value} {zs : List V} {ws : List Value}, Vals vs us → Vals zs ws → Vals (gV vs zs) (g us ws)
def tCallK (sp : Sp) (gV : List V → List V → List V) (E : XK) (t tk : TA) : TE := fun σ H Q => t σ H fun vs H1 => tk σ H1 fun zs H2 => sp (gV vs zs) H2 Q E
variable {g : List Value → List Value → List Value} {gV : List V → List V → List V}
end

/-! ### a def's body keeps its promise -/
/-- names: the parameters first -/
structure FnScope (N P : List Str) (sc : Scope) : Prop where
  kind : sc.kind = .function
  co : sc.isCoroutine = false
  gen : sc.isGenerator = false
  nd : N.Nodup
  pre : N.take P.length = P
  par : ∀ x ∈ P, sc.names.lookup x = some .local ∨ sc.names.lookup x = some .cell
  nofree : ∀ y ∈ sc.names, y.2 ≠ .free

theorem bindL_out {kindOf : Str → Option NameKind} {x : Str} : ∀ {binds : List (Str × Value)} {m : Str → Option Value}, (∀ v, (x, v) ∉ binds) → bindL kindOf binds m x = m x
  | [], _, _ => rfl
  | (n, v) :: r, m, h => by
    unfold bindL
    rw [bindL_out fun w hw => h w (List.mem_cons_of_mem _ hw)]
    split
    · have : x ≠ n := by rintro rfl; exact h v List.mem_cons_self
      simp [this]
    · rfl
theorem bindC_out {kindOf : Str → Option NameKind} {x : Str} : ∀ {binds : List (Str × Value)} {m : Str → Option Value}, (∀ v, (x, v) ∉ binds) → bindC kindOf binds m x = m x
  | [], _, _ => rfl
  | (n, v) :: r, m, h => by
    unfold bindC
    rw [bindC_out fun w hw => h w (List.mem_cons_of_mem _ hw)]
    split
    · rfl
    · have : x ≠ n := by rintro rfl; exact h v List.mem_cons_self
      simp [this]
theorem bindL_get {kindOf : Str → Option NameKind} {x : Str} {v : Value} : ∀ {P : List Str} {vs : List Value} {i : Nat} {m : Str → Option Value}, P.Nodup → P[i]? = some x → vs[i]? = some v → kindOf x = some .local →
    bindL kindOf (P.zip vs) m x = some v
  | [], _, _, _, _, h, _, _ => by simp at h
  | _ :: _, [], _, _, _, _, h, _ => by simp at h
  | p :: P, w :: vs, 0, m, nd, h1, h2, hk => by
    simp at h1 h2; subst h1; subst h2
    show bindL kindOf ((p, w) :: P.zip vs) m p = _
    unfold bindL
    rw [bindL_out fun v hv => (List.nodup_cons.mp nd).1 (List.of_mem_zip hv).1, if_pos hk]
    simp
  | p :: P, w :: vs, i + 1, m, nd, h1, h2, hk => by
    show bindL kindOf ((p, w) :: P.zip vs) m x = _
    unfold bindL
    exact bindL_get (i := i) (List.nodup_cons.mp nd).2 (by simpa using h1) (by simpa using h2) hk
theorem bindC_get {kindOf : Str → Option NameKind} {x : Str} {v : Value} : ∀ {P : List Str} {vs : List Value} {i : Nat} {m : Str → Option Value}, P.Nodup → P[i]? = some x → vs[i]? = some v → kindOf x ≠ some .local →
    bindC kindOf (P.zip vs) m x = some v
  | [], _, _, _, _, h, _, _ => by simp at h
  | _ :: _, [], _, _, _, _, h, _ => by simp at h
  | p :: P, w :: vs, 0, m, nd, h1, h2, hk => by
    simp at h1 h2; subst h1; subst h2
    show bindC kindOf ((p, w) :: P.zip vs) m p = _
    unfold bindC
    rw [bindC_out fun v hv => (List.nodup_cons.mp nd).1 (List.of_mem_zip hv).1, if_neg hk]
    simp
  | p :: P, w :: vs, i + 1, m, nd, h1, h2, hk => by
    show bindC kindOf ((p, w) :: P.zip vs) m x = _
    unfold bindC
    exact bindC_get (i := i) (List.nodup_cons.mp nd).2 (by simpa using h1) (by simpa using h2) hk

/-- the names' values at the entry -/
def start (N : List Str) (vs : List V) : St := vs.map some ++ List.replicate (N.length - vs.length) none

/-- the context of a def's body, at its entry; an exception leaves the frame, then lies as CX says -/
def cxOf (CX : CXT) (P : Program) (w : World) (K : PySem.W.Frag) (mg : Str → Option Value) (base : Heap) (N : List Str) (qual : Str) (scope : Scope) (f : Addr) (cd : Value) (A : Around) (outer : List Env) (s : Shared) (H : Hp) (E : XK) : Cx where
  prog := P
  w := w
  K := K
  mg := mg
  base := base
  A := A.deeper (envOfC qual scope s.heap.objs.size f cd)
  N := N
  s₀ := s
  H₀ := H
  env := envOfC qual scope s.heap.objs.size f cd
  outer := outer
  stack := envOfC qual scope s.heap.objs.size f cd :: outer
  ex := []
  calm := true
  fn := fun _ => true
  pn := []
  xe := fun e s' => wpAny (model P w) (A.deeper (envOfC qual scope s.heap.objs.size f cd)) (leaving (envOfC qual scope s.heap.objs.size f cd) e) (fun _ s'' => CX outer H s E e s'') (fun e' s'' => CX outer H s E e' s'') s'

theorem cell_has {sc : Scope} {n : Nat} {x : Str} (h : sc.names.lookup x = some .cell) : ∃ c, (cellsFrom n sc.names []).lookup x = some c := by
  have q := PySem.W.cellsFrom_some sc.names n [] (.inl h)
  exact Option.isSome_iff_exists.mp q

theorem inv_start {CX : CXT} {P : Program} {w : World} {K : PySem.W.Frag} {mg : Str → Option Value} {base : Heap} {N ps : List Str} {qual : Str} {scope : Scope} {f : Addr} {cd : Value} {A : Around} {outer : List Env} {s s1 : Shared} {H : Hp} {E : XK} {us : List Value} {vs : List V}
    (S : FnScope N ps scope) (hd : A.handled = none) (e0 : Env0 P w K mg base A outer s H) (hl : vs.length = ps.length) (r : Vals vs us)
    (x : InCallC s s.heap.objs.size (bindL (envOfC qual scope s.heap.objs.size f cd).kindOf (ps.zip us) fun _ => none) (cellsFrom (s.heap.objs.size + 1) scope.names []) (bindC (envOfC qual scope s.heap.objs.size f cd).kindOf (ps.zip us) fun _ => none) s1) :
    Inv (cxOf CX P w K mg base N qual scope f cd A outer s H E) [] (start N vs) H s1 := by
  have hpl : ps.length ≤ N.length := by have := congrArg List.length S.pre; rw [List.length_take] at this; omega
  obtain ⟨h1, tk, rfl, hk⟩ := x.done
  have noA : ∀ b : Addr, b ∉ (cxOf CX P w K mg base N qual scope f cd A outer s H E).ex := fun b z => absurd (show b ∈ ([] : List Addr) from z) (by simp)
  refine ⟨⟨e0.mod, S.kind, rfl, rfl, Nat.le_refl _, fun y z c h1 h2 => ?_, fun y hy => ?_, fun y c _ h => ?_, fun _ => hd, Around.frames_deeper e0.frames, .inr ⟨rfl, rfl⟩, fun b z => absurd z (noA b), e0.bs, e0.bsz, fun b _ _ => noA b, fun b z => absurd z (noA b), e0.funs, e0.frf⟩,
    rfl, e0.bare, Un.kept hk, ⟨_, x.toInCall.ns, fun i y v h1 h2 h3 => ?_⟩, fun y c h => ⟨_, x.cell y c h⟩, e0.hok.fresh (Nat.le_refl _), fun y c h => ?_, fun p hp => absurd (show p ∈ ([] : List (Addr × Obj)) from hp) (by simp), e0.hok.kept hk, ?_⟩
  · exact name_of_addr x.apart (PySem.mem_of_lookup h1) (PySem.mem_of_lookup h2)
  · have hy : scope.names.lookup y = some .cell ∨ scope.names.lookup y = some .free := hy
    rcases hy with hy | hy
    · exact cell_has hy
    · exact absurd rfl (S.nofree _ (PySem.mem_of_lookup hy))
  · exact Nat.le_of_lt (x.above y c (PySem.mem_of_lookup h))
  · have hi : i < vs.length := by
      unfold start at h2
      by_cases hi : i < vs.length
      · exact hi
      · rw [List.getElem?_append_right (by simpa using hi)] at h2
        rw [List.getElem?_replicate] at h2
        split at h2 <;> cases h2
    have ha : vs[i]? = some v := by
      unfold start at h2
      rw [List.getElem?_append_left (by simpa using hi), List.getElem?_map] at h2
      cases e : vs[i]? with
      | none => rw [e] at h2; cases h2
      | some a => rw [e] at h2; cases h2; rfl
    obtain ⟨u, hu, rv⟩ := r.get ha
    have hp : ps[i]? = some y := by
      rw [← S.pre, List.getElem?_take_of_lt (by omega)]; exact h1
    have ndP : ps.Nodup := by rw [← S.pre]; exact S.nd.sublist (List.take_sublist _ _)
    refine ⟨u, rv, ?_⟩
    rcases S.par y (List.mem_of_getElem? hp) with k | k
    · exact .inl ⟨k, bindL_get ndP hp hu k⟩
    · obtain ⟨c, e⟩ := cell_has (n := s.heap.objs.size + 1) k
      refine .inr ⟨.inl k, c, e, ?_⟩
      have q := x.cell y c e
      rw [bindC_get ndP hp hu (by show scope.names.lookup y ≠ _; rw [k]; decide)] at q
      exact q
  · exact e0.hok.fresh (Nat.le_of_lt (x.above y c (PySem.mem_of_lookup h)))
  · unfold start
    show _ = N.length
    rw [List.length_append, List.length_map, List.length_replicate]
    omega

/-- THE RULE: a def (or a method) of the text, by its body. The body's reading t is chosen for each entry; it is run at the parameters' values -/
theorem fn_of {CX : CXT} {P : Program} {w : World} {K : PySem.W.Frag} {mg : Str → Option Value} {base : Heap} {k : Nat} {f : Addr} {name qual : Str} {params : Arguments} {body : List Stmt} {scope : Scope} {dV kV doc pm cdv ct oc : Value} {an od : Option Addr}
    {osl : Array (Option Value)} {N ps : List Str} {sp : Sp} (lk : K.lookup f = some ⟨oc, od, .func (PySem.W.fnOf name qual params body scope dV kV doc pm an cdv ct), osl⟩) (hcd : PySem.W.codeIn K cdv qual = true) (S : FnScope N ps scope)
    (len : ∀ vs H Q E, sp vs H Q E → vs.length = ps.length)
    (hbody : ∀ (A : Around) (outer : List Env) (s : Shared) (H : Hp) (vs : List V) (Q : VK) (E : XK), Room k (A.deeper (envOfC qual scope s.heap.objs.size f cdv)) → sp vs H Q E →
      ∃ t, PSs (cxOf CX P w K mg base N qual scope f cdv A outer s H E) body t ∧ t { nx := fun _ H' => Q .non H', rt := Q } (start N vs) H) :
    FnOk P w K mg base CX (k + 1) f (PySem.W.fnOf name qual params body scope dV kV doc pm an cdv ct) ps sp := by
  refine ⟨len, fun A outer s H args us vs Q E hr e0 hb r hsp => ?_⟩
  have hl := len _ _ _ _ hsp
  have KX : K.In s.heap := e0.mod.kin.keeps fun b o e => (e0.bs b o e).1
  have lim : s.heap.NoLimit := e0.mod.nolimit.keeps fun b o e => (e0.bs b o e).1
  have hkind : ∀ y ∈ ps.zip us, scope.names.lookup y.1 = some .local ∨ (scope.names.lookup y.1 = some .cell ∧ ((cellsFrom (s.heap.objs.size + 1) scope.names []).lookup y.1).isSome = true) := fun ⟨n, v⟩ hy => by
    rcases S.par n (List.of_mem_zip hy).1 with q | q
    · exact .inl q
    · exact .inr ⟨q, PySem.W.cellsFrom_some _ _ _ (.inl q)⟩
  refine codeAny_call_function hr.depth (KX _ _ lk) rfl S.co S.gen rfl (PySem.W.codeRec_of KX hcd) (hb _ _ _ _ ?_)
  refine wpAny_newFunctionEnv_cells S.kind hkind fun env he s1 x => ?_
  subst he
  refine ⟨lim.keeps x.toInCall.keep, codeAny_func ?_⟩
  obtain ⟨t, ht, hq⟩ := hbody A outer s H vs Q E (hr.deeper _) hsp
  have I : Inv (cxOf CX P w K mg base N qual scope f cdv A outer s H E) [] (start N vs) H s1 := inv_start S hr.hd e0 hl r x
  refine wpAny_mono (ht [] s1 (start N vs) H _ I hq) (fun fl s' hs => ?_) fun e s' hs => hs
  have fin : ∀ {σ' : St} {H' : Hp} {v : V} {u : Value}, Inv (cxOf CX P w K mg base N qual scope f cdv A outer s H E) [] σ' H' s' → RelV v u → Q v H' → CE outer P w H s Q u s' :=
    fun {σ' H' v u} J rv q => ⟨v, H', J.os, J.bare, J.base, J.hok, rv, q⟩
  cases fl with
  | ret u =>
    obtain ⟨v, σ', H', J, rv, q⟩ := hs
    exact fin J rv q
  | next =>
    obtain ⟨σ', H', J, q⟩ := hs
    exact fin (v := V.non) (u := Value.none) J rfl q
  | brk =>
    obtain ⟨_, _, _, q⟩ := hs
    exact False.elim q
  | cont =>
    obtain ⟨_, _, _, q⟩ := hs
    exact False.elim q
end L2

namespace L2
open PySem PySem.Spec PyProof.Rows
section
variable {X : Cx} {x : Str} {p pos : Pos} {e : Expr} {es : List Expr} {t : TA} {id T : String} {r : List V → Hp → VK → Prop}

def tCB (r : List V → Hp → VK → Prop) (t : TA) : TE := fun σ H Q => t σ H fun vs H1 => r vs H1 Q
/-- f(e, ..), f a built-in function -/
theorem pe_callB (hc : CallR X (.builtin id) r) (hg : Gl X x) (hm : X.mg x = none) (hv : bootBuiltins x = some (.builtin id)) (ha : PA X (e :: es) t) (hn : x ≠ "__name__" := by decide) (hdb : (x == ("__debug__" : Str)) = false := by decide)
    (he : starEach (e :: es) X.env = (false, eval e X.env) :: starEach es X.env := by rfl) (hpl : (backTo pos (starEach es X.env)).any (·.1) = false := by rfl) : PE X (.Call (.Name x p) (e :: es) [] pos) (tCB r t) := by
  intro pins s σ H Q I h
  refine wpAny_Call_Name_kw (ld_blt I hg hm hv ?_ hn hdb)
  exact PyProof.Rows.callWith_builtin1 (thn (ha pos pins s σ H _ I h) fun us s1 ⟨vs, H1, I1, r1, q1⟩ => hc pins s1 σ H1 vs us Q I1 r1 q1) he hpl
/-- T(e, ..), T a built-in type -/
theorem pe_callTy (hc : CallR X (.type T) r) (hg : Gl X x) (hm : X.mg x = none) (hv : bootBuiltins x = some (.type T)) (ha : PA X (e :: es) t) (hn : x ≠ "__name__" := by decide) (hdb : (x == ("__debug__" : Str)) = false := by decide)
    (he : starEach (e :: es) X.env = (false, eval e X.env) :: starEach es X.env := by rfl) (hpl : (backTo pos (starEach es X.env)).any (·.1) = false := by rfl) : PE X (.Call (.Name x p) (e :: es) [] pos) (tCB r t) := by
  intro pins s σ H Q I h
  refine wpAny_Call_Name_kw (ld_blt I hg hm hv ?_ hn hdb)
  exact PyProof.Rows.callWith_type1 (thn (ha pos pins s σ H _ I h) fun us s1 ⟨vs, H1, I1, r1, q1⟩ => hc pins s1 σ H1 vs us Q I1 r1 q1) he hpl
end
end L2

namespace HT
open PySem PyProof.Rows

/-- t < u of tuples of ints -/
def lexLt : List Int → List Int → Bool
  | [], [] => false
  | [], _ :: _ => true
  | _ :: _, [] => false
  | x :: xs, y :: ys => if x = y then lexLt xs ys else decide (x < y)
section
open PySem.SeqAt
open PySem.AutoSeq1 (wpAny_loadPart')
open PySem.MeetsSeq PySem.MeetsSeq2 PySem.MeetsSeq3

end

section
variable {prog : Program} {w : World} {A : Around} {E : Value → Shared → Prop} {s : Shared}

/-! ### t[a:b], not the whole -/
/-- a slice's bound as a place among n (d where it is left out) -/
def sIx (n d : Nat) : Option Int → Nat
  | none => d
  | some v => if v < 0 then (v + (n : Int)).toNat else min v.toNat n
theorem sIx_nat (n d k : Nat) : sIx n d (some (k : Int)) = min k n := by
  show (if (k : Int) < 0 then ((k : Int) + (n : Int)).toNat else min (k : Int).toNat n) = min k n
  rw [if_neg (by omega), Int.toNat_natCast]
end
end HT

namespace L2
open PySem PySem.Spec PyProof.Rows

/-! ### the parts of a slice -/
abbrev TO := St → Hp → (Option Int → Hp → Prop) → Prop
/-- a slice's part (left out, or an int) -/
def PO (X : Cx) (e : Option Expr) (t : TO) : Prop :=
  ∀ (pins : List (Addr × Obj)) (s : Shared) (σ : St) (H : Hp) (Q : Option Int → Hp → Prop), Inv X pins σ H s → t σ H Q →
    wpAny (model X.prog X.w) X.A (evalPart e X.env) (fun u s' => ∃ o H', Inv X pins σ H' s' ∧ IsPart u o ∧ Q o H') X.xe s
def tNoPart : TO := fun _ H Q => Q none H
def tPart (t : TE) : TO := fun σ H Q => t σ H fun x H1 => ∃ i, x = .int i ∧ Q (some i) H1

section
variable {X : Cx} {e : Expr} {te : TE} {lo hi : Option Expr} {tl th : TO} {pos p2 : Pos}

theorem po_none : PO X none tNoPart := by
  intro pins s σ H Q I h
  rw [evalPart_none]
  exact wpAny_pure ⟨none, H, I, .none, h⟩
theorem po_some (h : PE X e te) : PO X (some e) (tPart te) := by
  intro pins s σ H Q I hw
  rw [evalPart_some]
  refine thn (h pins s σ H _ I hw) fun u s1 ⟨x, H1, I1, r1, q1⟩ => ?_
  obtain ⟨i, rfl, q⟩ := q1
  obtain ⟨t, rfl⟩ := r1
  exact ⟨some i, H1, I1, .int i t, q⟩

/-- what a slice of a value is, by values: the slice object stands at sl -/
def SlR (X : Cx) (r : V → Option Int → Option Int → Hp → VK → Prop) : Prop :=
  ∀ (pins : List (Addr × Obj)) (s : Shared) (σ : St) (H : Hp) (x : V) (v vl vu : Value) (lo hi : Option Int) (sl : Addr) (Q : VK), Inv X pins σ H s → RelV x v → s.heap.IsSliceOf sl vl vu .none → IsPart vl lo → IsPart vu hi → r x lo hi H Q →
    ∃ T id, typeLookup (.type T) "__getitem__" = pure (some (.builtin id)) ∧ s.TypeIs v T ∧ wpAny (model X.prog X.w) X.A (getItem v (.ref sl)) (EP X pins σ Q) X.xe s
theorem SlR.or {r r' : V → Option Int → Option Int → Hp → VK → Prop} (h : SlR X r) (h' : SlR X r') : SlR X (fun x lo hi H Q => r x lo hi H Q ∨ r' x lo hi H Q) := by
  intro pins s σ H x v vl vu lo hi sl Q I rx hs pl pu q
  rcases q with q | q
  · exact h pins s σ H x v vl vu lo hi sl Q I rx hs pl pu q
  · exact h' pins s σ H x v vl vu lo hi sl Q I rx hs pl pu q
def tSl (r : V → Option Int → Option Int → Hp → VK → Prop) (te : TE) (tl th : TO) : TE := fun σ H Q => te σ H fun x H1 => tl σ H1 fun l H2 => th σ H2 fun u H3 => r x l u H3 Q
/-- a[lo:hi], any a -/
theorem pe_slice {r : V → Option Int → Option Int → Hp → VK → Prop} (hr : SlR X r) (he : PE X e te) (hl : PO X lo tl) (hu : PO X hi th) : PE X (.Subscript e (.Slice lo hi none p2) pos) (tSl r te tl th) := by
  intro pins s σ H Q I h
  refine Subscript_ (thn (he pins s σ H _ I h) fun v s1 ⟨x, H1, I1, r1, q1⟩ => ?_)
  refine wpAny_Slice (thn (hl pins s1 σ H1 _ I1 q1) fun vl s2 ⟨l, H2, I2, pl, q2⟩ => thn (hu pins s2 σ H2 _ I2 q2) fun vu s3 ⟨u, H3, I3, pu, q3⟩ => ?_)
  rw [evalPart_none]
  refine wpAny_pure ?_
  have I4 : Inv X pins σ H3 { s3 with heap := s3.heap.push { cls := .type "slice", data := .fields #[vl, vu, .none] } } := I3.kept (t' := s3.toks) fun b ob q => Heap.get?_push_of_some _ q
  obtain ⟨T, id, hT, ht, hg⟩ := hr pins { s3 with heap := s3.heap.push { cls := .type "slice", data := .fields #[vl, vu, .none] } } σ H3 x v vl vu l u s3.heap.objs.size Q I4 r1 (Heap.IsSliceOf.new ..) pl pu q3
  show wpAny (model X.prog X.w) X.A (subscriptTail e (.Slice lo hi none p2) v (.ref s3.heap.objs.size)) (EP X pins σ Q) X.xe { s3 with heap := s3.heap.push { cls := .type "slice", data := .fields #[vl, vu, .none] } }
  exact tail_any (ops := [.ref s3.heap.objs.size, v]) ht hT hg (by with_unfolding_all rfl)

/-- the items of xs[lo:hi] -/
def cutV (xs : List V) (lo hi : Option Int) : List V := (xs.drop (HT.sIx xs.length 0 lo)).take (HT.sIx xs.length xs.length hi - HT.sIx xs.length 0 lo)
theorem cutV_length (xs : List V) (lo hi : Option Int) : (cutV xs lo hi).length ≤ xs.length := by
  unfold cutV
  rw [List.length_take, List.length_drop]
  omega
/-- t[lo:hi], not the whole of it (the whole would be t itself) -/
def rSlT (K : PySem.W.Frag) : V → Option Int → Option Int → Hp → VK → Prop := fun x lo hi H Q => ∃ a xs, x = .ref a ∧ SqT K H a xs ∧
  ¬ (HT.sIx xs.length 0 lo = 0 ∧ HT.sIx xs.length xs.length hi = xs.length) ∧ ∀ p, H p = none → Q (.ref p) (upd H p (.tup (cutV xs lo hi)))
/-! ### t < u, t + u -/
def rLtT (K : PySem.W.Frag) : R2 := fun x y H Q => ∃ a b ns ms, x = .ref a ∧ y = .ref b ∧ SqT K H a (ns.map V.int) ∧ SqT K H b (ms.map V.int) ∧ Q (.bl (HT.lexLt ns ms)) H
/-- t + u, t not empty: u empty gives t itself -/
def rCatT (K : PySem.W.Frag) : R2 := fun x y H Q => ∃ a b xs ys, x = .ref a ∧ y = .ref b ∧ SqT K H a xs ∧ SqT K H b ys ∧ xs ≠ [] ∧ xs.length + ys.length ≤ sizeLine ∧
  (ys = [] → Q (.ref a) H) ∧ (ys ≠ [] → ∀ p, H p = none → Q (.ref p) (upd H p (.tup (xs ++ ys))))
end
end L2

namespace L2
open PySem PySem.Spec PyProof.Rows

/-! ### places -/
/-- the place that an index of any sign means -/
def ixN (n : Nat) (i : Int) : Option Nat := if 0 ≤ i then (if i < n then some i.toNat else none) else if -(n : Int) ≤ i then some (i + n).toNat else none
def atI {α : Type} (xs : List α) (i : Int) : Option α := (ixN xs.length i).bind fun j => xs[j]?
theorem ixN_seq {n : Nat} {i : Int} {j : Nat} (h : ixN n i = some j) : seqIndex? i n = some j ∧ j < n ∧ -(n : Int) ≤ i ∧ i < n := by
  unfold ixN at h
  by_cases h0 : 0 ≤ i
  · rw [if_pos h0] at h
    by_cases h1 : i < n
    · rw [if_pos h1] at h
      have e : i.toNat = j := Option.some.inj h
      exact ⟨by rw [seqIndex_of h0 h1, e], by omega, by omega, h1⟩
    · rw [if_neg h1] at h; cases h
  · rw [if_neg h0] at h
    by_cases h1 : -(n : Int) ≤ i
    · rw [if_pos h1] at h
      have e : (i + n).toNat = j := Option.some.inj h
      exact ⟨by rw [seqIndex_neg (by omega) h1, e], by omega, h1, by omega⟩
    · rw [if_neg h1] at h; cases h
theorem atI_get {α : Type} {xs : List α} {i : Int} {v : α} (h : atI xs i = some v) : ∃ j, seqIndex? i xs.length = some j ∧ xs[j]? = some v ∧ j < xs.length ∧ -(xs.length : Int) ≤ i ∧ i < xs.length := by
  unfold atI at h
  cases e : ixN xs.length i with
  | none => rw [e] at h; cases h
  | some j =>
    rw [e] at h
    obtain ⟨h1, h2, h3, h4⟩ := ixN_seq e
    exact ⟨j, h1, h, h2, h3, h4⟩
theorem atI_nat {α : Type} {xs : List α} {j : Nat} {v : α} (h : xs[j]? = some v) : atI xs (j : Int) = some v := by
  have hj : j < xs.length := (List.getElem?_eq_some_iff.mp h).1
  have e : ixN xs.length (j : Int) = some j := by
    unfold ixN
    rw [if_pos (by omega), if_pos (by omega)]; simp
  unfold atI; rw [e]; exact h
/-! ### what may be subscripted -/
/-- what stands as an index of a plain subscript -/
def PlainIx (b : Expr) : Prop := ∀ o i, subscripted b false o i = operate [o, i] (getItem o i)
/-- a subscript by values -/
def IxR (X : Cx) (r : R2) : Prop :=
  ∀ (value slice : Expr) (pins : List (Addr × Obj)) (s : Shared) (σ : St) (H : Hp) (x y : V) (v u : Value) (Q : VK), Inv X pins σ H s → RelV x v → RelV y u → r x y H Q →
    subscripted slice false v u = operate [v, u] (getItem v u) → wpAny (model X.prog X.w) X.A (subscriptTail value slice v u) (EP X pins σ Q) X.xe s
/-- a call of a builtin's method by values: the receiver, the arguments -/
def MtR (X : Cx) (id : String) (r : V → List V → Hp → VK → Prop) : Prop :=
  ∀ (pins : List (Addr × Obj)) (s : Shared) (σ : St) (H : Hp) (x : V) (xs : List V) (v : Value) (us : List Value) (Q : VK), Inv X pins σ H s → RelV x v → Vals xs us → r x xs H Q →
    wpAny (model X.prog X.w) X.A (call (.builtin id) (v :: us)) (EP X pins σ Q) X.xe s
section
variable {X : Cx} {a b : Expr} {ta tb : TE} {pos : Pos}
theorem IxR.or {r r' : R2} (h : IxR X r) (h' : IxR X r') : IxR X (fun x y H Q => r x y H Q ∨ r' x y H Q) := by
  intro value slice pins s σ H x y v u Q I rx ry q hs
  rcases q with q | q
  · exact h value slice pins s σ H x y v u Q I rx ry q hs
  · exact h' value slice pins s σ H x y v u Q I rx ry q hs
theorem MtR.or {id : String} {r r' : V → List V → Hp → VK → Prop} (h : MtR X id r) (h' : MtR X id r') : MtR X id (fun x xs H Q => r x xs H Q ∨ r' x xs H Q) := by
  intro pins s σ H x xs v us Q I rx rs q
  rcases q with q | q
  · exact h pins s σ H x xs v us Q I rx rs q
  · exact h' pins s σ H x xs v us Q I rx rs q
/-- a[b] -/
theorem pe_ix {r : R2} (hr : IxR X r) (ha : PE X a ta) (hb : PE X b tb) (hs : PlainIx b) : PE X (.Subscript a b pos) (tOp r ta tb) := by
  intro pins s σ H Q I h
  exact Subscript_ (binT ha hb I h fun v u s2 x y H2 I2 rx ry q => hr a b pins s2 σ H2 x y v u Q I2 rx ry q (hs _ _))

def rIxL (K : PySem.W.Frag) : R2 := fun x y H Q => ∃ p xs i v, x = .ref p ∧ y = .int i ∧ SqL K H p xs ∧ atI xs i = some v ∧ Q v H
def rIxT (K : PySem.W.Frag) : R2 := fun x y H Q => ∃ p xs i v, x = .ref p ∧ y = .int i ∧ SqT K H p xs ∧ atI xs i = some v ∧ Q v H
def rIxS : R2 := fun x y H Q => ∃ z i c, x = .str z ∧ y = .int i ∧ z.length ≤ sizeLine ∧ atI z.cps.toList i = some c ∧ Q (.str ⟨#[c]⟩) H
theorem ix_list : IxR X (rIxL X.K) := by
  intro value slice pins s σ H x y v u Q I rx ry h hs
  obtain ⟨p, xs, i, z, rfl, rfl, hq, he, q⟩ := h
  cases rx
  obtain ⟨t, rfl⟩ := ry
  obtain ⟨its, r, pl, hz⟩ := I.list hq
  obtain ⟨j, h1, h2, h3, h4, h5⟩ := atI_get he
  obtain ⟨w, ew, rw'⟩ := r.get h2
  have hl := r.length
  have hn := line63
  have fin : EP X pins σ Q w s := ⟨z, H, I, rw', q⟩
  by_cases h0 : 0 ≤ i
  · have hj : i.toNat = j := by
      rw [seqIndex_of h0 h5] at h1
      exact Option.some.inj h1
    exact item_listR pl.isList h0 (by omega) (by rw [hj]; simpa using ew) fin hs
  · have hj : (i + (its.toArray.size : Int)).toNat = j := by
      rw [seqIndex_neg (by omega) h4] at h1
      rw [List.size_toArray, ← hl]
      exact Option.some.inj h1
    exact subscriptTail_builtinR (x := w) pl.isList.typeIs slot_list_getitem.lookup
      (wpAny_getItem_list_neg (Q := fun r s' => r = w ∧ EP X pins σ Q r s') pl.isList (by omega) (by rw [List.size_toArray] <;> omega) (by omega) (by rw [hj]; simpa using ew) ⟨rfl, fin⟩) hs
theorem ix_tup : IxR X (rIxT X.K) := by
  intro value slice pins s σ H x y v u Q I rx ry h hs
  obtain ⟨p, xs, i, z, rfl, rfl, hq, he, q⟩ := h
  cases rx
  obtain ⟨t, rfl⟩ := ry
  obtain ⟨its, r, pl, hz⟩ := I.tuple hq
  obtain ⟨j, h1, h2, h3, h4, h5⟩ := atI_get he
  obtain ⟨w, ew, rw'⟩ := r.get h2
  have hl := r.length
  have hn := line63
  have fin : EP X pins σ Q w s := ⟨z, H, I, rw', q⟩
  exact subscriptTail_builtinR (x := w) pl.typeIs slot_tuple_getitem.lookup
    (getItem_tuple (j := j) (Q := fun r s' => r = w ∧ EP X pins σ Q r s') pl (by omega) (by omega) (by rw [List.size_toArray, ← hl]; exact h1) (by simpa using ew) ⟨rfl, fin⟩) hs
theorem ix_str : IxR X rIxS := by
  intro value slice pins s σ H x y v u Q I rx ry h hs
  obtain ⟨z, i, c, rfl, rfl, hz, he, q⟩ := h
  obtain ⟨t, rfl⟩ := rx
  obtain ⟨t', rfl⟩ := ry
  obtain ⟨j, h1, h2, h3, h4, h5⟩ := atI_get he
  have hl : z.cps.toList.length = z.length := by simp [Str.length]
  rw [hl] at h1 h4 h5
  have hn := line63
  exact tail_any (typeIs_str s z t) slot_str_getitem.lookup (getItem_str (c := c) (by
    have e1 : decide (i < -(2 ^ 63 : Int)) = false := decide_eq_false (by omega)
    have e2 : decide (i ≥ 2 ^ 63) = false := decide_eq_false (by omega)
    rw [e1, e2, Bool.or_false]) (by rw [h1]; simpa using h2) ⟨.str ⟨#[c]⟩, H, I.tok _, ⟨_, rfl⟩, q⟩) hs
/-- list, tuple or str -/
def rIx (K : PySem.W.Frag) : R2 := fun x y H Q => rIxL K x y H Q ∨ rIxT K x y H Q ∨ rIxS x y H Q
/-! ### xs[i] = v, any sign -/
theorem Inv.lst {pins : List (Addr × Obj)} {σ : St} {H : Hp} {s : Shared} {p : Addr} {xs : List V} (I : Inv X pins σ H s) (h : H p = some (.lst xs)) :
    ∃ (its : List Value) (n : Nat), Vals xs its ∧ s.heap.get? p = some { cls := .type "list", data := .seq its.toArray n } ∧ xs.length ≤ sizeLine := by
  obtain ⟨z, its, n, r, e⟩ := I.hok p _ h
  exact ⟨its, n, r, e, z⟩
def rSetL : V → V → V → Hp → (Hp → Prop) → Prop := fun o i v H Q => ∃ p xs k j, o = .ref p ∧ i = .int k ∧ H p = some (.lst xs) ∧ ixN xs.length k = some j ∧ Q (upd H p (.lst (xs.set j v)))
/-! ### slices -/
theorem slice_bounds (lo hi : Option Int) (n : Nat) : (sliceBounds lo hi none n).1 = ((HT.sIx n 0 lo : Nat) : Int) ∧ (sliceBounds lo hi none n).2.1 = ((HT.sIx n n hi : Nat) : Int) ∧ (sliceBounds lo hi none n).2.2 = 1 := by
  refine ⟨?_, ?_, rfl⟩
  · cases lo with
    | none => simp [sliceBounds, HT.sIx]
    | some i =>
      simp only [sliceBounds, HT.sIx, Option.getD_none, show (1 : Int) > 0 by decide, if_true]
      by_cases h : i < 0
      · simp only [h, if_true] <;> omega
      · simp only [h, if_false] <;> omega
  · cases hi with
    | none => simp [sliceBounds, HT.sIx]
    | some i =>
      simp only [sliceBounds, HT.sIx, Option.getD_none, show (1 : Int) > 0 by decide, if_true]
      by_cases h : i < 0
      · simp only [h, if_true] <;> omega
      · simp only [h, if_false] <;> omega
theorem slicePick_cut (its : List Value) (lo hi : Option Int) : slicePick its.toArray lo hi none = ((its.drop (HT.sIx its.length 0 lo)).take (HT.sIx its.length its.length hi - HT.sIx its.length 0 lo)).toArray := by
  obtain ⟨h1, h2, h3⟩ := slice_bounds lo hi its.toArray.size
  unfold slicePick
  rw [h1, h2, h3]
  simp only [sliceRange_one, pick_run, List.size_toArray] <;> rfl
/-- xs[lo:hi] of a list: a new list -/
def rSlL (K : PySem.W.Frag) : V → Option Int → Option Int → Hp → VK → Prop := fun x lo hi H Q => ∃ a xs, x = .ref a ∧ SqL K H a xs ∧ ∀ p, H p = none → Q (.ref p) (upd H p (.lst (cutV xs lo hi)))
theorem sl_list : SlR X (rSlL X.K) := by
  intro pins s σ H x v vl vu lo hi sl Q I rx hs pl pu h
  obtain ⟨a, xs, rfl, hx, q⟩ := h
  cases rx
  obtain ⟨its, r, ht, hz⟩ := I.list hx
  have hlen := r.length
  refine ⟨"list", _, slot_list_getitem.lookup, ht.isList.typeIs, ?_⟩
  refine wpAny_getItem_list_slice ht.isList hs pl pu .none (by simp) ?_ (by rw [List.size_toArray] <;> omega)
  rw [slicePick_cut, ← hlen]
  refine ⟨.ref s.heap.objs.size, _, I.laid (t' := s.toks) (o := .lst (cutV xs lo hi)) (fun b ob q => Heap.get?_push_of_some _ q) (Nat.le_refl _) ?_, rfl, q _ (I.hok.fresh (Nat.le_refl _))⟩
  exact ⟨Nat.le_trans (cutV_length xs lo hi) hz, _, 0, (r.drop (HT.sIx xs.length 0 lo)).take (HT.sIx xs.length xs.length hi - HT.sIx xs.length 0 lo), Heap.get?_push_size _ rfl⟩

/-! ### in, not in: flat items -/
def flatV : V → Bool
  | .non => true
  | .bl _ => true
  | .int _ => true
  | .str _ => true
  | _ => false
/-- == of flat values -/
def eqV : V → V → Bool
  | .non, .non => true
  | .bl a, .bl b => a == b
  | .bl a, .int b => (if a then 1 else 0) == b
  | .int a, .bl b => a == (if b then 1 else 0)
  | .int a, .int b => a == b
  | .str a, .str b => a == b
  | _, _ => false
theorem eqAt_V {A : Around} {s : Shared} {y x : V} {u v : Value} (ry : RelV y u) (rx : RelV x v) (fy : flatV y = true) (fx : flatV x = true) : SeqAt.EqAt A s u v (eqV y x) := by
  cases y with
  | non =>
    cases ry
    cases x with
    | non => cases rx; exact SeqAt.EqAt.same _
    | bl b => cases rx; exact SeqAt.EqAt.none_bool b
    | int b => obtain ⟨t, rfl⟩ := rx; exact SeqAt.EqAt.none_int b t
    | str b => obtain ⟨t, rfl⟩ := rx; exact SeqAt.EqAt.none_str b t
    | _ => exact absurd (show false = true from fx) Bool.false_ne_true
  | bl a =>
    cases ry
    cases x with
    | non => cases rx; exact SeqAt.EqAt.bool_none a
    | bl b => cases rx; exact SeqAt.EqAt.bool_bool a b
    | int b => obtain ⟨t, rfl⟩ := rx; exact SeqAt.EqAt.bool_int a b t
    | str b => obtain ⟨t, rfl⟩ := rx; exact SeqAt.EqAt.bool_str a b t
    | _ => exact absurd (show false = true from fx) Bool.false_ne_true
  | int a =>
    obtain ⟨t', rfl⟩ := ry
    cases x with
    | non => cases rx; exact SeqAt.EqAt.int_none a t'
    | bl b => cases rx; exact SeqAt.EqAt.int_bool a t' b
    | int b => obtain ⟨t, rfl⟩ := rx; exact SeqAt.EqAt.int_int a t' b t
    | str b => obtain ⟨t, rfl⟩ := rx; exact SeqAt.EqAt.int_str a t' b t
    | _ => exact absurd (show false = true from fx) Bool.false_ne_true
  | str a =>
    obtain ⟨t', rfl⟩ := ry
    cases x with
    | non => cases rx; exact SeqAt.EqAt.str_none a t'
    | bl b => cases rx; exact SeqAt.EqAt.str_bool a t' b
    | int b => obtain ⟨t, rfl⟩ := rx; exact SeqAt.EqAt.str_int a t' b t
    | str b => obtain ⟨t, rfl⟩ := rx; exact SeqAt.EqAt.str_str a t' b t
    | _ => exact absurd (show false = true from fx) Bool.false_ne_true
  | _ => exact absurd (show false = true from fy) Bool.false_ne_true
/-- the items' answers, read off the values (a value's own answer does not lean on its token) -/
def eqU (x : V) (u : Value) : Bool := match u with
  | .none => eqV .non x
  | .bool b => eqV (.bl b) x
  | .int i _ => eqV (.int i) x
  | .str z _ => eqV (.str z) x
  | _ => false
theorem eqU_of {x y : V} {u : Value} (r : RelV y u) (f : flatV y = true) : eqU x u = eqV y x := by
  cases y with
  | non => cases r; rfl
  | bl b => cases r; rfl
  | int i => obtain ⟨t, rfl⟩ := r; rfl
  | str z => obtain ⟨t, rfl⟩ := r; rfl
  | _ => exact absurd (show false = true from f) Bool.false_ne_true
theorem any_eqU {x : V} : ∀ {xs : List V} {us : List Value}, Vals xs us → xs.all flatV = true → us.any (eqU x) = xs.any fun y => eqV y x
  | _, _, .nil, _ => rfl
  | y :: xs, u :: us, .cons r t, f => by
    rw [List.all_cons, Bool.and_eq_true] at f
    rw [List.any_cons, List.any_cons, eqU_of r f.1, any_eqU t f.2]
theorem mem_eqAt {A : Around} {s : Shared} {x : V} {v : Value} (rx : RelV x v) (fx : flatV x = true) : ∀ {xs : List V} {us : List Value}, Vals xs us → xs.all flatV = true → ∀ u ∈ us, SeqAt.EqAt A s u v (eqU x u)
  | _, _, .nil, _ => fun u hu => by cases hu
  | y :: xs, u :: us, .cons r t, f => fun u' hu => by
    rw [List.all_cons, Bool.and_eq_true] at f
    rcases List.mem_cons.mp hu with rfl | hu
    · rw [eqU_of r f.1]; exact eqAt_V r rx f.1 fx
    · exact mem_eqAt rx fx t f.2 u' hu
def inV (x : V) (xs : List V) : Bool := xs.any fun y => eqV y x
/-- x in a list or tuple of flat items -/
def rIn (K : PySem.W.Frag) (neg : Bool) : R2 := fun x y H Q => ∃ p xs, y = .ref p ∧ (SqL K H p xs ∨ SqT K H p xs) ∧ flatV x = true ∧ xs.all flatV = true ∧ Q (.bl (if neg then !inV x xs else inV x xs)) H
theorem op_in_seq : OpR X (compareOp .In) (rIn X.K false) := by
  intro pins s σ H x y v u Q I rx ry h
  obtain ⟨p, xs, rfl, hq, fx, fs, q⟩ := h
  cases ry
  rcases hq with hq | hq
  · obtain ⟨its, r, pl, hz⟩ := I.list hq
    refine SeqAt.in_listAt (eqU x) pl.isList (fun w hw => mem_eqAt rx fx r fs w (by simpa using hw)) ⟨.bl _, H, I, rfl, ?_⟩
    rw [show its.toArray.any (eqU x) = its.any (eqU x) by simp, any_eqU r fs]
    exact q
  · obtain ⟨its, r, pl, hz⟩ := I.tuple hq
    refine SeqAt.in_tupleAt (eqU x) pl (fun w hw => mem_eqAt rx fx r fs w (by simpa using hw)) ⟨.bl _, H, I, rfl, ?_⟩
    rw [show its.toArray.any (eqU x) = its.any (eqU x) by simp, any_eqU r fs]
    exact q
theorem op_notIn_seq : OpR X (compareOp .NotIn) (rIn X.K true) := by
  intro pins s σ H x y v u Q I rx ry h
  obtain ⟨p, xs, rfl, hq, fx, fs, q⟩ := h
  cases ry
  rcases hq with hq | hq
  · obtain ⟨its, r, pl, hz⟩ := I.list hq
    refine SeqAt.notIn_listAt (eqU x) pl.isList (fun w hw => mem_eqAt rx fx r fs w (by simpa using hw)) ⟨.bl _, H, I, rfl, ?_⟩
    rw [show its.toArray.any (eqU x) = its.any (eqU x) by simp, any_eqU r fs]
    exact q
  · obtain ⟨its, r, pl, hz⟩ := I.tuple hq
    refine SeqAt.notIn_tupleAt (eqU x) pl (fun w hw => mem_eqAt rx fx r fs w (by simpa using hw)) ⟨.bl _, H, I, rfl, ?_⟩
    rw [show its.toArray.any (eqU x) = its.any (eqU x) by simp, any_eqU r fs]
    exact q
/-! ### len, list(x), tuple(x) of any list or tuple that is read -/
theorem call_len_seq : CallR X (.builtin "len") (fun xs H Q => ∃ p ys, xs = [.ref p] ∧ (SqL X.K H p ys ∨ SqT X.K H p ys) ∧ Q (.int ys.length) H) := by
  intro pins s σ H xs us Q I r h
  obtain ⟨p, ys, rfl, hq, q⟩ := h
  obtain ⟨u, rfl, rx⟩ := vals1 r
  cases rx
  have hn := line63
  rcases hq with hq | hq
  · obtain ⟨its, r', pl, hz⟩ := I.list hq
    have hlen := r'.length
    exact Calls.call_len_list pl.isList (by simp only [List.size_toArray] <;> omega) ⟨.int ys.length, H, I.tok _, ⟨s.toks + 1, by rw [List.size_toArray, hlen]⟩, q⟩
  · obtain ⟨its, r', pl, hz⟩ := I.tuple hq
    have hlen := r'.length
    exact len_tuple pl (by simp only [List.size_toArray] <;> omega) ⟨.int ys.length, H, I.tok _, ⟨s.toks + 1, by rw [List.size_toArray, hlen]⟩, q⟩
theorem call_len_str : CallR X (.builtin "len") (fun xs H Q => ∃ z, xs = [.str z] ∧ z.length ≤ sizeLine ∧ Q (.int z.length) H) := by
  intro pins s σ H xs us Q I r h
  obtain ⟨z, rfl, hz, q⟩ := h
  obtain ⟨u, rfl, t, rfl⟩ := vals1 r
  have hn := line63
  exact len_str (by omega) ⟨.int z.length, H, I.tok _, ⟨_, rfl⟩, q⟩
theorem CallR.or {f : Value} {r r' : List V → Hp → VK → Prop} (h : CallR X f r) (h' : CallR X f r') : CallR X f (fun xs H Q => r xs H Q ∨ r' xs H Q) := by
  intro pins s σ H xs us Q I rs q
  rcases q with q | q
  · exact h pins s σ H xs us Q I rs q
  · exact h' pins s σ H xs us Q I rs q
theorem call_list_of : CallR X (.type "list") (fun xs H Q => ∃ p ys, xs = [.ref p] ∧ (SqL X.K H p ys ∨ SqT X.K H p ys) ∧ ∀ l, H l = none → Q (.ref l) (upd H l (.lst ys))) := by
  intro pins s σ H xs us Q I r h
  obtain ⟨p, ys, rfl, hq, q⟩ := h
  obtain ⟨u, rfl, rx⟩ := vals1 r
  cases rx
  have fin : ∀ (its : List Value), Vals ys its → ys.length ≤ sizeLine → ∀ (h' : Heap) (c' : Nat), (∀ b o', s.heap.get? b = some o' → h'.get? b = some o') →
      h'.get? s.heap.objs.size = some { cls := .type "list", dict := none, data := .seq its.toArray c', slots := #[] } → EP X pins σ Q (.ref s.heap.objs.size) { s with heap := h' } := fun its r' hz h' c' kp e =>
    ⟨.ref s.heap.objs.size, _, I.laid (t' := s.toks) kp (Nat.le_refl _) (show ObjOk X.prog X.w _ h' _ (.lst ys) from ⟨hz, its, c', r', e⟩), rfl, q _ (I.hok.fresh (Nat.le_refl _))⟩
  rcases hq with hq | hq
  · obtain ⟨its, r', pl, hz⟩ := I.list hq
    have hlen := r'.length
    obtain ⟨o, ho, hc, n, hd⟩ := pl.isList
    exact call_list_seq p (.inl rfl) ho hc hd (fun h' c' kp e => fin its r' hz h' c' kp e) (by simp only [List.size_toArray] <;> omega)
  · obtain ⟨its, r', pl, hz⟩ := I.tuple hq
    have hlen := r'.length
    obtain ⟨o, ho, hc, n, hd⟩ := pl
    exact call_list_seq p (.inr rfl) ho hc hd (fun h' c' kp e => fin its r' hz h' c' kp e) (by simp only [List.size_toArray] <;> omega)
theorem call_tuple_of : CallR X (.type "tuple") (fun xs H Q => ∃ p ys, xs = [.ref p] ∧ ((SqL X.K H p ys ∧ ∀ l, H l = none → Q (.ref l) (upd H l (.tup ys))) ∨ (SqT X.K H p ys ∧ Q (.ref p) H))) := by
  intro pins s σ H xs us Q I r h
  obtain ⟨p, ys, rfl, h⟩ := h
  obtain ⟨u, rfl, rx⟩ := vals1 r
  cases rx
  rcases h with ⟨hq, q⟩ | ⟨hq, q⟩
  · obtain ⟨its, r', pl, hz⟩ := I.list hq
    have hlen := r'.length
    refine call_tuple_list pl.isList (fun h' kp => ?_) (by simp only [List.size_toArray] <;> omega)
    have I1 : Inv X pins σ H { s with heap := h' } := I.kept (t' := s.toks) kp
    have I2 : Inv X pins σ (upd H h'.objs.size (.tup ys)) { s with heap := h'.push { cls := .type "tuple", data := .seq its.toArray } } :=
      I1.laid (t' := s.toks) (fun b o e => Heap.get?_push_of_some _ e) (Nat.le_refl _) (show ObjOk X.prog X.w _ _ _ (.tup ys) from ⟨hz, its, r', IsTup.new _ _⟩)
    exact ⟨.ref h'.objs.size, _, I2, rfl, q _ (I1.hok.fresh (Nat.le_refl _))⟩
  · obtain ⟨its, r', pl, hz⟩ := I.tuple hq
    exact call_tuple_same pl ⟨.ref p, H, I, rfl, q⟩

/-! ### the call of a builtin's method: o.m(..) -/
/-- the value is of that builtin type -/
def tyV (K : PySem.W.Frag) (T : String) (x : V) (H : Hp) : Prop := match x with
  | .str _ => T = "str"
  | .int _ => T = "int"
  | .ref p => (T = "list" ∧ ∃ xs, SqL K H p xs) ∨ (T = "tuple" ∧ ∃ o, K.lookup p = some o ∧ o.cls = .type "tuple" ∧ o.dict = none) ∨
      (T = "dict" ∧ ((∃ kvs, H p = some (.dK kvs)) ∨ ∃ kvs, H p = some (.dT kvs))) ∨ (T = "set" ∧ ∃ S n, H p = some (.set S n))
  | _ => False
theorem tyV_is {pins : List (Addr × Obj)} {σ : St} {H : Hp} {s : Shared} {T : String} {x : V} {v : Value} (I : Inv X pins σ H s) (r : RelV x v) (ty : tyV X.K T x H) :
    s.TypeIs v T ∧ ∀ a, v = .ref a → ∃ ob, s.heap.get? a = some ob ∧ ob.dict = none := by
  cases x with
  | str z =>
    obtain ⟨t, rfl⟩ := r
    cases (show T = "str" from ty)
    exact ⟨typeIs_str s z t, fun _ e => nomatch e⟩
  | int i =>
    obtain ⟨t, rfl⟩ := r
    cases (show T = "int" from ty)
    exact ⟨typeIs_int s i t, fun _ e => nomatch e⟩
  | ref p =>
    cases r
    rcases ty with ⟨rfl, xs, hq⟩ | ⟨rfl, o, hk, hc, hd⟩ | ⟨rfl, hk⟩ | ⟨rfl, S, n, hk⟩
    · obtain ⟨its, _, pl, _⟩ := I.list hq
      refine ⟨pl.isList.typeIs, fun a e => ?_⟩
      cases e
      obtain ⟨o, n, e, c, hd, _⟩ := pl
      exact ⟨o, e, hd⟩
    · refine ⟨⟨o, I.kIn p o hk, hc⟩, fun a e => ?_⟩
      cases e
      exact ⟨o, I.kIn _ o hk, hd⟩
    · have z : ∃ o, s.heap.get? p = some o ∧ o.ExactDict := by
        rcases hk with ⟨kvs, hk⟩ | ⟨kvs, hk⟩
        · obtain ⟨_, _, _, _, o, _, _, e, ex, _⟩ := I.hok p _ hk
          exact ⟨o, e, ex⟩
        · obtain ⟨_, _, _, _, o, _, _, e, ex, _⟩ := I.hok p _ hk
          exact ⟨o, e, ex⟩
      obtain ⟨o, e, ex⟩ := z
      refine ⟨⟨o, e, ex.1⟩, fun a e2 => ?_⟩
      cases e2
      exact ⟨o, e, ex.2.1⟩
    · obtain ⟨o, _, _, _, e, ex, _⟩ := I.hok p _ hk
      refine ⟨⟨o, e, ex.1⟩, fun a e2 => ?_⟩
      cases e2
      exact ⟨o, e, ex.2.1⟩
  | _ => exact False.elim ty
def tBM0 (K : PySem.W.Frag) (T : String) (r : V → List V → Hp → VK → Prop) (to : TE) : TE := fun σ H Q => to σ H fun x H1 => tyV K T x H1 ∧ r x [] H1 Q
def tBM (K : PySem.W.Frag) (T : String) (r : V → List V → Hp → VK → Prop) (to : TE) (t : TA) : TE := fun σ H Q => to σ H fun x H1 => tyV K T x H1 ∧ t σ H1 fun xs H2 => r x xs H2 Q
variable {o e : Expr} {es : List Expr} {to : TE} {t : TA} {name : Str} {apos cpos : Pos} {T id : String} {r : V → List V → Hp → VK → Prop}
theorem pe_bm (pa : PlainAttrs T) (slot : Slot T name id) (hty : typeOf (.builtin id) = pure (.type "method_descriptor")) (hm : MtR X id r) (ho : PE X o to) (ha : PA X (e :: es) t)
    (hbase : attributeBase o name X.env (eval o X.env) = eval o X.env := by rfl)
    (hfew : ((backTo cpos (starEach (e :: es) X.env)).all (fun x => !x.1) && (backToKw cpos (keywordEach [] X.env)).all (fun x => x.1.isSome)
      && decide ((e :: es).length + ([] : List Keyword).length + (if ([] : List Keyword).isEmpty then 0 else 1) < 30)) = true := by rfl)
    (hline : (apos.endLine == cpos.line) = true := by rfl) (hs : starEach (e :: es) X.env = (false, eval e X.env) :: starEach es X.env := by rfl) (hplain : (backTo cpos (starEach es X.env)).any (·.1) = false := by rfl) :
    PE X (.Call (.Attribute o name apos) (e :: es) [] cpos) (tBM X.K T r to t) := by
  intro pins s σ H Q I h
  refine wpAny_Call_method_late hbase hfew hline rfl (thn (ho pins s σ H _ I h) fun v s1 ⟨x, H1, I1, r1, ty, q1⟩ => ?_)
  obtain ⟨h1, h2⟩ := tyV_is I1 r1 ty
  refine ⟨T, id, pa, slot, hty, h1, h2, ?_⟩
  have hA := ha cpos pins s1 σ H1 _ I1 q1
  rw [hs] at hA ⊢
  refine Calls.callWith_builtin (by show (false || (backTo cpos (starEach es X.env)).any (·.1)) = false; rw [hplain] <;> rfl) (Calls.evalArgs_plain ?_)
  exact thn hA fun us s2 ⟨vs, H2, I2, r2, q2⟩ => hm pins s2 σ H2 x vs v us Q I2 r1 r2 q2
/- xs.append(e), list.index on a module's tuple .. are MtR facts of 06m -/
end
end L2

namespace L2
open PySem PySem.Spec PyProof.Rows

def MtM (X : Cx) (id : String) (r : V → List V → Hp → VK → Prop) : Prop :=
  ∀ (pins : List (Addr × Obj)) (s : Shared) (σ : St) (H : Hp) (x : V) (xs : List V) (v : Value) (us : List Value) (Q : VK), Inv X pins σ H s → RelV x v → Vals xs us → r x xs H Q →
    wpAny (model X.prog X.w) X.A (call (.builtin id) (v :: us)) (EP X pins σ Q) X.xe s

/-! ### lists of values -/
theorem Vals.one : ∀ {x : V} {us : List Value}, Vals [x] us → ∃ u, us = [u] ∧ RelV x u
  | _, _, .cons r .nil => ⟨_, rfl, r⟩
theorem Vals.two : ∀ {x y : V} {us : List Value}, Vals [x, y] us → ∃ u v, us = [u, v] ∧ RelV x u ∧ RelV y v
  | _, _, _, .cons r (.cons q .nil) => ⟨_, _, rfl, r, q⟩
theorem Vals.zero : ∀ {us : List Value}, Vals [] us → us = []
  | _, .nil => rfl
theorem Vals.dropLast {xs : List V} {us : List Value} (h : Vals xs us) : Vals xs.dropLast us.dropLast := by
  induction h with
  | nil => exact .nil
  | cons r t ih =>
    cases t with
    | nil => exact .nil
    | cons q t' => exact .cons r ih
theorem Vals.eraseIdx : ∀ {xs : List V} {us : List Value} (i : Nat), Vals xs us → Vals (xs.eraseIdx i) (us.eraseIdx i)
  | _, _, _, .nil => .nil
  | _, _, 0, .cons _ t => t
  | _, _, i + 1, .cons r t => .cons r (Vals.eraseIdx i t)
theorem Vals.reverse {xs : List V} {us : List Value} (h : Vals xs us) : Vals xs.reverse us.reverse := by
  induction h with
  | nil => exact .nil
  | cons r t ih => rw [List.reverse_cons, List.reverse_cons]; exact Vals.append ih (.cons r .nil)
section
variable {X : Cx} {pins : List (Addr × Obj)} {σ : St} {H : Hp} {s : Shared} {l b : Addr} {xs ys zs : List V}

/-! ### the two steps: a tracked list is rewritten, a new list is laid -/
theorem Inv.lset {its its' : List Value} {n : Nat} {f : Array Value → Array Value} {t' : Nat} (I : Inv X pins σ H s) (hH : H l = some (.lst xs))
    (e : s.heap.get? l = some { cls := .type "list", data := .seq its.toArray n }) (hf : f its.toArray = its'.toArray) (hv : Vals ys its') (hz : ys.length ≤ sizeLine) :
    Inv X pins σ (upd H l (.lst ys)) { s with heap := s.heap.update l (Obj.mapSeq f), toks := t' } := by
  have q := PySem.IsL.update e f
  rw [hf] at q
  refine I.write (x := l) (e := l) (by rw [hH]; exact trivial) (.inl rfl) (fun b' u hb hu => (Heap.get?_update_other s.heap (Obj.mapSeq f) (Ne.symm hb)).trans hu) ⟨_, q⟩ ?_
  exact ⟨hz, its', _, hv, q⟩
theorem Inv.lnew {its : List Value} {t' : Nat} (I : Inv X pins σ H s) (hv : Vals ys its) (hz : ys.length ≤ sizeLine) :
    Inv X pins σ (upd H s.heap.objs.size (.lst ys)) { s with heap := s.heap.push { cls := .type "list", data := .seq its.toArray }, toks := t' } :=
  I.laid (fun _ _ q => Heap.get?_push_of_some _ q) (Nat.le_refl _) ⟨hz, its, 0, hv, Heap.get?_push_size _ rfl⟩
theorem Inv.fresh (I : Inv X pins σ H s) : H s.heap.objs.size = none := I.hok.fresh (Nat.le_refl _)
theorem Inv.lstM (I : Inv X pins σ H s) (hH : H l = some (.lst xs)) : xs.length ≤ sizeLine ∧ ∃ (its : List Value) (n : Nat), Vals xs its ∧ xs.length = its.length ∧ s.heap.get? l = some { cls := .type "list", data := .seq its.toArray n } := by
  obtain ⟨z, its, n, r, e⟩ := I.hok l _ hH
  exact ⟨z, its, n, r, r.length, e⟩

theorem notLongL {n : Nat} (h : n ≤ sizeLine) : Builtin.List.listTooLong n = false := by
  unfold Builtin.List.listTooLong
  exact decide_eq_false (by omega)
end

section
variable {X : Cx}

/-! ### methods -/
def rAppend : V → List V → Hp → VK → Prop := fun x vs H Q => ∃ l xs y, x = .ref l ∧ vs = [y] ∧ H l = some (.lst xs) ∧ xs.length < sizeLine ∧ Q .non (upd H l (.lst (xs ++ [y])))
theorem mt_append : MtM X "list.append" rAppend := by
  intro pins s σ H x vs v us Q I rx rv h
  obtain ⟨l, xs, y, rfl, rfl, hH, hz, q⟩ := h
  cases rx
  obtain ⟨u, rfl, ru⟩ := rv.one
  obtain ⟨z, its, n, r, hl, e⟩ := I.lstM hH
  refine call_meets F.slot_list_append ⟨_, e, rfl⟩ F.entry_list_append (F.args_list_append_2 _ _) (PySem.list_append l its.toArray n u (by rw [List.size_toArray]; omega)) ⟨e, ?_⟩
  refine ⟨.non, _, I.lset (its' := its ++ [u]) hH e (by simp) (r.append (.cons ru .nil)) ?_, rfl, q⟩
  rw [List.length_append, List.length_singleton]
  omega

def rExtend : V → List V → Hp → VK → Prop := fun x vs H Q => ∃ l b xs zs, x = .ref l ∧ vs = [.ref b] ∧ H l = some (.lst xs) ∧ H b = some (.lst zs) ∧ xs.length + zs.length ≤ sizeLine ∧ Q .non (upd H l (.lst (xs ++ zs)))
theorem mt_extend : MtM X "list.extend" rExtend := by
  intro pins s σ H x vs v us Q I rx rv h
  obtain ⟨l, b, xs, zs, rfl, rfl, hH, hB, hz, q⟩ := h
  cases rx
  obtain ⟨u, rfl, ru⟩ := rv.one
  cases ru
  obtain ⟨z, its, n, r, hl, e⟩ := I.lstM hH
  obtain ⟨z2, its2, n2, r2, hl2, e2⟩ := I.lstM hB
  have hsz : its.toArray.size + its2.toArray.size ≤ sizeLine := by rw [List.size_toArray, List.size_toArray]; omega
  have hlong : ¬ (!its.toArray.isEmpty && Builtin.List.listTooLong (its.toArray.size + its2.toArray.size)) = true := by
    rw [notLongL hsz, Bool.and_false]
    exact Bool.false_ne_true
  refine call_meets F.slot_list_extend ⟨_, e, rfl⟩ F.entry_list_extend (F.args_list_extend_2 _ _)
    (AutoSeq1.list_extend_list_list_0 l its.toArray n b its2.toArray n2 hlong (by rw [List.size_toArray]; omega) (by omega)) ⟨e, e2, ?_⟩
  refine ⟨.non, _, I.lset (its' := its ++ its2) hH e (by simp) (r.append r2) ?_, rfl, q⟩
  rw [List.length_append]
  omega

def rPop : V → List V → Hp → VK → Prop := fun x vs H Q => ∃ l xs y, x = .ref l ∧ vs = [] ∧ H l = some (.lst xs) ∧ xs[xs.length - 1]? = some y ∧ Q y (upd H l (.lst xs.dropLast))
def rPopAt : V → List V → Hp → VK → Prop := fun x vs H Q => ∃ l xs i k y, x = .ref l ∧ vs = [.int i] ∧ H l = some (.lst xs) ∧ -(2 ^ 63) ≤ i ∧ i < 2 ^ 63 ∧ seqIndex? i xs.length = some k ∧ xs[k]? = some y ∧ Q y (upd H l (.lst (xs.eraseIdx k)))
def rReverse : V → List V → Hp → VK → Prop := fun x vs H Q => ∃ l xs, x = .ref l ∧ vs = [] ∧ H l = some (.lst xs) ∧ Q .non (upd H l (.lst xs.reverse))
def rClear : V → List V → Hp → VK → Prop := fun x vs H Q => ∃ l xs, x = .ref l ∧ vs = [] ∧ H l = some (.lst xs) ∧ Q .non (upd H l (.lst []))
/-! ### list + list, list += list, list * int -/
def rCat : R2 := fun x y H Q => ∃ l b xs zs, x = .ref l ∧ y = .ref b ∧ H l = some (.lst xs) ∧ H b = some (.lst zs) ∧ xs.length + zs.length ≤ sizeLine ∧ ∀ p, H p = none → Q (.ref p) (upd H p (.lst (xs ++ zs)))
theorem op_cat : OpR X (binaryOp .Add) rCat := by
  intro pins s σ H x y v u Q I rx ry h
  obtain ⟨l, b, xs, zs, rfl, rfl, hH, hB, hz, q⟩ := h
  cases rx
  cases ry
  obtain ⟨z, its, n, r, hl, e⟩ := I.lstM hH
  obtain ⟨z2, its2, n2, r2, hl2, e2⟩ := I.lstM hB
  refine PySem.P.add_list e e2 ?_ (by rw [List.size_toArray, List.size_toArray]; omega)
  have ea : its.toArray ++ its2.toArray = (its ++ its2).toArray := by simp
  rw [ea]
  exact ⟨.ref _, _, I.lnew (t' := s.toks) (r.append r2) (by rw [List.length_append]; omega), rfl, q _ I.fresh⟩
/-- a list times an int (a negative one is nothing) -/
def rRep : R2 := fun x y H Q => ∃ l k xs, x = .ref l ∧ y = .int k ∧ H l = some (.lst xs) ∧ -(2 ^ 63) ≤ k ∧ k < 2 ^ 63 ∧ xs.length * k.toNat ≤ sizeLine ∧
  ∀ p, H p = none → Q (.ref p) (upd H p (.lst (List.replicate k.toNat xs).flatten))
/-! ### del xs[i] -/
end

/-! ### xs[a:b] = ys -/
section
variable {prog : Program} {w : World} {A : Around} {E : Value → Shared → Prop} {s : Shared}
set_option maxRecDepth 100000 in
end

section
variable {X : Cx}
end
end L2

namespace Att
open PySem PySem.W PySem.Calls PyProof.Rows

/-! ### the script -/
theorem ints_of_wellAll {P : Params} {h : Heap} : ∀ (ns : List Int) (vs : List Value), WellAll P h vs (ns.map WData.int) → IntsAre vs ns := by
  intro ns
  induction ns with
  | nil =>
    intro vs w
    rw [List.map_nil] at w
    cases w
    exact .nil
  | cons n ns ih =>
    intro vs w
    rw [List.map_cons] at w
    cases w with
    | cons a b =>
      cases a
      exact .cons _ _ (ih _ b)

theorem script_of {l : OpenLaw} {n : Nat} (hn : l.most = some n) {P : Params} {h : Heap} {args : List WData} {vals : List Value}
    (hpre : l.row.toRowW.claim.pre args = true) (hwl : WellAll P h vals args) :
    ∃ a vs ns, vals = [Value.ref a] ∧ args = [WData.list (ns.map WData.int)] ∧ h.get? a = some { cls := .type "list", data := .seq vs.toArray } ∧ IntsAre vs ns ∧ ns.length ≤ n := by
  have hsh : WShape.hasAll [] args [.list .int] = true := (pre_splitW hpre).1
  have hc : l.pre.holds [] { args := args } = true := (pre_splitW hpre).2
  obtain ⟨d, r, rfl, h1, h2⟩ := hasAllW_cons hsh
  obtain rfl := hasAllW_nil h2
  obtain ⟨xs, rfl, h3⟩ := hasW_list h1
  obtain ⟨ns, rfl⟩ := items_int h3
  have hlen : ns.length ≤ n := by
    unfold OpenLaw.pre at hc
    have h4 : (WTm.not (.lt (.lit (.int (n : Int))) (.len (.arg 0)))).holds [] { args := [.list (ns.map .int)] } = true := by
      have h4 := (holds_andW hc).1
      rw [hn] at h4
      exact h4
    have h5 := condW_of h4 (w_not (w_lt w_lit (w_len_list (w_arg rfl))))
    rw [List.length_map] at h5
    refine Nat.le_of_not_lt fun q => ?_
    have q' : (n : Int) < ((ns.length : Nat) : Int) := by omega
    first
      | (rw [decide_eq_true q'] at h5; exact absurd h5 (by decide))
      | (simp at h5; omega)
  cases hwl with
  | cons w1 w2 =>
    cases w2
    cases w1 with
    | list ho hall => exact ⟨_, _, ns, rfl, rfl, ho, ints_of_wellAll ns _ hall, hlen⟩

theorem post_true (l : OpenLaw) (args : List WData) : l.row.toRowW.claim.post args (.bool true) args = true :=
  postW_of (r := l.row.toRowW) (X := (true == true))
    (show WShape.has [] (.bool true) .bool = true by first | rfl | decide | simp [WShape.has, WShape.arms, WShape.armsAll])
    (show (WTm.eq .res (.lit (.bool true))).value [] { args := args, res := some (.bool true), after := args } = some (.bool (true == true)) from w_eq_bool (w_res rfl) w_lit) rfl

/-! ### the attachment: holds_open's last premise (the goal 'hc' behind k_head) from a wpAny of the law's body -/
/-- the same from a codeAny of the CALL (for a layer whose function contracts speak of calls) -/
theorem attach_call {l : OpenLaw} {n : Nat} {q : Program} {loose : List Str} {XP : (Str → Option Value) → Heap → Prop} {YP : World → Heap → Prop} {d : DefRec}
    (hn : l.most = some n) (hdf : d.params.defaults = [])
    (call : ∀ (w : World) (s₀ s₁ : Shared) (mg mb : Str → Option Value) (fa : Addr) (o : Obj) (pm cd doc : Value) (a : Addr) (vs : List Value) (ns : List Int),
      Ground q loose [] XP w s₀ mg mb s₁.heap → YP w s₁.heap →
      s₁.heap.get? fa = some o → o.data = .func (docDef d.name d.params d.body d.scope pm cd doc) → s₁.heap.CodeRec cd d.name → mg d.name = some (.ref fa) →
      s₁.heap.get? a = some { cls := .type "list", data := .seq vs.toArray } → IntsAre vs ns → ns.length ≤ n → s₁.gens = #[] →
      codeAny (model l.prog w) callerA (.call (.ref fa) ⟨[.ref a], []⟩) (fun r s' => r = .ok (.ret (.bool true)) ∧ OldK s₁.heap s'.heap ∧ s'.os = s₁.os ∧ AllBare s'.gens) s₁) :
    WalkO q loose XP YP l.row.toRowW d [] (fun f vs => PySem.call f vs) := by
  intro w s₀ s₁ mg mb G Y fa o pm cd doc dV kV ho hd hcd hD hmg hg args vals as hpre hlay hrd hwl hlo
  obtain rfl : dV = .none := Dflts.none hD hdf
  obtain rfl : kV = .none := Dflts.noKw hD
  obtain ⟨a, vs, ns, rfl, rfl, hobj, hints, hlen⟩ := script_of hn hpre hwl
  refine enter_call (codeAny_mono (call w s₀ s₁ mg mb fa o pm cd doc a vs ns G Y ho (fd_plain hd) hcd hmg hobj hints hlen hg) fun r s' hq => ?_)
  obtain ⟨rfl, h2, h3, h4⟩ := hq
  exact ⟨.inl ⟨.bool true, .bool true, [], rfl, fun _ => rfl, .bool true, post_true l _, fun _ => ⟨List.Pairwise.nil, fun _ hm => (nomatch hm)⟩⟩, h2, h3, h4⟩

/-! ### rules over ANY heap (no ledger) from facts about the written part K: the library's own take a ledger (News) for what they write -/
section
variable {prog : Program} {w : World} {A : Around} {E : Value → Shared → Prop} {s : Shared} {K : Frag}

/-! the whole heap as the ledger: makes every rule that writes through a ledger a rule over any heap -/
def noObjs (h : Heap) : Heap := { h with objs := #[] }
def ledger (h : Heap) (L d : Addr) : List (Addr × Obj) := (List.range h.objs.size).filterMap fun a => if a = L ∨ a = d then none else (h.get? a).map fun o => (a, o)
end
end Att

namespace L2
open PySem PySem.Spec PyProof.Rows

theorem vals_ints : ∀ {vs : List Value} {ns : List Int}, IntsAre vs ns → Vals (ns.map V.int) vs
  | _, _, .nil => .nil
  | _, _, .cons n t h => .cons ⟨t, rfl⟩ (vals_ints h)

/-- nothing is tracked but the script, known to the object (or it is an object of the module) -/
def Only (H : Hp) : Prop := ∀ b, H b = none ∨ ∃ o xs, H b = some (.frz o (.lst xs))

/-- THE HEAD: the law's promise, at the heap behind the top. F, the promise of the law's def, may use that base is part of the heap (so K.In base, base.Ns mainGlobals mg stand in Mod) -/
theorem law_call {P : Program} {w : World} {K : PySem.W.Frag} {mg mb : Str → Option Value} {CX : CXT} {k : Nat} {fa a : Addr} {fd : FuncData} {x : Str} {sp : Sp} {s₁ : Shared} {vs : List Value} {ns : List Int}
    (KX : K.In s₁.heap) (hns : s₁.heap.Ns mainGlobals mg) (hb : s₁.heap.Ns builtinsNs mb) (hbb : ∀ x : Str, x ≠ "__name__" → mb x = bootBuiltins x) (hlim : s₁.heap.NoLimit) (hg : s₁.gens = #[])
    (ha : s₁.heap.get? a = some { cls := .type "list", data := .seq vs.toArray }) (hi : IntsAre vs ns) (hl : ns.length ≤ sizeLine) (hr : Room k callerA)
    (F : ∀ base : Heap, K.In base → base.Ns mainGlobals mg → FnOk P w K mg base CX k fa fd [x] sp) (hbind : ∀ (s : Shared) (u : Value), BindsTo s fd ⟨[u], []⟩ [(x, u)])
    (hsp : ∀ H : Hp, Only H → SqL K H a (ns.map V.int) → sp [.ref a] H (fun v _ => v = .bl true) fun _ _ _ => False)
    (hCX : ∀ H e s', CX [] H s₁ (fun _ _ _ => False) e s' → False) :
    codeAny (model P w) callerA (.call (.ref fa) ⟨[.ref a], []⟩) (fun r s' => r = .ok (.ret (.bool true)) ∧ OldK s₁.heap s'.heap ∧ s'.os = s₁.os ∧ AllBare s'.gens) s₁ := by
  have rv := vals_ints hi
  have lenV := hi.length
  -- from an abstract heap in which nothing but the script may be tracked
  have core : ∀ H : Hp, Only H → SqL K H a (ns.map V.int) → HOk P w H s₁.heap → (∀ b, H b ≠ none → b = a) → (H a ≠ none → K.lookup a = none) →
      codeAny (model P w) callerA (.call (.ref fa) ⟨[.ref a], []⟩) (fun r s' => r = .ok (.ret (.bool true)) ∧ OldK s₁.heap s'.heap ∧ s'.os = s₁.os ∧ AllBare s'.gens) s₁ := by
    intro H hO hS hok hA hK
    have base_of : ∀ {b : Addr} {o : Obj}, s₁.heap.get? b = some o → H b = none → (hidT s₁.heap H).get? b = some o := fun e n => hidT_get e n
    have noA : ∀ {b : Addr} {o : Obj} {es : Array DictEntry} {ep : Nat}, s₁.heap.get? b = some o → o.data = .dict es ep → H b = none := fun {b o es ep} e d => by
      cases q : H b with
      | none => rfl
      | some u =>
        have e' : b = a := hA b (by rw [q]; simp)
        subst e'
        rw [ha] at e; cases e
        have d' : Data.seq vs.toArray _ = Data.dict es ep := d
        cases d'
    have nsK : ∀ {b : Addr} {m : Str → Option Value}, s₁.heap.Ns b m → (hidT s₁.heap H).Ns b m := fun {b m} ⟨o, es, ep, e, d, r⟩ => ⟨o, es, ep, base_of e (noA e d), d, r⟩
    have hKb : K.In (hidT s₁.heap H) := fun b o e => base_of (KX b o e) (by
      cases q : H b with
      | none => rfl
      | some u =>
        have e' : b = a := hA b (by rw [q]; simp)
        subst e'
        rw [hK (by rw [q]; simp)] at e; cases e)
    have hM : Mod K mg (hidT s₁.heap H) := ⟨hKb, nsK hns, ⟨mb, nsK hb, hbb⟩, let ⟨mc, h1, h2⟩ := hlim; ⟨mc, nsK h1, h2⟩⟩
    have e0 : Env0 P w K mg (hidT s₁.heap H) callerA [] s₁ H := ⟨rfl, hM, fun b o e => of_hidT e, Nat.le_of_eq (hidT_size _ _), trivial, fun b hb => absurd (show b ∈ ([] : List Addr) from hb) (by simp), hok, .of_eq hg⟩
    refine codeAny_mono ((F _ hKb (nsK hns)).run callerA [] s₁ H ⟨[.ref a], []⟩ [.ref a] [.ref a] _ _ hr e0 (hbind s₁ (.ref a)) (.cons rfl .nil) (hsp H hO hS)) fun r s' h => ?_
    cases r with
    | error e => exact (hCX H e s' h).elim
    | ok fl =>
      cases fl with
      | next => exact False.elim h
      | brk => exact False.elim h
      | cont => exact False.elim h
      | ret u =>
        obtain ⟨v, H', os, bare, un, hok', r', q⟩ := h
        have q' : v = .bl true := q
        subst q'
        obtain rfl : u = Value.bool true := r'
        refine ⟨rfl, OldK.of_keep fun b o e => ?_, os, bare⟩
        cases q : H b with
        | none => exact un.keep b o e q (by intro z; exact absurd (show b ∈ ([] : List Addr) from z) (by simp)) (by simp)
        | some u =>
          rcases hO b with z | ⟨ob, xs, z⟩
          · rw [q] at z; cases z
          · have z2 := un.frzs b ob _ z
            obtain ⟨e1, _⟩ := hok b _ z
            obtain ⟨e2, _⟩ := hok' b _ z2
            rw [e] at e1; cases e1
            exact e2
  cases hk : K.lookup a with
  | some o =>
    -- the script is one of the module's own objects
    have e := KX a o hk
    rw [ha] at e
    cases e
    refine core (fun _ => none) (fun _ => .inl rfl) (.inr ⟨_, vs.toArray, _, hk, rfl, rfl, rfl, by rw [List.size_toArray, lenV]; exact hl, by simpa using rv⟩) (fun b u z => by have z' : (none : Option HO) = some u := z; cases z') (fun b z => absurd rfl z) fun z => absurd rfl z
  | none =>
    refine core (fun b => if b = a then some (.frz { cls := .type "list", data := .seq vs.toArray } (.lst (ns.map V.int))) else none) (fun b => ?_) (.inl (.inr ⟨{ cls := .type "list", data := .seq vs.toArray }, if_pos rfl⟩)) (fun b u z => ?_) (fun b z => ?_) fun _ => hk
    · by_cases hb : b = a
      · exact .inr ⟨_, _, if_pos hb⟩
      · exact .inl (if_neg hb)
    · by_cases hb : b = a
      · have z' := (if_pos hb).symm.trans z
        cases z'
        subst hb
        exact ⟨ha, by rw [List.length_map]; exact hl, vs, _, rv, ha⟩
      · have z' := (if_neg hb).symm.trans z
        cases z'
    · by_cases hb : b = a
      · exact hb
      · exact absurd (if_neg hb) z
end L2

namespace L2
open PySem PySem.Spec PyProof.Rows

abbrev KOf {K : PySem.W.Frag} {h : Heap} (_ : K.In h) : PySem.W.Frag := K

/-- the goal that k_head leaves (case hc), from the law's promise. F gives the function object fd (K's own) once, then the promise over every base -/
theorem walk_of {l : PySem.W.OpenLaw} {n k : Nat} {q : Program} {loose : List Str} {XP : (Str → Option Value) → Heap → Prop} {YP : World → Heap → Prop} {d : DefRec} {K : Params → PySem.W.Frag} {CX : World → CXT} {sp : World → Sp} {x : Str}
    (hn : l.most = some n) (hn2 : n ≤ sizeLine) (hdf : d.params.defaults = []) (hr : Room k callerA)
    (hY : ∀ (w : World) (h : Heap), YP w h → (K w.params).In h)
    (F : ∀ (w : World) (mg : Str → Option Value) (fa : Addr) (h : Heap), (K w.params).In h → h.Ns mainGlobals mg → mg d.name = some (.ref fa) →
      ∃ fd : FuncData, (∀ (s : Shared) (u : Value), BindsTo s fd ⟨[u], []⟩ [(x, u)]) ∧
        ∀ base : Heap, (K w.params).In base → base.Ns mainGlobals mg → FnOk l.prog w (K w.params) mg base (CX w) k fa fd [x] (sp w))
    (hsp : ∀ (w : World) (H : Hp) (a : Addr) (ns : List Int), ns.length ≤ n → Only H → SqL (K w.params) H a (ns.map V.int) → sp w [.ref a] H (fun v _ => v = .bl true) fun _ _ _ => False)
    (hCX : ∀ (w : World) (H : Hp) (s : Shared) (e : Value) (s' : Shared), CX w [] H s (fun _ _ _ => False) e s' → False) :
    PySem.W.WalkO q loose XP YP l.row.toRowW d [] (fun f vs => PySem.call f vs) := by
  refine Att.attach_call hn hdf fun w s₀ s₁ mg mb fa o pm cd doc a vs ns G Y ho hd hcd hmg hobj hints hlen hg => ?_
  have KX := hY w _ Y
  obtain ⟨fd, hb, hF⟩ := F w mg fa _ KX G.T.g hmg
  exact law_call KX G.T.g G.T.b G.T.builtins G.T.nolimit hg hobj hints (Nat.le_trans hlen hn2) hr hF hb (fun H hO hS => hsp w H a ns hlen hO hS) fun H e s' => hCX w H s₁ e s'
end L2

/- THE LAST THEOREM (shape; LID, My.* are yours):
   My.Adr: a structure of the addresses that your layer names (classes, functions); My.Txt K t: a structure (Prop) of the equations over K;
   My.txt_mk : {K} {implicit addresses ..} (e1 : nsIn K mainGlobals "law" = some (some (.ref f))) (e2 : K.lookup f = some ⟨oc, od, .func (fnOf "law" "law" params body scope dV kV doc pm an cdv ct), sl⟩) (e3 : codeIn K cdv "law" = true) .. : ∃ t, My.Txt K t

set_option maxRecDepth 100000 in
set_option maxHeartbeats 0 in
theorem PySem.Challenge.cw_LID_holds : PySem.Challenge.rw_LID.Holds := by
  w_on; o_law; k_head; (case hw => w_witness2)
  k_fill
  refine L2.walk_of (l := PySem.Challenge.rw_LID) (n := 63) (k := 40) (x := "script") (CX := fun w => ..) (sp := fun _ => My.sp_law) rfl (by decide) rfl ⟨rfl, by decide, by decide⟩ (fun w h Y => PySem.W.kIn_of Y) ?F ?S ?C
  case F =>
    intro w mg fa h KX G hmg
    have T : ∃ t, My.Txt (L2.KOf KX) t := by
      dsimp only [L2.KOf]                          -- K must stand as «<heap const> w.params» for k_is
      refine' My.txt_mk ?e1 ?e2 ?e3 ..
      (case e1 => PySem.W.k_is)                    -- in the order: a name -> its address -> its object -> its parts
      (case e2 => PySem.W.k_is)
      ..
    obtain ⟨t, T⟩ := T
    have e0 := hmg.symm.trans (PySem.W.mg_of KX G T.law)
    cases e0                                       -- fa is the law's own address
    exact ⟨_, fun s u => .of_eq rfl, fun base kb nb => My.law_fn T kb nb⟩     -- if «.of_eq rfl» comes too early: refine' ⟨_, ?b, fun base kb nb => My.law_fn T kb nb⟩; exact fun s u => .of_eq rfl
  case S => exact fun w H a ns hl hO hS => ..
  case C => exact ..
(the tactic k_is has no namespace: write k_is) -/

/-! SHORT WORDS over the layer: a def of the text, its body, what a loop and a test want. -/
namespace L2
open PySem PySem.Spec PyProof.Rows

/-! ### the text by places -/
/-- the j-th statement of a class's body -/
def inClass (s : Stmt) (j : Nat) : Stmt := match s with
  | .ClassDef _ _ _ body _ _ _ _ _ _ _ => body.getD j (.Pass ⟨0, 0, 0, 0⟩)
  | _ => .Pass ⟨0, 0, 0, 0⟩
def defArgs (s : Stmt) : Arguments := match s with
  | .FunctionDef _ a _ _ _ _ _ _ _ _ => a
  | _ => { posonlyargs := [], args := [], vararg := none, kwonlyargs := [], kw_defaults := [], kwarg := none, defaults := [] }
def defBody (s : Stmt) : List Stmt := match s with
  | .FunctionDef _ _ b _ _ _ _ _ _ _ => b
  | _ => []
def defScope (s : Stmt) : Scope := match s with
  | .FunctionDef _ _ _ _ _ _ sc _ _ _ => sc
  | _ => { kind := .function, names := [], isGenerator := false, isCoroutine := false }

/-! ### no exception leaves a def -/
abbrev CX0 : CXT := fun _ _ _ _ _ _ => False
abbrev E0 : XK := fun _ _ _ => False
theorem pass0 {X : Cx} : Passes CX0 X E0 := fun _ _ _ _ _ _ _ h => h.elim

/-! ### a def (or method) of the text as it stands behind the top -/
structure Fun (K : PySem.W.Frag) (x qual : Str) (st : Stmt) (f : Addr) (fd : FuncData) : Prop where
  ex : ∃ (oc : Value) (od : Option Addr) (kV doc pm : Value) (an : Option Addr) (cdv ct : Value) (osl : Array (Option Value)),
    fd = PySem.W.fnOf x qual (defArgs st) (defBody st) (defScope st) .none kV doc pm an cdv ct ∧ K.lookup f = some ⟨oc, od, .func fd, osl⟩ ∧ PySem.W.codeIn K cdv qual = true
  kp : PySem.W.keepIn K (.ref f) = true
section
variable {P : Program} {w : World} {K : PySem.W.Frag} {mg : Str → Option Value} {base : Heap}
/-- THE RULE for a def: its body as a term of rules, and the reading of that term -/
theorem Fun.ok {x qual : Str} {st : Stmt} {f : Addr} {fd : FuncData} {N ps : List Str} {k : Nat} {sp : Sp} (F : Fun K x qual st f fd) (S : FnScope N ps (defScope st)) (len : ∀ vs H Q E, sp vs H Q E → vs.length = ps.length)
    (hbody : ∀ (cdv : Value) (A : Around) (outer : List Env) (s : Shared) (H : Hp) (vs : List V) (Q : VK) (E : XK), Room k (A.deeper (envOfC qual (defScope st) s.heap.objs.size f cdv)) → sp vs H Q E →
      ∃ t, PSs (cxOf CX0 P w K mg base N qual (defScope st) f cdv A outer s H E).nox (defBody st) t ∧ t { nx := fun _ H' => Q .non H', rt := Q } (start N vs) H) : FnOk P w K mg base CX0 (k + 1) f fd ps sp := by
  obtain ⟨oc, od, kV, doc, pm, an, cdv, ct, osl, rfl, lk, hcd⟩ := F.ex
  refine fn_of lk hcd S len fun A outer s H vs Q E hr hsp => ?_
  obtain ⟨t, h, q⟩ := hbody cdv A outer s H vs Q E hr hsp
  exact ⟨t, h.nox, q⟩
/-- how its arguments bind (no defaults): h is «fun _ _ _ _ _ _ us hl => match us, hl with | [_, _], _ => rfl», one _ a parameter -/
theorem Fun.binds {x qual : Str} {st : Stmt} {f : Addr} {fd : FuncData} {ps : List Str} (F : Fun K x qual st f fd)
    (h : ∀ (kV doc pm : Value) (an : Option Addr) (cdv ct : Value) (us : List Value), us.length = ps.length → bindArgs (PySem.W.fnOf x qual (defArgs st) (defBody st) (defScope st) .none kV doc pm an cdv ct) ⟨us, []⟩ = pure (ps.zip us)) : Binds K fd ps [] := by
  obtain ⟨oc, od, kV, doc, pm, an, cdv, ct, osl, rfl, lk, hcd⟩ := F.ex
  exact .all (h kV doc pm an cdv ct)
theorem fun_mk {x qual : Str} {st : Stmt} {f : Addr} {oc : Value} {od an : Option Addr} {osl : Array (Option Value)} {kV doc pm cdv ct : Value} (l : K.lookup f = some ⟨oc, od, .func (PySem.W.fnOf x qual (defArgs st) (defBody st) (defScope st) .none kV doc pm an cdv ct), osl⟩)
    (c : PySem.W.codeIn K cdv qual = true) (k : PySem.W.keepIn K (.ref f) = true) : Fun K x qual st f (PySem.W.fnOf x qual (defArgs st) (defBody st) (defScope st) .none kV doc pm an cdv ct) := ⟨⟨oc, od, kV, doc, pm, an, cdv, ct, osl, rfl, l, c⟩, k⟩
end
theorem small1000 {n : Nat} (h : n ≤ 1000) : n < sizeLine := Nat.lt_of_le_of_lt h (by decide)

/-! ### expressions in short: the name that stands in the i-th slot -/
section
variable {X : Cx}
theorem pv (i : Nat) {x : Str} {pos : Pos} (hN : X.N[i]? = some x := by rfl) (hv : Vis X.env.scope x := by first | exact Or.inl rfl | exact Or.inr (Or.inl rfl) | exact Or.inr (Or.inr rfl)) (hd : (x == ("__debug__" : Str)) = false := by decide)
    (hcd : (x == ("__classdict__" : Str)) = false := by decide) : PE X (.Name x pos) (tVar i) := pe_var hN hv hd hcd
end

/-! ### tests -/
theorem iteF {A B : Prop} (h : B) : if false = true then A else B := by
  rw [if_neg Bool.false_ne_true]
  exact h
theorem iteT {A B : Prop} (h : A) : if true = true then A else B := by
  rw [if_pos rfl]
  exact h
theorem ite2 {c A B : Prop} [Decidable c] (h1 : c → A) (h2 : ¬ c → B) : if c then A else B := by
  by_cases h : c
  · rw [if_pos h]
    exact h1 h
  · rw [if_neg h]
    exact h2 h
theorem iteNS {c A B : Prop} [Decidable c] (hc : c) (h : B) : if (!decide c) = true then A else B := by
  rw [decide_eq_true hc]
  exact iteF h

/-! ### heaps -/
/-- all that was tracked is as it was -/
def Same (H H' : Hp) : Prop := ∀ b o, H b = some o → H' b = some o
theorem Same.refl (H : Hp) : Same H H := fun _ _ h => h
theorem Same.trans {H H1 H2 : Hp} (a : Same H H1) (b : Same H1 H2) : Same H H2 := fun c o h => b c o (a c o h)
theorem Same.free {H H' : Hp} (e : Same H H') {l : Addr} (h : H' l = Option.none) : H l = Option.none := by
  cases q : H l with
  | none => rfl
  | some o =>
    rw [e l o q] at h
    cases h
theorem Same.seq {K : PySem.W.Frag} {H H' : Hp} {a : Addr} {xs : List V} (e : Same H H') (h : SqL K H a xs) : SqL K H' a xs := by
  rcases h with (h | ⟨o, h⟩) | h
  · exact .inl (.inl (e _ _ h))
  · exact .inl (.inr ⟨o, e _ _ h⟩)
  · exact .inr h

end L2

set_option maxHeartbeats 4000000
namespace L2
open PySem PySem.Spec PyProof.Rows
/-! ### lists of pairs as tables -/
section
variable {κ : Type} [DecidableEq κ]
def valV (kvs : List (κ × V)) (k : κ) : Option V := (kvs.find? fun kv => decide (kv.1 = k)).map (·.2)
/-- in its place, or at the end -/
def putK (kvs : List (κ × V)) (k : κ) (v : V) : List (κ × V) :=
  if (kvs.any fun kv => decide (kv.1 = k)) = true then kvs.map (fun kv => if kv.1 = k then (kv.1, v) else kv) else kvs ++ [(k, v)]
def dropK (kvs : List (κ × V)) (k : κ) : List (κ × V) := kvs.filter fun kv => decide (kv.1 ≠ k)

theorem valV_pos {p : κ × V} {r : List (κ × V)} {k : κ} (e : p.1 = k) : valV (p :: r) k = some p.2 := by simp [valV, List.find?_cons, e]
theorem valV_neg {p : κ × V} {r : List (κ × V)} {k : κ} (e : ¬ p.1 = k) : valV (p :: r) k = valV r k := by simp [valV, List.find?_cons, e]
theorem valV_any (k : κ) : ∀ kvs : List (κ × V), (kvs.any fun kv => decide (kv.1 = k)) = (valV kvs k).isSome
  | [] => rfl
  | p :: r => by
    rw [List.any_cons]
    by_cases e : p.1 = k
    · simp only [valV_pos e, decide_eq_true e, Bool.true_or, Option.isSome_some]
    · rw [valV_neg e, decide_eq_false e, Bool.false_or]; exact valV_any k r
theorem length_putK (kvs : List (κ × V)) (k : κ) (v : V) : (putK kvs k v).length ≤ kvs.length + 1 := by
  unfold putK
  split
  · rw [List.length_map]; omega
  · rw [List.length_append, List.length_cons, List.length_nil]; omega
theorem putK_new {kvs : List (κ × V)} {k : κ} (v : V) (h : valV kvs k = none) : putK kvs k v = kvs ++ [(k, v)] := by
  unfold putK
  rw [valV_any, h]
  exact if_neg (by decide)

theorem RelO.isSome_eq {o : Option V} {u : Option Value} (r : RelO o u) : o.isSome = u.isSome := by
  cases o with
  | none => cases u with
    | none => rfl
    | some _ => exact (show False from r).elim
  | some _ => cases u with
    | none => exact (show False from r).elim
    | some _ => rfl
theorem RelO.getD {o : Option V} {u : Option Value} {d : V} {d' : Value} (r : RelO o u) (rd : RelV d d') : RelV (o.getD d) (u.getD d') := by
  cases o with
  | none => cases u with
    | none => exact rd
    | some _ => exact (show False from r).elim
  | some _ => cases u with
    | none => exact (show False from r).elim
    | some _ => exact r

/-- raw tables of the same keys -/
theorem KV.val {kvs : List (κ × V)} {vs : List (κ × Value)} (r : KV kvs vs) (k : κ) : RelO (valV kvs k) (valueAt vs k) := by
  unfold KV at r
  induction r with
  | nil => exact True.intro
  | @cons p q ps qs h t ih =>
    obtain ⟨h1, h2⟩ := h
    by_cases e : p.1 = k
    · have e' : q.1 = k := h1.symm.trans e
      have b : valueAt (q :: qs) k = some q.2 := by simp [valueAt, List.find?_cons, e']
      rw [valV_pos e, b]; exact h2
    · have e' : ¬ q.1 = k := fun z => e (h1.trans z)
      have b : valueAt (q :: qs) k = valueAt qs k := by simp [valueAt, List.find?_cons, e']
      rw [valV_neg e, b]; exact ih
theorem KV.any {kvs : List (κ × V)} {vs : List (κ × Value)} (r : KV kvs vs) (k : κ) : (kvs.any fun kv => decide (kv.1 = k)) = vs.any fun kv => decide (kv.1 = k) := by
  unfold KV at r
  induction r with
  | nil => rfl
  | cons h t ih => rw [List.any_cons, List.any_cons, ih, h.1]
theorem KV.repl {kvs : List (κ × V)} {vs : List (κ × Value)} (r : KV kvs vs) (k : κ) {y : V} {u : Value} (ry : RelV y u) :
    KV (kvs.map fun kv => if kv.1 = k then (kv.1, y) else kv) (vs.map fun kv => if kv.1 = k then (kv.1, u) else kv) := by
  unfold KV at r ⊢
  induction r with
  | nil => exact .nil
  | @cons p q ps qs h t ih =>
    rw [List.map_cons, List.map_cons]
    refine .cons ?_ ih
    obtain ⟨h1, h2⟩ := h
    by_cases e : p.1 = k
    · rw [if_pos e, if_pos (h1.symm.trans e)]; exact ⟨h1, ry⟩
    · rw [if_neg e, if_neg (fun z => e (h1.trans z))]; exact ⟨h1, h2⟩
theorem KV.put {kvs : List (κ × V)} {vs : List (κ × Value)} (r : KV kvs vs) (k : κ) {y : V} {u : Value} (ry : RelV y u) : KV (putK kvs k y) (stored vs k u) := by
  unfold putK stored
  rw [r.any k]
  by_cases e : (vs.any fun kv => decide (kv.1 = k)) = true
  · rw [if_pos e, if_pos e]; exact r.repl k ry
  · rw [if_neg e, if_neg e]; exact Paired.snoc r ⟨rfl, ry⟩
theorem KV.drop {kvs : List (κ × V)} {vs : List (κ × Value)} (r : KV kvs vs) (k : κ) : KV (dropK kvs k) (without vs k) := by
  unfold KV at r ⊢
  unfold dropK without
  induction r with
  | nil => exact .nil
  | @cons p q ps qs h t ih =>
    obtain ⟨h1, h2⟩ := h
    rw [List.filter_cons, List.filter_cons]
    by_cases e : p.1 = k
    · have a : ¬ decide (p.1 ≠ k) = true := by simp [e]
      have b : ¬ decide (q.1 ≠ k) = true := by simp [h1.symm.trans e]
      rw [if_neg a, if_neg b]; exact ih
    · have e' : ¬ q.1 = k := fun z => e (h1.trans z)
      have a : decide (p.1 ≠ k) = true := by simp [e]
      have b : decide (q.1 ≠ k) = true := by simp [e']
      rw [if_pos a, if_pos b]; exact .cons ⟨h1, h2⟩ ih
theorem KV.keys {kvs : List (κ × V)} {vs : List (κ × Value)} (r : KV kvs vs) : kvs.map (·.1) = vs.map (·.1) := by
  unfold KV at r
  induction r with
  | nil => rfl
  | cons h t ih => rw [List.map_cons, List.map_cons, ih, h.1]
theorem KV.length {kvs : List (κ × V)} {vs : List (κ × Value)} (r : KV kvs vs) : kvs.length = vs.length := Paired.length r
end


/-! ### a tracked dict, its keys ints and texts or tuples of these -/
theorem kV_is {P : Program} {w : World} {k : Key} {u : Value} (r : RelV (kV k) u) : (mixKind P w).is k u = true := by
  cases k with
  | inl i => obtain ⟨t, e⟩ := (show ∃ t, u = Value.int i t from r); subst e; exact mixKind_int P w i t
  | inr x => obtain ⟨t, e⟩ := (show ∃ t, u = Value.str x t from r); subst e; exact mixKind_str P w x t
theorem items_are {P : Program} {w : World} : ∀ {ks : List Key} {us : List Value}, Vals (ks.map kV) us → ItemsAre (mixKind P w) ks us
  | [], _, r => by rw [List.map_nil] at r; cases r; exact .nil
  | k :: ks, _, r => by
    rw [List.map_cons] at r
    cases r with
    | cons h t => exact .cons (kV_is h) (items_are t)

/-- raw entries of a dict with tuple keys -/
abbrev KT (H : Hp) : List (List Key × V) → List (List Key × Addr × Value) → Prop := Paired fun p q => p.1 = q.1 ∧ H q.2.1 = some (.tup (p.1.map kV)) ∧ RelV p.2 q.2.2
theorem KT.val {H : Hp} {kvs : List (List Key × V)} {xs : List (List Key × Addr × Value)} (r : KT H kvs xs) (k : List Key) : RelO (valV kvs k) ((atKey xs k).map (·.2)) := by
  induction r with
  | nil => exact True.intro
  | @cons p q ps qs h t ih =>
    obtain ⟨h1, _, h2⟩ := h
    by_cases e : p.1 = k
    · have e' : q.1 = k := h1.symm.trans e
      have b : atKey (q :: qs) k = some q.2 := by simp [atKey, List.find?_cons, e']
      rw [valV_pos e, b]; exact h2
    · have e' : ¬ q.1 = k := fun z => e (h1.trans z)
      have b : atKey (q :: qs) k = atKey qs k := by simp [atKey, List.find?_cons, e']
      rw [valV_neg e, b]; exact ih
theorem KT.repl {H : Hp} {kvs : List (List Key × V)} {xs : List (List Key × Addr × Value)} (r : KT H kvs xs) (k : List Key) {y : V} {u : Value} (ry : RelV y u) :
    KT H (kvs.map fun kv => if kv.1 = k then (kv.1, y) else kv) (xs.map (putAt k u)) := by
  induction r with
  | nil => exact .nil
  | @cons p q ps qs h t ih =>
    rw [List.map_cons, List.map_cons]
    refine .cons ?_ ih
    obtain ⟨h1, h2, h3⟩ := h
    unfold putAt
    by_cases e : p.1 = k
    · rw [if_pos e, if_pos (h1.symm.trans e)]; exact ⟨h1, h2, ry⟩
    · rw [if_neg e, if_neg (fun z => e (h1.trans z))]; exact ⟨h1, h2, h3⟩
theorem KT.put {H : Hp} {kvs : List (List Key × V)} {xs : List (List Key × Addr × Value)} (r : KT H kvs xs) (k : List Key) {b : Addr} {y : V} {u : Value} (hb : H b = some (.tup (k.map kV))) (ry : RelV y u) :
    KT H (putK kvs k y) (storedH xs k b u) := by
  have e : (kvs.any fun kv => decide (kv.1 = k)) = (atKey xs k).isSome := by
    rw [valV_any, (r.val k).isSome_eq, Option.isSome_map]
  unfold putK storedH
  rw [e]
  by_cases q : (atKey xs k).isSome = true
  · rw [if_pos q, if_pos q]; exact r.repl k ry
  · rw [if_neg q, if_neg q]; exact Paired.snoc r ⟨rfl, hb, ry⟩
theorem KT.keeps {H H' : Hp} {kvs : List (List Key × V)} {xs : List (List Key × Addr × Value)} (r : KT H kvs xs) (ht : ∀ b ys, H b = some (.tup ys) → H' b = some (.tup ys)) : KT H' kvs xs :=
  Paired.mapP r fun _ _ z => ⟨z.1, ht _ _ z.2.1, z.2.2⟩

section
variable {P : Program} {w : World} {H : Hp} {h : Heap} {a : Addr}
theorem rd_of {u : HO} (ok : HOk P w H h) (e : Rd H a u) : ObjOk P w H h a u := e.ok ok
theorem dk_rd {kvs : List (Key × V)} (ok : HOk P w H h) (e : Rd H a (.dK kvs)) : kvs.length ≤ sizeLine ∧ (a == sysModules) = false ∧ ∃ vs, KV kvs vs ∧ h.DictOf (mixKind P w) a vs :=
  show ObjOk P w H h a (.dK kvs) from rd_of ok e
theorem dk_of {kvs : List (Key × V)} (ok : HOk P w H h) (e : H a = some (.dK kvs)) : kvs.length ≤ sizeLine ∧ (a == sysModules) = false ∧ ∃ vs, KV kvs vs ∧ h.DictOf (mixKind P w) a vs := dk_rd ok (.inl e)
/-- a tracked tuple of ints and texts is a key -/
theorem key_of {ks : List Key} (ok : HOk P w H h) (e : H a = some (.tup (ks.map kV))) : (tupleKind (mixKind P w)).is h ks a := by
  obtain ⟨_, its, r, o, h1, h2, n, h3⟩ := (show ObjOk P w H h a (.tup (ks.map kV)) from ok a _ e)
  exact ⟨o, its.toArray, n, h1, h2, h3, by simpa using items_are r⟩
theorem dt_rd {kvs : List (List Key × V)} (ok : HOk P w H h) (e : Rd H a (.dT kvs)) : kvs.length ≤ sizeLine ∧ (a == sysModules) = false ∧
    ∃ xs, KT H kvs xs ∧ h.DictOfH (tupleKind (mixKind P w)) a xs := by
  obtain ⟨z, y, xs, r, o, es, ep, h1, h2, h3, h4, h5⟩ := (show ObjOk P w H h a (.dT kvs) from rd_of ok e)
  refine ⟨z, y, xs, r, o, es, ep, h1, h2, h3, h4, fun x hx => ?_, h5⟩
  have all : ∀ {l : List (List Key × V)} {m : List (List Key × Addr × Value)}, KT H l m → ∀ x ∈ m, (tupleKind (mixKind P w)).is h x.1 x.2.1 := by
    intro l m q
    induction q with
    | nil => intro x hx; exact nomatch hx
    | @cons p q ps qs hq t ih =>
      intro x hx
      rcases List.mem_cons.mp hx with e | hx
      · subst e
        exact key_of ok (by rw [← hq.1]; exact hq.2.1)
      · exact ih x hx
  exact all r x hx
theorem dt_of {kvs : List (List Key × V)} (ok : HOk P w H h) (e : H a = some (.dT kvs)) : kvs.length ≤ sizeLine ∧ (a == sysModules) = false ∧
    ∃ xs, KT H kvs xs ∧ h.DictOfH (tupleKind (mixKind P w)) a xs := dt_rd ok (.inl e)
end

/-- what the dict at a holds at the key y -/
def DGet (H : Hp) (a : Addr) (y : V) (r : Option V) : Prop :=
  (∃ kvs k, Rd H a (.dK kvs) ∧ y = kV k ∧ r = valV kvs k) ∨ ∃ kvs k b, Rd H a (.dT kvs) ∧ y = .ref b ∧ H b = some (.tup (k.map kV)) ∧ r = valV kvs k
/-- the heap behind a[y] = v -/
def DPut (H : Hp) (a : Addr) (y v : V) (H' : Hp) : Prop :=
  (∃ kvs k, H a = some (.dK kvs) ∧ y = kV k ∧ kvs.length < sizeLine ∧ H' = upd H a (.dK (putK kvs k v))) ∨
  ∃ kvs k b, H a = some (.dT kvs) ∧ y = .ref b ∧ H b = some (.tup (k.map kV)) ∧ kvs.length < sizeLine ∧ H' = upd H a (.dT (putK kvs k v))
theorem DGet.k {H : Hp} {a : Addr} {kvs : List (Key × V)} {k : Key} (e : H a = some (.dK kvs)) : DGet H a (kV k) (valV kvs k) := .inl ⟨kvs, k, .inl e, rfl, rfl⟩
theorem DGet.t {H : Hp} {a b : Addr} {kvs : List (List Key × V)} {k : List Key} (e : H a = some (.dT kvs)) (eb : H b = some (.tup (k.map kV))) : DGet H a (.ref b) (valV kvs k) := .inr ⟨kvs, k, b, .inl e, rfl, eb, rfl⟩
theorem DPut.k {H : Hp} {a : Addr} {kvs : List (Key × V)} {k : Key} {v : V} (e : H a = some (.dK kvs)) (hl : kvs.length < sizeLine) : DPut H a (kV k) v (upd H a (.dK (putK kvs k v))) := .inl ⟨kvs, k, e, rfl, hl, rfl⟩
theorem DPut.t {H : Hp} {a b : Addr} {kvs : List (List Key × V)} {k : List Key} {v : V} (e : H a = some (.dT kvs)) (eb : H b = some (.tup (k.map kV))) (hl : kvs.length < sizeLine) :
    DPut H a (.ref b) v (upd H a (.dT (putK kvs k v))) := .inr ⟨kvs, k, b, e, rfl, eb, hl, rfl⟩


section
variable {X : Cx} {pins : List (Addr × Obj)} {σ : St} {H : Hp} {s : Shared} {a : Addr} {y v : V} {u r : Value} {o : Option V} {A : Around} {E : Value → Shared → Prop}

theorem Inv.big (I : Inv X pins σ H s) : sysModules < s.heap.objs.size := by
  have h : mainGlobals < s.heap.objs.size := (I.mod.glob.keeps I.bk).lt
  exact Nat.lt_trans (by decide) h

/-- d[y], there -/
theorem d_getItem {Q : Value → Shared → Prop} (hu : A.units + 1 < cLine) (I : Inv X pins σ H s) (g : DGet H a y (some v)) (ry : RelV y u) (h : ∀ w' s', Inv X pins σ H s' → RelV v w' → Q w' s') :
    wpAny (model X.prog X.w) A (getItem (.ref a) u) Q E s := by
  rcases g with ⟨kvs, k, e, ey, l⟩ | ⟨kvs, k, b, e, ey, eb, l⟩
  · subst ey
    obtain ⟨z, hd, vs, rel, dd⟩ := dk_rd I.hok e
    obtain ⟨w', hw, rw'⟩ := RelO.some_of (v := v) (o := valueAt vs k) (by rw [l]; exact rel.val k)
    exact wpAny_getItem_of (kV_is ry) dd.mapOf hw (h w' _ (I.tok _) rw')
  · subst ey
    cases (show u = Value.ref b from ry)
    obtain ⟨z, hd, xs, rel, dd⟩ := dt_rd I.hok e
    obtain ⟨w', hw, rw'⟩ := RelO.some_of (v := v) (o := (atKey xs k).map (·.2)) (by rw [l]; exact rel.val k)
    obtain ⟨p, hp, hp2⟩ := Option.map_eq_some_iff.mp hw
    refine wpAny_getItem_heap (tupleKind_room_in1 hu) (key_of I.hok eb) dd hp ?_
    rw [hp2]
    exact h w' _ (I.tok _) rw'
/-- y in d -/
theorem d_in {Q : Value → Shared → Prop} (hu : A.units + 1 < cLine) (I : Inv X pins σ H s) (g : DGet H a y o) (ry : RelV y u) (h : ∀ s', Inv X pins σ H s' → Q (.bool o.isSome) s') :
    wpAny (model X.prog X.w) A (compareOp .In u (.ref a)) Q E s := by
  rcases g with ⟨kvs, k, e, ey, l⟩ | ⟨kvs, k, b, e, ey, eb, l⟩
  · subst ey
    obtain ⟨z, hd, vs, rel, dd⟩ := dk_rd I.hok e
    refine wpAny_in_of (kV_is ry) hd dd.mapOf ?_
    rw [← (rel.val k).isSome_eq, ← l]
    exact h _ (I.tok _)
  · subst ey
    cases (show u = Value.ref b from ry)
    obtain ⟨z, hd, xs, rel, dd⟩ := dt_rd I.hok e
    refine wpAny_in_heap (tupleKind_room_in1 hu) (key_of I.hok eb) hd dd ?_
    have q := (rel.val k).isSome_eq
    rw [Option.isSome_map] at q
    rw [← q, ← l]
    exact h _ (I.tok _)
theorem d_notIn {Q : Value → Shared → Prop} (hu : A.units + 1 < cLine) (I : Inv X pins σ H s) (g : DGet H a y o) (ry : RelV y u) (h : ∀ s', Inv X pins σ H s' → Q (.bool (!o.isSome)) s') :
    wpAny (model X.prog X.w) A (compareOp .NotIn u (.ref a)) Q E s := by
  rcases g with ⟨kvs, k, e, ey, l⟩ | ⟨kvs, k, b, e, ey, eb, l⟩
  · subst ey
    obtain ⟨z, hd, vs, rel, dd⟩ := dk_rd I.hok e
    refine wpAny_notIn_of (kV_is ry) hd dd.mapOf ?_
    rw [← (rel.val k).isSome_eq, ← l]
    exact h _ (I.tok _)
  · subst ey
    cases (show u = Value.ref b from ry)
    obtain ⟨z, hd, xs, rel, dd⟩ := dt_rd I.hok e
    refine wpAny_notIn_heap (tupleKind_room_in1 hu) (key_of I.hok eb) hd dd ?_
    have q := (rel.val k).isSome_eq
    rw [Option.isSome_map] at q
    rw [← q, ← l]
    exact h _ (I.tok _)
/-- a dict's object is replaced -/
theorem d_write {h' : Heap} {t' : Nat} {ob : HO} (I : Inv X pins σ H s) (mu : Mut (H a)) (hs : Heap.SameBut a s.heap h') (he : ∃ q, h'.get? a = some q) (new : ObjOk X.prog X.w (upd H a ob) h' a ob) :
    Inv X pins σ (upd H a ob) { s with heap := h', toks := t' } :=
  I.write (x := a) (e := a) mu (.inl rfl) (fun b q hb z => (hs.2 b hb).trans z) he new
theorem dk_new {P : Program} {w : World} {H' : Hp} {h' : Heap} {kvs : List (Key × V)} {vs : List (Key × Value)} (z : kvs.length ≤ sizeLine) (hd : (a == sysModules) = false) (rel : KV kvs vs) (dd : h'.DictOf (mixKind P w) a vs) :
    ObjOk P w H' h' a (.dK kvs) := ⟨z, hd, vs, rel, dd⟩
/-- d[y] = v -/
theorem d_setItem {H' : Hp} {Q : Unit → Shared → Prop} (hu : A.units + 1 < cLine) (I : Inv X pins σ H s) (g : DPut H a y v H') (ry : RelV y u) (rv : RelV v r) (h : ∀ s', Inv X pins σ H' s' → Q () s') :
    wpAny (model X.prog X.w) A (setItem (.ref a) u r) Q E s := by
  rcases g with ⟨kvs, k, e, ey, l, eH⟩ | ⟨kvs, k, b, e, ey, eb, l, eH⟩
  · subst ey eH
    obtain ⟨z, hd, vs, rel, dd⟩ := dk_of I.hok e
    have hz : vs.length ≤ sizeLine := by rw [← rel.length]; exact z
    have hl : (putK kvs k v).length ≤ sizeLine := by have := length_putK kvs k v; omega
    refine wpAny_setItem_pairs (hsz := hz) (kV_is ry) dd fun h' dd' hs => h _ ?_
    have he : ∃ q, h'.get? a = some q := let ⟨q, _, _, hq, _⟩ := dd'; ⟨q, hq⟩
    exact d_write I (by rw [e]; exact True.intro) hs he (dk_new hl hd (rel.put k rv) dd')
  · subst ey eH
    cases (show u = Value.ref b from ry)
    obtain ⟨z, hd, xs, rel, dd⟩ := dt_of I.hok e
    have hz : xs.length ≤ sizeLine := by rw [← Paired.length rel]; exact z
    have hl : (putK kvs k v).length ≤ sizeLine := by have := length_putK kvs k v; omega
    refine wpAny_setItem_heap (hsz := hz) (tupleKind_room_in1 hu) (key_of I.hok eb) dd fun h' dd' hs => h _ ?_
    obtain ⟨q, es, ep, hq, h2, h3, h4, _, h5⟩ := dd'
    refine d_write I (by rw [e]; exact True.intro) hs ⟨q, hq⟩ ⟨hl, hd, _, (rel.put k eb rv).keeps fun c ys ec => ?_, q, es, ep, hq, h2, h3, h4, h5⟩
    rw [upd_ne (ne_of ec e (fun z => nomatch z))]
    exact ec
end

section
variable {X : Cx} {pins : List (Addr × Obj)} {σ : St} {H : Hp} {s : Shared} {a : Addr} {kvs : List (Key × V)} {k : Key} {u : Value} {A : Around} {E : Value → Shared → Prop}
end


/-! ### readings and rules -/
/-- the element of a subscription, not a slice -/
def NoSl (i : Expr) : Prop := ∀ ov iv, subscripted i false ov iv = operate [ov, iv] (getItem ov iv)
theorem subD_of {prog : Program} {w : World} {A : Around} {E : Value → Shared → Prop} {s : Shared} {env : Env} {value slice : Expr} {pos : Pos} {T id : String} {Q : Value → Shared → Prop}
    (hl : typeLookup (.type T) "__getitem__" = pure (some (.builtin id))) (hs : NoSl slice)
    (h : wpAny (model prog w) A (eval value env) (fun o s₁ => wpAny (model prog w) A (eval slice env) (fun i s₂ => s₂.TypeIs o T ∧ wpAny (model prog w) A (getItem o i) Q E s₂) E s₁) E s) :
    wpAny (model prog w) A (eval (.Subscript value slice pos) env) Q E s := by
  refine Subscript_ (wpAny_mono h (fun o s₁ h₁ => wpAny_mono h₁ (fun i s₂ h₂ => ?_) fun _ _ x => x) fun _ _ x => x)
  obtain ⟨hT, h₂⟩ := h₂
  unfold subscriptTail
  refine wpAny_bind ?_
  rw [getitemInPython_of_ne hT.not_modules]
  refine wpAny_bind (wpAny_specialOf hT hl ?_)
  have fin : wpAny (model prog w) A (subscripted slice false o i) (fun r s₃ => wpAny (model prog w) A (letTemporaryGo value o r >>= fun _ => pure r) Q E s₃) E s₂ := by
    rw [hs o i]
    exact wpAny_operating (wpAny_mono h₂ (fun r s₃ h₃ => wpAny_bind (wpAny_letTemporaryGo (wpAny_pure h₃))) fun _ _ x => x)
  first
    | exact wpAny_pure (wpAny_bind fin)
    | exact wpAny_bind (wpAny_pure (wpAny_bind fin))
    | exact wpAny_bind fin

theorem dict_typeIs {X : Cx} {pins : List (Addr × Obj)} {σ : St} {H : Hp} {s : Shared} {a : Addr} {y : V} {o : Option V} (I : Inv X pins σ H s) (g : DGet H a y o) : s.TypeIs (.ref a) "dict" := by
  rcases g with ⟨kvs, k, e, _, _⟩ | ⟨kvs, k, b, e, _, _, _⟩
  · obtain ⟨_, _, vs, _, dd⟩ := dk_rd I.hok e
    exact dd.typeIs
  · obtain ⟨_, _, xs, _, dd⟩ := dt_rd I.hok e
    exact dd.typeIs
/-- d[y] -/
def tDGet (td ty : TE) : TE := fun σ H Q => td σ H fun x H1 => ty σ H1 fun y H2 => ∃ a v, x = .ref a ∧ DGet H2 a y (some v) ∧ Q v H2
/-- y in d, y not in d -/
def tDIn (ty td : TE) : TE := fun σ H Q => ty σ H fun y H1 => td σ H1 fun x H2 => ∃ a o, x = .ref a ∧ DGet H2 a y o ∧ Q (.bl o.isSome) H2
def tDNotIn (ty td : TE) : TE := fun σ H Q => ty σ H fun y H1 => td σ H1 fun x H2 => ∃ a o, x = .ref a ∧ DGet H2 a y o ∧ Q (.bl (!o.isSome)) H2
/-- d[y] = v -/
def sDPut (td ty tv : TE) : TS := fun D σ H => tv σ H fun v H1 => td σ H1 fun x H2 => ty σ H2 fun y H3 => ∃ a H4, x = .ref a ∧ DPut H3 a y v H4 ∧ D.nx σ H4
/-- d[y] op= v -/
def sDAug (td ty tv : TE) (rd : V → V → Hp → VK → Prop) : TS := fun D σ H => td σ H fun x H1 => ty σ H1 fun y H2 => ∃ a v, x = .ref a ∧ DGet H2 a y (some v) ∧
  tv σ H2 fun y2 H3 => rd v y2 H3 fun z H4 => ∃ H5, DPut H4 a y z H5 ∧ D.nx σ H5
/-- del d[y] -/
def sDDel (td ty : TE) : TS := fun D σ H => td σ H fun x H1 => ty σ H1 fun y H2 => ∃ a kvs k, x = .ref a ∧ H2 a = some (.dK kvs) ∧ y = kV k ∧ (valV kvs k).isSome = true ∧ D.nx σ (upd H2 a (.dK (dropK kvs k)))

section
variable {X : Cx} {o i e value : Expr} {pos pos' tpos : Pos} {td ty tv : TE}
theorem pe_dget (hu : X.A.units + 1 < cLine) (ho : PE X o td) (hi : PE X i ty) (hs : NoSl i) : PE X (.Subscript o i pos) (tDGet td ty) := by
  intro pins s σ H Q I h
  refine subD_of PySem.F.slot_dict_getitem.lookup hs (thn (ho pins s σ H _ I h) fun u s1 ⟨x, H1, I1, rx, q1⟩ => thn (hi pins s1 σ H1 _ I1 q1) fun iv s2 ⟨y, H2, I2, ry, a, v, ex, g, q2⟩ => ?_)
  subst ex
  obtain rfl : u = Value.ref a := rx
  exact ⟨dict_typeIs I2 g, d_getItem hu I2 g ry fun w' s3 I3 rw' => ⟨v, H2, I3, rw', q2⟩⟩
theorem pc_din (hu : X.A.units + 1 < cLine) (hi : PE X i ty) (ho : PE X o td) : PC X .In i o (tDIn ty td) := by
  intro pins s σ H Q I h
  refine thn (hi pins s σ H _ I h) fun iv s1 ⟨y, H1, I1, ry, q1⟩ => thn (ho pins s1 σ H1 _ I1 q1) fun u s2 ⟨x, H2, I2, rx, a, ov, ex, g, q2⟩ => ?_
  subst ex
  obtain rfl : u = Value.ref a := rx
  exact d_in hu I2 g ry fun s3 I3 => ⟨.bl ov.isSome, H2, I3, rfl, q2⟩
theorem pc_dnotin (hu : X.A.units + 1 < cLine) (hi : PE X i ty) (ho : PE X o td) : PC X .NotIn i o (tDNotIn ty td) := by
  intro pins s σ H Q I h
  refine thn (hi pins s σ H _ I h) fun iv s1 ⟨y, H1, I1, ry, q1⟩ => thn (ho pins s1 σ H1 _ I1 q1) fun u s2 ⟨x, H2, I2, rx, a, ov, ex, g, q2⟩ => ?_
  subst ex
  obtain rfl : u = Value.ref a := rx
  exact d_notIn hu I2 g ry fun s3 I3 => ⟨.bl (!ov.isSome), H2, I3, rfl, q2⟩
theorem ps_dput (hu : X.A.units + 1 < cLine) (ho : PE X o td) (hi : PE X i ty) (hv : PE X value tv) (hs : swapsWith value (some (.Subscript o i pos')) pos.line X.env = pure false) :
    PS X (.Assign [.Subscript o i pos'] value pos) (sDPut td ty tv) := by
  intro pins s σ H D I h
  refine wpAny_Assign_Subscript (thn (hv pins s σ H _ I h) fun r s1 ⟨v, H1, I1, rv, q1⟩ => thn (ho pins s1 σ H1 _ I1 q1) fun u s2 ⟨x, H2, I2, rx, q2⟩ => thn (hi pins s2 σ H2 _ I2 q2) fun iv s3 ⟨y, H3, I3, ry, a, H4, ex, g, q3⟩ => ?_) hs
  subst ex
  obtain rfl : u = Value.ref a := rx
  exact d_setItem hu I3 g ry rv fun s4 I4 => ⟨σ, H4, I4, q3⟩
theorem ps_daug {op : Operator} {rd : V → V → Hp → VK → Prop} (hu : X.A.units + 1 < cLine) (ho : PE X o td) (hi : PE X i ty) (hv : PE X value tv) (hop : InOp X op rd)
    (ha : ∀ ov iv new, augStore i ov iv new = (do holding [new, ov, iv] (setItem ov iv new); release [new, ov, iv] []; pure .next)) : PS X (.AugAssign (.Subscript o i tpos) op value pos) (sDAug td ty tv rd) := by
  intro pins s σ H D I h
  refine wpAny_AugAssign_SubscriptAny (thn (ho pins s σ H _ I h) fun u s1 ⟨x, H1, I1, rx, q1⟩ => thn (hi pins s1 σ H1 _ I1 q1) fun iv s2 ⟨y, H2, I2, ry, a, v, ex, g, q2⟩ => ?_) ha
  subst ex
  obtain rfl : u = Value.ref a := rx
  refine d_getItem hu I2 g ry fun w' s3 I3 rw' => thn (hv pins s3 σ H2 _ I3 q2) fun w2 s4 ⟨y2, H3, I4, ry2, q3⟩ => thn (hop pins s4 σ H3 v y2 w' w2 _ I4 rw' ry2 q3) fun w3 s5 ⟨z, H4, I5, rz, H5, g5, q4⟩ => ?_
  exact d_setItem hu I5 g5 ry rz fun s6 I6 => ⟨σ, H5, I6, q4⟩
end


/-! ### displays -/
theorem dk_empty {P : Program} {w : World} {H : Hp} (h : Heap) (hb : sysModules < h.objs.size) : ObjOk P w H (h.push { cls := .type "dict", data := .dict #[] }) h.objs.size (.dK []) :=
  ⟨Nat.zero_le _, beq_eq_false_iff_ne.mpr (Ne.symm (Nat.ne_of_lt hb)), [], .nil, Heap.DictOf.new h⟩
/-- {}, to be a dict of the kind that is wanted -/
def tDNewK : TE := fun _ H Q => ∀ p, H p = none → Q (.ref p) (upd H p (.dK []))
def tDNewT : TE := fun _ H Q => ∀ p, H p = none → Q (.ref p) (upd H p (.dT []))
section
variable {X : Cx} {pos : Pos}
theorem pe_dnewK : PE X (.Dict [] [] pos) tDNewK := fun pins s σ H Q I h =>
  wpAny_Dict_empty ⟨.ref s.heap.objs.size, _, I.laid (a := s.heap.objs.size) (o := .dK []) (t' := s.toks) (fun _ _ q => Heap.get?_push_of_some _ q) (Nat.le_refl _) (dk_empty s.heap I.big), rfl, h _ (I.hok.fresh (Nat.le_refl _))⟩
end

/-- the pairs of a display, from the left -/
def tPairs : List (TE × TE) → St → Hp → (List (V × V) → Hp → Prop) → Prop
  | [], _, H, Q => Q [] H
  | (tk, tv) :: r, σ, H, Q => tk σ H fun x H1 => tv σ H1 fun y H2 => tPairs r σ H2 fun ps H3 => Q ((x, y) :: ps) H3
abbrev VV : List (V × V) → List (Value × Value) → Prop := Paired fun p q => RelV p.1 q.1 ∧ RelV p.2 q.2
def PPs (X : Cx) (pos : Pos) (keys : List (Option Expr)) (values : List Expr) (trs : List (TE × TE)) : Prop :=
  ∀ (pins : List (Addr × Obj)) (s : Shared) (σ : St) (H : Hp) (Q : List (V × V) → Hp → Prop), Inv X pins σ H s → tPairs trs σ H Q →
    wpAny (model X.prog X.w) X.A (evalPairs (pairTrees keys values X.env pos)) (fun vs s' => ∃ ps H', Inv X pins σ H' s' ∧ VV ps vs ∧ Q ps H') X.xe s
theorem pps_nil {X : Cx} {pos : Pos} : PPs X pos [] [] [] := fun pins s σ H Q I h => pairTrees_nil_walk ⟨[], H, I, .nil, h⟩
theorem pps_cons {X : Cx} {pos : Pos} {k v : Expr} {ks : List (Option Expr)} {vs : List Expr} {tk tv : TE} {trs : List (TE × TE)} (hk : PE X k tk) (hv : PE X v tv) (hr : PPs X pos ks vs trs) :
    PPs X pos (some k :: ks) (v :: vs) ((tk, tv) :: trs) := fun pins s σ H Q I h =>
  pairTrees_cons_walk (thn (hk pins s σ H _ I h) fun u s1 ⟨x, H1, I1, rx, q1⟩ => thn (hv pins s1 σ H1 _ I1 q1) fun w2 s2 ⟨y, H2, I2, ry, q2⟩ =>
    thn (hr pins s2 σ H2 _ I2 q2) fun ws s3 ⟨ps, H3, I3, rel, q3⟩ => ⟨(x, y) :: ps, H3, I3, .cons ⟨rx, ry⟩ rel, q3⟩)

def mergeK (kvs more : List (Key × V)) : List (Key × V) := more.foldl (fun acc kv => putK acc kv.1 kv.2) kvs
theorem KV.merge : ∀ {more : List (Key × V)} {rs : List (Key × Value)} {kvs : List (Key × V)} {vs : List (Key × Value)}, KV more rs → KV kvs vs → KV (mergeK kvs more) (merged vs rs) := by
  intro more rs kvs vs r
  unfold KV at r
  induction r generalizing kvs vs with
  | nil => intro q; exact q
  | @cons p q ps qs h t ih =>
    intro r0
    have e : KV (putK kvs p.1 p.2) (stored vs q.1 q.2) := by
      have := r0.put p.1 h.2
      rw [← h.1]; exact this
    exact ih e
theorem length_mergeK : ∀ (more kvs : List (Key × V)), (mergeK kvs more).length ≤ kvs.length + more.length
  | [], kvs => by show kvs.length ≤ kvs.length + 0; omega
  | p :: r, kvs => by
    have h1 := length_mergeK r (putK kvs p.1 p.2)
    have h2 := length_putK kvs p.1 p.2
    show (mergeK (putK kvs p.1 p.2) r).length ≤ _
    rw [List.length_cons]; omega
theorem carries_of {P : Program} {w : World} : ∀ {kvs : List (Key × V)} {ws : List (Value × Value)}, VV (kvs.map fun kv => (kV kv.1, kv.2)) ws → ∃ rs, Carries (mixKind P w) ws rs ∧ KV kvs rs
  | [], _, r => by rw [List.map_nil] at r; cases r; exact ⟨[], True.intro, .nil⟩
  | p :: kvs, _, r => by
    rw [List.map_cons] at r
    cases r with
    | @cons a b as bs h t =>
      obtain ⟨rs, c, q⟩ := carries_of (P := P) (w := w) t
      obtain ⟨b1, b2⟩ := b
      exact ⟨(p.1, b2) :: rs, ⟨kV_is h.1, rfl, c⟩, .cons ⟨rfl, h.2⟩ q⟩
/-- {k: v, ..} with keys ints and texts; the new dict stands empty while the pairs are made -/
def tDisp (trs : List (TE × TE)) : TE := fun σ H Q => ∀ p, H p = none → tPairs trs σ (upd H p (.dK [])) fun ps H2 => H2 p = some (.dK []) ∧ ∃ kvs : List (Key × V), ps = kvs.map (fun kv => (kV kv.1, kv.2)) ∧ kvs.length ≤ 15 ∧ Q (.ref p) (upd H2 p (.dK (mergeK [] kvs)))
theorem pe_disp {X : Cx} {pos : Pos} {keys : List (Option Expr)} {values : List Expr} {trs : List (TE × TE)} (h : PPs X pos keys values trs) (hall : keys.all (·.isSome) = true) (hl : keys.length = values.length) (h0 : keys ≠ [])
    (h15 : keys.length ≤ 15) : PE X (.Dict keys values pos) (tDisp trs) := by
  intro pins s σ H Q I q
  have hn := I.hok.fresh (Nat.le_refl s.heap.objs.size)
  have I1 := I.laid (a := s.heap.objs.size) (o := .dK []) (h' := s.heap.push { cls := .type "dict", data := .dict #[] }) (t' := s.toks) (fun _ _ q => Heap.get?_push_of_some _ q) (Nat.le_refl _) (dk_empty s.heap I.big)
  refine wpAny_Dict_walk (knd := mixKind X.prog X.w) hall hl h0 h15 (thn (h pins _ σ _ _ I1 (q _ hn)) fun ws s2 ⟨ps, H2, I2, rel, e, kvs, ep, lk, q2⟩ => ?_)
  subst ep
  obtain ⟨rs, c, rk⟩ := carries_of (P := X.prog) (w := X.w) rel
  obtain ⟨z, hd, vs0, r0, dd⟩ := dk_of I2.hok e
  cases r0
  refine ⟨rs, c, dd, fun h' dd' hs => ⟨.ref s.heap.objs.size, _, ?_, rfl, q2⟩⟩
  have hz : (mergeK [] kvs).length ≤ sizeLine := by
    have h1 := length_mergeK kvs []
    rw [List.length_nil] at h1
    rw [sizeLine_eq]; omega
  have he : ∃ q, h'.get? s.heap.objs.size = some q := let ⟨q, _, _, hq, _⟩ := dd'; ⟨q, hq⟩
  exact d_write I2 (by rw [e]; exact True.intro) hs he (dk_new hz hd (rk.merge .nil) dd')


/-! ### methods -/
/-- a method call o.m(e) of a built-in, with one argument: what must be seen of the text -/
structure M1 (X : Cx) (o : Expr) (m : Str) (apos : Pos) (e : Expr) (cpos : Pos) : Prop where
  base : attributeBase o m X.env (eval o X.env) = eval o X.env
  few : ((backTo cpos (starEach [e] X.env)).all (fun x => !x.1) && (backToKw cpos (keywordEach [] X.env)).all (fun x => x.1.isSome)
    && decide (([e] : List Expr).length + ([] : List Keyword).length + (if ([] : List Keyword).isEmpty then 0 else 1) < 30)) = true
  line : (apos.endLine == cpos.line) = true
  trees : backTo cpos (starEach [e] X.env) = [(false, eval e X.env)]
structure M2 (X : Cx) (o : Expr) (m : Str) (apos : Pos) (e f : Expr) (cpos : Pos) : Prop where
  base : attributeBase o m X.env (eval o X.env) = eval o X.env
  few : ((backTo cpos (starEach [e, f] X.env)).all (fun x => !x.1) && (backToKw cpos (keywordEach [] X.env)).all (fun x => x.1.isSome)
    && decide (([e, f] : List Expr).length + ([] : List Keyword).length + (if ([] : List Keyword).isEmpty then 0 else 1) < 30)) = true
  line : (apos.endLine == cpos.line) = true
  trees : backTo cpos (starEach [e, f] X.env) = [(false, eval e X.env), (false, eval f X.env)]

/-- a is a dict, whatever its keys -/
def IsD (H : Hp) (a : Addr) : Prop := (∃ kvs, Rd H a (.dK kvs)) ∨ ∃ kvs, Rd H a (.dT kvs)
section
variable {X : Cx} {pins : List (Addr × Obj)} {σ : St} {H : Hp} {s : Shared} {a : Addr} {y d : V} {u r : Value} {o : Option V} {A : Around} {E : Value → Shared → Prop}
end

def tDGet1 (td ty : TE) : TE := fun σ H Q => td σ H fun x H1 => ∃ a, x = .ref a ∧ IsD H1 a ∧ ty σ H1 fun y H2 => ∃ o, DGet H2 a y o ∧ Q (o.getD .non) H2
def tDGet2 (td ty tx : TE) : TE := fun σ H Q => td σ H fun x H1 => ∃ a, x = .ref a ∧ IsD H1 a ∧ ty σ H1 fun y H2 => tx σ H2 fun z H3 => ∃ o, DGet H3 a y o ∧ Q (o.getD z) H3
/-- d.pop(k): there; d.pop(k, x): there or not -/
def tDPop1 (td ty : TE) : TE := fun σ H Q => td σ H fun x H1 => ∃ a, x = .ref a ∧ IsD H1 a ∧ ty σ H1 fun y H2 => ∃ kvs k v, H2 a = some (.dK kvs) ∧ y = kV k ∧ valV kvs k = some v ∧ Q v (upd H2 a (.dK (dropK kvs k)))
def tDPop2 (td ty tx : TE) : TE := fun σ H Q => td σ H fun x H1 => ∃ a, x = .ref a ∧ IsD H1 a ∧ ty σ H1 fun y H2 => tx σ H2 fun z H3 => ∃ kvs k, H3 a = some (.dK kvs) ∧ y = kV k ∧
  (∀ v, valV kvs k = some v → Q v (upd H3 a (.dK (dropK kvs k)))) ∧ (valV kvs k = none → Q z H3)
section
variable {X : Cx} {o e f : Expr} {apos cpos : Pos} {td ty tx : TE}
end

/-! ### dict(d): a copy -/
section
variable {X : Cx} {pins : List (Addr × Obj)} {σ : St} {H : Hp} {s : Shared} {a : Addr} {kvs : List (Key × V)} {A : Around} {E : Value → Shared → Prop}
theorem d_copyOf {Q : Value → Shared → Prop} (I : Inv X pins σ H s) (e : Rd H a (.dK kvs)) (h : ∀ p s', H p = none → Inv X pins σ (upd H p (.dK kvs)) s' → Q (.ref p) s') : wpAny (model X.prog X.w) A (call (.type "dict") [.ref a]) Q E s := by
  obtain ⟨z, hd, vs, rel, dd⟩ := dk_rd I.hok e
  refine kt_call_dict hd dd (by rw [← rel.length]; exact z) fun h' dd' hs => ?_
  refine h _ _ (I.hok.fresh (Nat.le_refl _)) (I.laid (a := s.heap.objs.size) (o := .dK kvs) (t' := s.toks) (fun b q hq => ?_) (Nat.le_refl _) (dk_new z (beq_eq_false_iff_ne.mpr (Ne.symm (Nat.ne_of_lt I.big))) rel dd'))
  exact (hs.2 b (Nat.ne_of_lt (Heap.lt_size hq))).trans (Heap.get?_push_of_some _ hq)
end


section
variable {X : Cx} {pins : List (Addr × Obj)} {σ : St} {H : Hp} {s : Shared} {a : Addr} {y : V} {u : Value} {A : Around} {E : Value → Shared → Prop}
end
end L2

namespace L2
open PySem PySem.Spec PyProof.Rows
section
variable {X : Cx}
end
/-! ### a dict's pairs: keys that differ -/
section
variable {κ : Type} [DecidableEq κ]
theorem nd_snoc : ∀ {l : List κ} {k : κ}, l.Nodup → ¬ k ∈ l → (l ++ [k]).Nodup
  | [], k, _, _ => by simp
  | a :: r, k, h, hk => by
    obtain ⟨h1, h2⟩ := List.nodup_cons.mp h
    show (a :: (r ++ [k])).Nodup
    refine List.nodup_cons.mpr ⟨fun m => ?_, nd_snoc h2 fun m => hk (List.mem_cons.mpr (Or.inr m))⟩
    rcases List.mem_append.mp m with q | q
    · exact h1 q
    · exact hk (List.mem_cons.mpr (Or.inl (List.mem_singleton.mp q).symm))
end
end L2

namespace Blk
open PySem
/-- parts joined by a blank -/
def J : List (List Nat) → List Nat
  | [] => []
  | [x] => x
  | x :: y :: r => x ++ 32 :: J (y :: r)
/-- cut at blanks -/
def C : List Nat → List (List Nat)
  | [] => [[]]
  | c :: r => if c = 32 then [] :: C r else match C r with
    | [] => [[c]]
    | p :: ps => (c :: p) :: ps
theorem C_free : ∀ (x : List Nat), 32 ∉ x → C x = [x]
  | [], _ => rfl
  | c :: r, h => by
    have h1 : ¬ c = 32 := fun e => h (by rw [e]; exact List.mem_cons_self)
    have ih := C_free r fun m => h (List.mem_cons_of_mem _ m)
    show (if c = 32 then _ else _) = _
    rw [if_neg h1, ih]
theorem C_app : ∀ (x r : List Nat), 32 ∉ x → C (x ++ 32 :: r) = x :: C r
  | [], r, _ => by
    show (if 32 = 32 then _ else _) = _
    rw [if_pos rfl]
  | c :: x, r, h => by
    have h1 : ¬ c = 32 := fun e => h (by rw [e]; exact List.mem_cons_self)
    have ih := C_app x r fun m => h (List.mem_cons_of_mem _ m)
    show (if c = 32 then _ else match C (x ++ 32 :: r) with | [] => [[c]] | p :: ps => (c :: p) :: ps) = _
    rw [if_neg h1, ih]
theorem C_J : ∀ (ps : List (List Nat)), ps ≠ [] → (∀ p ∈ ps, 32 ∉ p) → C (J ps) = ps
  | [], h, _ => absurd rfl h
  | [x], _, h => C_free x (h x List.mem_cons_self)
  | x :: y :: r, _, h => by
    show C (x ++ 32 :: J (y :: r)) = _
    rw [C_app x _ (h x List.mem_cons_self), C_J (y :: r) (by intro e; cases e) fun p hp => h p (List.mem_cons_of_mem _ hp)]
theorem J_snoc : ∀ (ws : List (List Nat)) (w : List Nat), J (ws ++ [w]) = (ws.map (· ++ [32])).flatten ++ w
  | [], w => rfl
  | [x], w => by
    show x ++ 32 :: w = _
    simp
  | x :: y :: r, w => by
    have ih := J_snoc (y :: r) w
    show x ++ 32 :: J (y :: r ++ [w]) = _
    rw [ih]
    simp
/-- texts by their signs -/
def sg (x : Str) : List Nat := x.cps.toList
theorem sg_inj {x y : Str} (h : sg x = sg y) : x = y := by
  obtain ⟨a⟩ := x
  obtain ⟨b⟩ := y
  have e : a.toList = b.toList := h
  rw [Array.toList_inj.mp e]
theorem sg_app (x y : Str) : sg (x ++ y) = sg x ++ sg y := Array.toList_append ..
theorem map_sg_inj : ∀ {a b : List Str}, a.map sg = b.map sg → a = b
  | [], [], _ => rfl
  | [], _ :: _, h => by cases h
  | _ :: _, [], h => by cases h
  | x :: a, y :: b, h => by
    have e := List.cons.inj h
    rw [sg_inj e.1, map_sg_inj e.2]
theorem J_join : ∀ ps : List Str, ps ≠ [] → sg (Str.join ⟨#[32]⟩ ps) = J (ps.map sg)
  | [], h => absurd rfl h
  | [x], _ => rfl
  | x :: y :: r, _ => by
    have ih := J_join (y :: r) (by intro e; cases e)
    show sg (x ++ ⟨#[32]⟩ ++ Str.join ⟨#[32]⟩ (y :: r)) = sg x ++ 32 :: J ((y :: r).map sg)
    rw [sg_app, sg_app, ih]
    show sg x ++ [32] ++ _ = _
    rw [List.append_assoc] <;> rfl
/-- two ways to part one text at its blanks are one -/
theorem part_unique {z : Str} {a b : List Str} (ha : a ≠ []) (hb : b ≠ []) (fa : ∀ p ∈ a, 32 ∉ sg p) (fb : ∀ p ∈ b, 32 ∉ sg p) (ja : J (a.map sg) = sg z) (jb : J (b.map sg) = sg z) : a = b := by
  have h1 := C_J (a.map sg) (by simpa using ha) (by intro p hp; obtain ⟨q, hq, rfl⟩ := List.mem_map.mp hp; exact fa q hq)
  have h2 := C_J (b.map sg) (by simpa using hb) (by intro p hp; obtain ⟨q, hq, rfl⟩ := List.mem_map.mp hp; exact fb q hq)
  rw [ja] at h1
  rw [jb] at h2
  exact map_sg_inj (h1.symm.trans h2)
/-- what holds between two turns of the parting loop: the parts that are done, the one under way -/
structure Parts (pre : List Nat) (ws : List Str) (w : Str) : Prop where
  free : ∀ p ∈ ws ++ [w], 32 ∉ sg p
  join : ((ws.map sg).map (· ++ [32])).flatten ++ sg w = pre
  many : ws.length ≤ pre.length
  len : w.length ≤ pre.length
theorem Parts.start : Parts [] [] ⟨#[]⟩ := by
  refine ⟨?_, rfl, Nat.le_refl _, Nat.le_refl _⟩
  intro p hp
  rw [List.mem_singleton.mp hp]
  intro h
  cases h
theorem Parts.blank {pre : List Nat} {ws : List Str} {w : Str} (P : Parts pre ws w) : Parts (pre ++ [32]) (ws ++ [w]) ⟨#[]⟩ := by
  refine ⟨?_, ?_, ?_, Nat.zero_le _⟩
  · intro p hp
    rcases List.mem_append.mp hp with h | h
    · exact P.free p h
    · rw [List.mem_singleton.mp h]
      intro h
      cases h
  · rw [← P.join]
    simp [sg]
  · have := P.many
    simp only [List.length_append, List.length_singleton]
    omega
theorem Parts.sign {pre : List Nat} {ws : List Str} {w : Str} {c : Nat} (P : Parts pre ws w) (h : c ≠ 32) : Parts (pre ++ [c]) ws (w ++ ⟨#[c]⟩) := by
  have e : sg (w ++ ⟨#[c]⟩) = sg w ++ [c] := sg_app ..
  refine ⟨?_, ?_, ?_, ?_⟩
  · intro p hp
    rcases List.mem_append.mp hp with q | q
    · exact P.free p (List.mem_append_left _ q)
    · rw [List.mem_singleton.mp q, e]
      intro m
      rcases List.mem_append.mp m with m | m
      · exact P.free w (List.mem_append_right _ (List.mem_singleton.mpr rfl)) m
      · exact h (List.mem_singleton.mp m).symm
  · rw [← P.join, e, List.append_assoc]
  · have := P.many
    simp only [List.length_append, List.length_singleton]
    omega
  · have := P.len
    have e2 := congrArg List.length e
    simp only [List.length_append, List.length_singleton] at e2 ⊢
    have e3 : (sg (w ++ ⟨#[c]⟩)).length = (w ++ ⟨#[c]⟩ : Str).length := by simp [sg, Str.length]
    have e4 : (sg w).length = w.length := by simp [sg, Str.length]
    omega
theorem Parts.done {z : Str} {ws : List Str} {w : Str} (P : Parts (sg z) ws w) {b : List Str} (hb : b ≠ []) (fb : ∀ p ∈ b, 32 ∉ sg p) (jb : Str.join ⟨#[32]⟩ b = z) : ws ++ [w] = b := by
  refine part_unique (z := z) (by simp) hb P.free fb ?_ ?_
  · rw [List.map_append, List.map_singleton, J_snoc]
    exact P.join
  · rw [← J_join b hb, jb]
end Blk

namespace L2
open PySem PySem.Spec PyProof.Rows
theorem small {n : Nat} (h : n ≤ 1000) : n ≤ sizeLine := Nat.le_of_lt (small1000 h)
theorem len_app (x y : Str) : (x ++ y).length = x.length + y.length := by
  show (x.cps ++ y.cps).size = x.cps.size + y.cps.size
  exact Array.size_append
theorem len_toList (z : Str) : z.cps.toList.length = z.length := by simp [Str.length]
theorem at_in {α : Type} {xs : List α} {i : Int} (h0 : 0 ≤ i) (h1 : i < (xs.length : Int)) : ∃ v, xs[i.toNat]? = some v ∧ atI xs i = some v := by
  have hk : i.toNat < xs.length := by omega
  have q : atI xs ((i.toNat : Nat) : Int) = some xs[i.toNat] := atI_nat (List.getElem?_eq_getElem hk)
  have e : ((i.toNat : Nat) : Int) = i := by omega
  rw [e] at q
  exact ⟨_, List.getElem?_eq_getElem hk, q⟩
theorem bt_list : bootBuiltins "list" = some (.type "list") := by decide +kernel
theorem bt_int : bootBuiltins "int" = some (.type "int") := by decide +kernel
theorem bt_isi : bootBuiltins "isinstance" = some (.builtin "isinstance") := by decide +kernel
theorem bt_tuple : bootBuiltins "tuple" = some (.type "tuple") := by decide +kernel
theorem rel_ty (n : String) : RelV (.ty n) (.type n) := rfl
theorem rel_str (x : Str) (t : Tok) : RelV (.str x) (.str x t) := ⟨t, rfl⟩
/-! ### a text walked sign by sign -/
def Itx (z : Str) : It := ⟨fun i _ => i < z.cps.size, fun i H x H' => H' = H ∧ ∃ c, z.cps[i]? = some c ∧ x = .str ⟨#[c]⟩, fun i _ => i = z.cps.size⟩
section
variable {X : Cx} {tg : Expr}
def iStr (tl : TE) : TI := fun σ H R => tl σ H fun x H1 => ∃ z, x = .str z ∧ R (Itx z) H1
end
section
variable {X : Cx}
/-! ### a sign of a text, at a place that lies in it -/
def rIxSA : R2 := fun x y H Q => ∃ z i, x = .str z ∧ y = .int i ∧ z.length ≤ sizeLine ∧ 0 ≤ i ∧ i < ((z.length : Nat) : Int) ∧ ∀ c, z.cps.toList[i.toNat]? = some c → Q (.str ⟨#[c]⟩) H
theorem ix_strA : IxR X rIxSA := by
  intro value slice pins s σ H x y v u Q I rx ry h hs
  obtain ⟨z, i, rfl, rfl, hz, h0, h1, q⟩ := h
  obtain ⟨c, e1, e2⟩ := at_in (xs := z.cps.toList) h0 (by rw [len_toList]; exact h1)
  exact ix_str value slice pins s σ H _ _ v u Q I rx ry ⟨z, i, c, rfl, rfl, hz, e2, q c e1⟩ hs
/-! ### isinstance(x, a built-in class) -/
def rIsi (K : PySem.W.Frag) : List V → Hp → VK → Prop := fun xs H Q => ∃ x n t b, xs = [x, .ty n] ∧ TyOf K H x t ∧ PySem.W.kitOne K t (.type n) = some b ∧ Q (.bl b) H
theorem call_isi : CallR X (.builtin "isinstance") (rIsi X.K) := by
  intro pins s σ H xs us Q I r h
  obtain ⟨x, n, t, b, rfl, ty, e, q⟩ := h
  obtain ⟨u, w', rfl, r1, r2⟩ := vals2 r
  cases (show w' = Value.type n from r2)
  exact isinst_ok I r1 ty e fun tk => ⟨.bl b, H, I.tok tk, rfl, q⟩
theorem kit_same {K : PySem.W.Frag} (n : String) : PySem.W.kitOne K (.type n) (.type n) = some true := by
  unfold PySem.W.kitOne
  rw [if_pos (beq_self_eq_true _)]
/-! ### lists of flat things: == and != -/
def eqVs (xs ys : List V) : Bool := xs.length == ys.length && (List.range xs.length).all fun j => eqV (xs.getD j .non) (ys.getD j .non)
theorem flat_at {xs : List V} (f : xs.all flatV = true) (j : Nat) : flatV (xs.getD j .non) = true := by
  by_cases h : j < xs.length
  · rw [List.getD_eq_getElem?_getD, List.getElem?_eq_getElem h]
    exact (List.all_eq_true.mp f) _ (List.getElem_mem h)
  · rw [List.getD_eq_getElem?_getD, List.getElem?_eq_none (by omega)]
    rfl
theorem vals_at {xs : List V} {us : List Value} (r : Vals xs us) (j : Nat) (h : j < us.toArray.size) : RelV (xs.getD j .non) (us.toArray[j]) := by
  have hl := r.length
  have h' : j < us.length := by simpa using h
  have h2 : j < xs.length := by omega
  obtain ⟨u, e1, e2⟩ := r.get (List.getElem?_eq_getElem h2)
  rw [List.getD_eq_getElem?_getD, List.getElem?_eq_getElem h2]
  have e3 : us.toArray[j] = u := by
    rw [List.getElem?_eq_getElem h'] at e1
    simpa using Option.some.inj e1
  rw [e3]
  exact e2
def rEqL (K : PySem.W.Frag) (neg : Bool) : R2 := fun x y H Q => ∃ p q xs ys, x = .ref p ∧ y = .ref q ∧ SqL K H p xs ∧ SqL K H q ys ∧ xs.all flatV = true ∧ ys.all flatV = true ∧ Q (.bl (if neg then !eqVs xs ys else eqVs xs ys)) H
theorem op_ne_list (hu : X.A.units < cLine) : OpR X (compareOp .NotEq) (rEqL X.K true) := by
  intro pins s σ H x y v u Q I rx ry h
  obtain ⟨p, q, xs, ys, rfl, rfl, hp, hq, fx, fy, k⟩ := h
  cases rx
  cases ry
  obtain ⟨its, r1, l1, z1⟩ := I.list hp
  obtain ⟨jts, r2, l2, z2⟩ := I.list hq
  have e1 := r1.length
  have e2 := r2.length
  have fin : ∀ b, b = eqVs xs ys → EP X pins σ Q (.bool (!b)) s := fun b e => ⟨.bl (!b), H, I, rfl, by rw [e]; exact k⟩
  by_cases hs : xs.length = ys.length
  · refine SeqAt.RcNeAt.lists (e := fun j => eqV (xs.getD j .non) (ys.getD j .non)) l1.isList l2.isList (by simp; omega) hu (fun j h1 h2 => ?_) X.prog X.w _ _ (fin _ ?_)
    · exact eqAt_V (vals_at r1 j h1) (vals_at r2 j h2) (flat_at fx j) (flat_at fy j)
    · unfold eqVs
      rw [List.size_toArray, ← e1, hs, beq_self_eq_true, Bool.true_and]
  · refine SeqAt.RcNeAt.lists_lengths l1.isList l2.isList (by simp [bne_iff_ne]; omega) hu X.prog X.w _ _ (fin false ?_)
    unfold eqVs
    rw [beq_eq_false_iff_ne.mpr hs, Bool.false_and]
theorem op_eq_list (hu : X.A.units < cLine) : OpR X (compareOp .Eq) (rEqL X.K false) := by
  intro pins s σ H x y v u Q I rx ry h
  obtain ⟨p, q, xs, ys, rfl, rfl, hp, hq, fx, fy, k⟩ := h
  cases rx
  cases ry
  obtain ⟨its, r1, l1, z1⟩ := I.list hp
  obtain ⟨jts, r2, l2, z2⟩ := I.list hq
  have e1 := r1.length
  have e2 := r2.length
  have fin : ∀ b, b = eqVs xs ys → EP X pins σ Q (.bool b) s := fun b e => ⟨.bl b, H, I, rfl, by rw [e]; exact k⟩
  by_cases hs : xs.length = ys.length
  · refine SeqAt.RcAt.lists (e := fun j => eqV (xs.getD j .non) (ys.getD j .non)) l1.isList l2.isList (by simp; omega) hu (fun j h1 h2 => ?_) X.prog X.w _ _ (fin _ ?_)
    · exact eqAt_V (vals_at r1 j h1) (vals_at r2 j h2) (flat_at fx j) (flat_at fy j)
    · unfold eqVs
      rw [List.size_toArray, ← e1, hs, beq_self_eq_true, Bool.true_and]
  · refine SeqAt.RcAt.lists_lengths l1.isList l2.isList (by simp [bne_iff_ne]; omega) hu X.prog X.w _ _ (fin false ?_)
    unfold eqVs
    rw [beq_eq_false_iff_ne.mpr hs, Bool.false_and]
theorem eqV_refl {x : V} (f : flatV x = true) : eqV x x = true := by
  cases x with
  | non => rfl
  | bl b => exact beq_self_eq_true b
  | int i => exact beq_self_eq_true i
  | str z => exact beq_self_eq_true z
  | _ => exact absurd (show false = true from f) Bool.false_ne_true
theorem eqVs_refl {xs : List V} (f : xs.all flatV = true) : eqVs xs xs = true := by
  unfold eqVs
  rw [beq_self_eq_true, Bool.true_and]
  exact List.all_eq_true.mpr fun j _ => eqV_refl (flat_at f j)
/-! ### x.split(y) -/
def rSplit : V → List V → Hp → VK → Prop := fun x vs H Q => ∃ z y, x = .str z ∧ vs = [.str y] ∧ (y.length == 0) = false ∧ z.length + 2 ≤ sizeLine ∧ ∀ p, H p = none → Q (.ref p) (upd H p (.lst ((Txt.split z y).map V.str)))
end
/-! ### heaps -/
theorem same_new {H : Hp} {p : Addr} (h : H p = none) (o : HO) : Same H (upd H p o) := fun b u q => by rw [upd_ne (ne_of_none q h)]; exact q
theorem same_on {H H' : Hp} {p : Addr} (h : H p = none) (e : Same H H') (o : HO) : Same H (upd H' p o) := fun b u q => by rw [upd_ne (ne_of_none q h)]; exact e b u q
end L2

namespace L2
open PySem PySem.Spec PyProof.Rows
/-! ### the cells that a comprehension's block takes along -/
def closOf (cells : List (Str × Addr)) : List (Str × NameKind) → List (Str × Addr) → List (Str × Addr)
  | [], acc => acc
  | (n, k) :: r, acc => closOf cells r (if (k == .free) = true then (n, (cells.lookup n).getD 0) :: acc else acc)
theorem closureFor_of {scope : Scope} {env : Env} (h : ∀ p ∈ scope.names, p.2 = .free → (env.cells.lookup p.1).isSome = true) : closureFor scope env = pure (closOf env.cells scope.names []) := by
  obtain ⟨kd, names, g1, g2, more⟩ := scope
  simp only [closureFor]
  dsimp only at h ⊢
  generalize ([] : List (Str × Addr)) = acc
  induction names generalizing acc with
  | nil => rfl
  | cons p r ih =>
    obtain ⟨n, k⟩ := p
    have hr : ∀ p ∈ r, p.2 = .free → (env.cells.lookup p.1).isSome = true := fun p hp => h p (List.mem_cons_of_mem _ hp)
    have ih' := ih hr
    simp only [closOf]
    by_cases hk : k = .free
    · subst hk
      obtain ⟨c, hc⟩ := Option.isSome_iff_exists.mp (h (n, .free) List.mem_cons_self rfl)
      have hc' : List.lookup n env.cells = some c := hc
      rw [show (NameKind.free == NameKind.free) = true from rfl, if_pos rfl, hc']
      have e : cellOf env n = pure c := by unfold cellOf; rw [hc']
      have q := ih' ((n, c) :: acc)
      simp only [List.forIn_cons, beq_self_eq_true, if_true, e, pure_bind, Option.getD_some]
      exact q
    · have hb : (k == NameKind.free) = false := by simpa using hk
      have q := ih' acc
      simp only [List.forIn_cons, hb, Bool.false_eq_true, if_false, pure_bind]
      exact q
theorem closOf_in {cells : List (Str × Addr)} {y : Str} {c : Addr} : ∀ (names : List (Str × NameKind)) (acc : List (Str × Addr)), (∀ p ∈ names, p.2 = .free → (cells.lookup p.1).isSome = true) →
    (∀ y c, acc.lookup y = some c → cells.lookup y = some c) → (closOf cells names acc).lookup y = some c → cells.lookup y = some c
  | [], _, _, ha, h => ha _ _ h
  | (n, k) :: r, acc, hn, ha, h => by
    refine closOf_in r _ (fun p hp => hn p (List.mem_cons_of_mem _ hp)) (fun y c hy => ?_) h
    by_cases hk : (k == NameKind.free) = true
    · rw [if_pos hk] at hy
      rw [List.lookup_cons] at hy
      by_cases e : (y == n) = true
      · rw [e] at hy
        obtain ⟨d, hd⟩ := Option.isSome_iff_exists.mp (hn (n, k) List.mem_cons_self (by simpa using hk))
        have hd' : cells.lookup n = some d := hd
        have hy' : (cells.lookup n).getD 0 = c := Option.some.inj hy
        rw [hd'] at hy'
        rw [eq_of_beq e, hd']
        exact congrArg some hy'
      · rw [Bool.eq_false_iff.mpr e] at hy
        exact ha y c hy
    · rw [if_neg hk] at hy
      exact ha y c hy
theorem closOf_has {cells : List (Str × Addr)} {y : Str} : ∀ (names : List (Str × NameKind)) (acc : List (Str × Addr)), ((acc.lookup y).isSome = true ∨ (y, NameKind.free) ∈ names) → ((closOf cells names acc).lookup y).isSome = true
  | [], acc, h => h.elim id (fun z => by cases z)
  | (n, k) :: r, acc, h => by
    refine closOf_has r _ ?_
    rcases h with h | h
    · refine .inl ?_
      by_cases hk : (k == NameKind.free) = true
      · rw [if_pos hk, List.lookup_cons]
        by_cases e : (y == n) = true
        · rw [e]; rfl
        · rw [Bool.eq_false_iff.mpr e]; exact h
      · rw [if_neg hk]; exact h
    · rcases List.mem_cons.mp h with e | h
      · cases e
        refine .inl ?_
        rw [if_pos (show (NameKind.free == NameKind.free) = true from rfl), List.lookup_cons, beq_self_eq_true]
        rfl
      · exact .inr h
/-- the context of a comprehension's block -/
def compCx (X : Cx) (scope : Scope) (N' : List Str) (C : Addr) (ex : List Addr) (s₂ : Shared) (H₂ : Hp) : Cx where
  prog := X.prog
  w := X.w
  K := X.K
  mg := X.mg
  base := X.base
  A := X.A
  N := N'
  s₀ := s₂
  H₀ := H₂
  env := compEnvC scope (closOf X.env.cells scope.names []) C X.env
  outer := X.stack
  stack := X.stack
  ex := ex
  fn := fun _ => false
  calm := X.calm
  pn := []
  xe := fun _ _ => False
def FreesOk (X : Cx) (scope : Scope) : List (Str × Nat) → Prop
  | [] => True
  | p :: r => (X.N[p.2]? = some p.1 ∧ X.env.kindOf p.1 = some .cell ∧ (relabel scope X.env).names.lookup p.1 = some .cell ∧ (p.1, NameKind.free) ∈ scope.names) ∧ FreesOk X scope r
theorem FreesOk.at {X : Cx} {scope : Scope} : ∀ {fr : List (Str × Nat)}, FreesOk X scope fr → ∀ p ∈ fr, X.N[p.2]? = some p.1 ∧ X.env.kindOf p.1 = some .cell ∧ (relabel scope X.env).names.lookup p.1 = some .cell ∧ (p.1, NameKind.free) ∈ scope.names
  | [], _, p, hp => by cases hp
  | _ :: _, h, p, hp => by
    rcases List.mem_cons.mp hp with e | hp
    · rw [e]; exact h.1
    · exact FreesOk.at h.2 p hp
/-- the block's names: the loop's own, then those of the def around it -/
def inSt (frees : List (Str × Nat)) (σ : St) (x : Option V) : St := x :: frees.map fun p => (σ[p.2]?).join
/-- the tests of a clause -/
def PIfs (X : Cx) (ifs : List Expr) (t : TT) : Prop :=
  ∀ (pins : List (Addr × Obj)) (s : Shared) (σ : St) (H : Hp) (Q : Bool → Hp → Prop), Inv X pins σ H s → t σ H Q →
    wpAny (model X.prog X.w) X.A (forIn ifs true fun c r => if r = true then do let ok ← isTrue c X.env (eval c X.env); pure (ForInStep.yield ok) else pure (ForInStep.yield r)) (TP X pins σ Q) X.xe s
theorem pifs_nil {X : Cx} : PIfs X [] (fun _ H Q => Q true H) := fun _ _ _ H _ I h => wpAny_tests_nil ⟨H, I, h⟩
theorem pifs_one {X : Cx} {c : Expr} {t : TT} (h : PT X c t) : PIfs X [c] t := fun pins s σ H Q I hw => wpAny_tests_one (h pins s σ H Q I hw)
/-- what the block wants: W, by the turn, a measure, the items so far, the heap -/
def CompB (J : It) (tc : TT) (te : TE) (σf : Option V → St) (H1 : Hp) (Q : VK) : Prop := ∀ D, H1 D = none →
  ∃ W : Nat → Nat → List V → Hp → Prop, (∃ m, W 0 m [] (upd H1 D (.lst []))) ∧ ∀ i m ys H2, W i m ys H2 → H2 D = some (.lst ys) ∧
    ((J.stop i H2 ∧ Q (.ref D) H2) ∨ (J.go i H2 ∧ ys.length < sizeLine ∧ ∀ x H3, J.yld i H2 x H3 → tc (σf (some x)) H3 fun b H4 =>
      if b = true then te (σf (some x)) H4 fun y H5 => H5 D = some (.lst ys) ∧ ∃ m', m' < m ∧ W (i + 1) m' (ys ++ [y]) (upd H5 D (.lst (ys ++ [y]))) else ∃ m', m' < m ∧ W (i + 1) m' ys H4))
section
variable {prog : Program} {w : World} {A : Around} {R : Result → Shared → Prop} {s : Shared}
theorem comp_loop {elt target iter : Expr} {ifs : List Expr} {scope : Scope} {pos : Pos} {it acc : Value} {env : Env} (I : Nat → Shared → Prop)
    (turn : ∀ n s, I n s → wpAny (model prog w) A (pyNext it) (fun r s₁ => match r with
      | none => R (.ok .next) s₁
      | some v => wpAny (model prog w) A (letOwnedTupleGo target it v) (fun _ s₁' => wpAny (model prog w) A (assign target env v) (fun _ s₂ =>
          wpAny (model prog w) A (forIn ifs true fun c r => if r = true then do let ok ← isTrue c env (eval c env); pure (ForInStep.yield ok) else pure (ForInStep.yield r)) (fun ok s₃ =>
            if ok = true then wpAny (model prog w) A (eval elt env) (fun x s₄ =>
              wpAny (model prog w) A (call (.builtin "list.append") [acc, x]) (fun _ s₅ => ∃ m, m < n ∧ I m s₅) (fun _ _ => False) s₄) (fun _ _ => False) s₃
            else ∃ m, m < n ∧ I m s₃) (fun _ _ => False) s₂) (fun _ _ => False) s₁') (fun _ _ => False) s₁) (fun _ _ => False) s)
    (n : Nat) (h : I n s) :
    codeAny (model prog w) A (.compLoop (.ListComp elt [⟨target, iter, ifs, 0⟩] scope pos) 0 it acc env) R s := by
  have no : ∀ {α : Type} {t : Sem α} {Q : α → Shared → Prop} {E : Value → Shared → Prop} {s : Shared}, wpAny (model prog w) A t Q (fun _ _ => False) s → wpAny (model prog w) A t Q E s := fun h => wpAny_mono h (fun _ _ q => q) fun _ _ f => f.elim
  refine codeAny_loop rfl I (fun n s hI => ?_) n h
  show wpAny _ A ((compTurn (.ListComp elt [⟨target, iter, ifs, 0⟩] scope pos) 0 it acc env).onRaise (fun x => do noteFrame x env; theTreesLotGoes x)) _ _ s
  refine wpAny_noted ?_
  rw [compTurn_list]
  refine wpAny_bind (wpAny_standAt (wpAny_bind (wpAny_mono (turn n s hI) (fun r s₁ h₁ => ?_) fun _ _ h' => h'.elim)))
  cases r with
  | none => exact wpAny_pure h₁
  | some v =>
    refine wpAny_bind (wpAny_mono h₁ (fun _ s₁' h₁' => ?_) fun _ _ h' => h'.elim)
    refine wpAny_bind (wpAny_mono h₁' (fun _ s₂ h₂ => wpAny_bind (wpAny_mono h₂ (fun ok s₃ h₃ => ?_) fun _ _ h' => h'.elim)) fun _ _ h' => h'.elim)
    cases ok with
    | false => exact wpAny_pure ⟨rfl, h₃⟩
    | true =>
      exact wpAny_bind (wpAny_bind (wpAny_mono h₃ (fun x s₄ h₄ => wpAny_bind (wpAny_mono h₄ (fun _ s₅ h₅ => wpAny_pure (wpAny_pure ⟨rfl, h₅⟩)) fun _ _ h' => h'.elim)) fun _ _ h' => h'.elim))
end
section
variable {X : Cx} {elt iter : Expr} {x : Str} {px pos : Pos} {ifs : List Expr} {scope : Scope} {frees : List (Str × Nat)} {tc : TT} {te : TE}
/-- what the text of a comprehension must be -/
structure CompOk (X : Cx) (scope : Scope) (x : Str) (frees : List (Str × Nat)) : Prop where
  cell : ∀ y ∈ scope.names, y.2 ≠ .cell
  kind : scope.kind = .function
  own : scope.names.lookup x = some .local
  names : ∀ y ∈ scope.names, y.2 = .local → scope.names.lookup y.1 = some .local
  fr : FreesOk X scope frees
  nd : (x :: frees.map (·.1)).Nodup
  cl : ∀ p ∈ scope.names, p.2 = .free → (X.env.cells.lookup p.1).isSome = true
  calm : X.calm = true
theorem relabel_free {scope : Scope} {env : Env} {y : Str} (hc : ∀ y ∈ scope.names, y.2 ≠ .cell) (h : (relabel scope env).names.lookup y = some .cell ∨ (relabel scope env).names.lookup y = some .free) : (y, NameKind.free) ∈ scope.names := by
  have key : ∀ k, (relabel scope env).names.lookup y = some k → k ≠ .local → k = .cell ∨ k = .free → (y, NameKind.free) ∈ scope.names := fun k hk _ hkk => by
    have hm := PySem.mem_of_lookup hk
    obtain ⟨⟨n, k0⟩, hm0, e⟩ := List.mem_map.mp hm
    by_cases hcond : (k0 == NameKind.free && env.scope.kind == .function && env.kindOf n == some .cell) = true
    · have e' : (n, NameKind.cell) = (y, k) := by rw [← e]; exact (if_pos hcond).symm
      have hk0 : k0 = .free := by
        rw [Bool.and_eq_true, Bool.and_eq_true] at hcond
        exact eq_of_beq hcond.1.1
      have en : n = y := congrArg Prod.fst e'
      rw [← en, ← hk0]
      exact hm0
    · have e' : (n, k0) = (y, k) := by rw [← e]; exact (if_neg hcond).symm
      have en : n = y := congrArg Prod.fst e'
      have ek : k0 = k := congrArg Prod.snd e'
      rcases hkk with hkk | hkk
      · exact absurd (ek.trans hkk) (hc _ hm0)
      · rw [← en, ← hkk, ← ek]
        exact hm0
  rcases h with h | h
  · exact key _ h (by decide) (.inl rfl)
  · exact key _ h (by decide) (.inr rfl)
theorem comp_core {pins : List (Addr × Obj)} {σ : St} {H1 : Hp} {s₂ : Shared} {it : Addr} {fp : List Addr} {tn : Nat → Heap → Prop} {J : It} {Q : VK} {RR : Value → Addr → Result → Shared → Prop} {E : Value → Shared → Prop}
    (O : CompOk X scope x frees) (hc : ∀ C ex s₂ H₂, PIfs (compCx X scope (x :: frees.map (·.1)) C ex s₂ H₂) ifs tc) (he : ∀ C ex s₂ H₂, PE (compCx X scope (x :: frees.map (·.1)) C ex s₂ H₂) elt te)
    (I : Inv X pins σ H1 s₂) (T : Turn X.prog X.w X.K (.Name x px) J fp it tn) (st : tn 0 s₂.heap) (hf : ∀ b ∈ fp, FpOk X pins H1 b) (hB : CompB J tc te (inSt frees σ) H1 Q)
    (hRR : ∀ D C H' s', Inv X pins σ H' s' → (∃ m, s'.heap.Ns C m) → FpOk X pins H' C → Q (.ref D) H' → RR (.ref D) C (.ok .next) s') :
    wpAny (model X.prog X.w) X.A (newList []) (fun acc s₃ => wpAny (model X.prog X.w) X.A (newFunctionEnv scope X.env.globals (closOf X.env.cells scope.names []) [] X.env.qual none .none (some X.env)) (fun cenv s₄ =>
      codeAny (model X.prog X.w) X.A (.compStart (.ListComp elt [⟨.Name x px, iter, ifs, 0⟩] scope pos) 0 (.ref it) acc { cenv with scope := relabel scope X.env }) (RR acc cenv.locals) s₄) E s₃) E s₂ := by
  refine wpAny_newObj_type (wpAny_newFunctionEnv O.cell (by intro y hy; simp at hy) (fun h₁ hns₁ hsb₁ => ?_) O.kind)
  dsimp only at hns₁ hsb₁ ⊢
  generalize hH2 : s₂.heap.push { cls := .type "list", dict := none, data := .seq ([] : List Value).toArray } = H2 at hns₁ hsb₁ ⊢
  have hC : H2.objs.size = s₂.heap.objs.size + 1 := by rw [← hH2, Heap.size_push]
  have hDC : s₂.heap.objs.size ≠ H2.objs.size := by rw [hC]; exact Nat.ne_of_lt (Nat.lt_succ_self _)
  have hCle : s₂.heap.objs.size ≤ H2.objs.size := by rw [hC]; exact Nat.le_succ _
  have below : ∀ b, b < s₂.heap.objs.size → b ≠ H2.objs.size ∧ b ≠ s₂.heap.objs.size := fun b hb => ⟨by rw [hC]; exact Nat.ne_of_lt (Nat.lt_succ_of_lt hb), Nat.ne_of_lt hb⟩
  have old : ∀ b o, s₂.heap.get? b = some o → h₁.get? b = some o := fun b o e => hsb₁.extBut b o (below b (Heap.lt_size e)).1 (Heap.get?_push_of_some _ (hH2 ▸ Heap.get?_push_of_some _ e))
  have hacc : h₁.get? s₂.heap.objs.size = some { cls := .type "list", data := .seq ([] : List Value).toArray } := hsb₁.extBut _ _ hDC (Heap.get?_push_of_some _ (hH2 ▸ Heap.get?_push_size _ rfl))
  have nD : H1 s₂.heap.objs.size = none := I.hok.fresh (Nat.le_refl _)
  obtain ⟨W, ⟨m0, w0⟩, hW⟩ := hB s₂.heap.objs.size nD
  -- the block's context and its first state
  let X' : Cx := compCx X scope (x :: frees.map (·.1)) H2.objs.size fp s₂ H1
  have inC : ∀ y c, (closOf X.env.cells scope.names []).lookup y = some c → X.env.cells.lookup y = some c := fun y c h => closOf_in scope.names [] O.cl (fun y c h => by cases h) h
  have fpl : ∀ b ∈ fp, b < s₂.heap.objs.size := fun b hb => by
    obtain ⟨o, e, _⟩ := T.obj _ _ st b hb
    exact Heap.lt_size e
  have ok' : X'.Ok := by
    refine ⟨I.ok.mod, O.kind, I.ok.glob, I.ok.blt, hCle, fun y z c h1 h2 => I.ok.inj y z c (inC y c h1) (inC z c h2), fun y hy => ?_, fun y c h _ => (by cases h), I.ok.hd, I.ok.frames, .inl rfl, fun b hb => ?_, I.bs, Nat.le_trans I.ok.bsz I.sz, fun b o e hb => ?_, fun b hb z => ?_, I.stack, I.stkFree⟩
    · exact Option.isSome_iff_exists.mp (closOf_has scope.names [] (.inr (relabel_free O.cell hy)))
    · exact ⟨(below b (fpl b hb)).1, fun y c h => (hf b hb).2.2.2.2.1 y c (inC y c h)⟩
    · rcases (hf b hb).2.2.2.1 with z | z
      · exact I.ok.noex b o e z
      · exact absurd (Nat.lt_of_lt_of_le (Nat.lt_of_lt_of_le (Heap.lt_size e) I.ok.bsz) z) (Nat.lt_irrefl _)
    · exact (List.mem_cons.mp (I.stkSub b z)).elim (hf b hb).2.1 (hf b hb).2.2.1
  have hok1 : HOk X.prog X.w (upd H1 s₂.heap.objs.size (.lst [])) h₁ := I.hok.laid old (Nat.le_refl _) ⟨Nat.zero_le _, [], 0, .nil, hacc⟩
  have I0 : ∀ tk, Inv X' [] (inSt frees σ none) (upd H1 s₂.heap.objs.size (.lst [])) { s₂ with heap := h₁, toks := tk } := fun tk => by
    refine ⟨ok', rfl, I.bare, Un.laid old (Nat.le_refl _) nD, ⟨_, hns₁, fun i y v h1 h2 h3 => ?_⟩, fun y c h => ?_, ?_, fun y c h => ?_, fun p hp => absurd (show p ∈ ([] : List (Addr × Obj)) from hp) (by simp), hok1, ?_⟩
    · cases i with
      | zero =>
        have h2' : (none : Option V) = some v := Option.some.inj h2
        cases h2'
      | succ j =>
        have h1' : (frees.map (·.1))[j]? = some y := h1
        have h2' : (frees.map fun p => (σ[p.2]?).join)[j]? = some (some v) := h2
        rw [List.getElem?_map] at h1' h2'
        cases e : frees[j]? with
        | none => rw [e] at h1'; cases h1'
        | some p =>
          rw [e] at h1' h2'
          have e1 : p.1 = y := Option.some.inj h1'
          have e2 : (σ[p.2]?).join = some v := Option.some.inj h2'
          obtain ⟨g1, g2, g3, g4⟩ := O.fr.at p (List.mem_of_getElem? e)
          have e3 : σ[p.2]? = some (some v) := by
            cases q : σ[p.2]? with
            | none => rw [q] at e2; cases e2
            | some o => rw [q] at e2; exact congrArg some e2
          obtain ⟨m, hn, hl⟩ := I.loc
          obtain ⟨u, r, l⟩ := hl p.2 p.1 v g1 e3 (.inr (.inl g2))
          refine ⟨u, r, ?_⟩
          rcases l with ⟨k, _⟩ | ⟨_, c, hc1, hc2⟩
          · rw [g2] at k; cases k
          · obtain ⟨c2, hc3⟩ := Option.isSome_iff_exists.mp (closOf_has (cells := X.env.cells) scope.names [] (.inr g4))
            have hc4 := inC _ _ hc3
            rw [hc1] at hc4
            cases hc4
            rw [← e1]
            refine .inr ⟨.inl g3, c, hc3, ?_⟩
            obtain ⟨o, ho, hd⟩ := hc2
            exact ⟨o, old c o ho, hd⟩
    · obtain ⟨v, o, ho, hd⟩ := I.cell y c (inC y c h)
      exact ⟨v, o, old c o ho, hd⟩
    · show upd H1 s₂.heap.objs.size (.lst []) H2.objs.size = none
      rw [upd_ne (Ne.symm hDC)]
      exact I.hok.fresh hCle
    · obtain ⟨v, o, ho, hd⟩ := I.cell y c (inC y c h)
      rw [upd_ne (below c (Heap.lt_size ho)).2]
      exact I.freeC y c (inC y c h)
    · show (inSt frees σ none).length = (x :: frees.map (·.1)).length
      simp [inSt]
  have stat : ∀ {H' : Hp}, (∀ b ∈ fp, H' b = none) → ∀ b ∈ fp, FpOk X' [] H' b := fun hn b hb =>
    ⟨hn b hb, (below b (fpl b hb)).1, fun z => (List.mem_cons.mp (I.stkSub b z)).elim (hf b hb).2.1 (hf b hb).2.2.1, .inl hb, fun y c h => (hf b hb).2.2.2.2.1 y c (inC y c h), fun p hp => absurd (show p ∈ ([] : List (Addr × Obj)) from hp) (by simp)⟩
  have hst₁ : tn 0 h₁ := T.keep _ _ _ st fun b _ o e => old b o e
  have fr0 : ∀ b ∈ fp, (upd H1 s₂.heap.objs.size (.lst [])) b = none := fun b hb => by
    rw [upd_ne (below b (fpl b hb)).2]
    exact (hf b hb).1
  have loop : ∀ tk, codeAny (model X.prog X.w) X.A (.compLoop (.ListComp elt [⟨.Name x px, iter, ifs, 0⟩] scope pos) 0 (.ref it) (.ref s₂.heap.objs.size) X'.env) (RR (.ref s₂.heap.objs.size) H2.objs.size) { s₂ with heap := h₁, toks := tk } := fun tk => by
    refine comp_loop (fun n s' => ∃ i ys o H', Inv X' [] (inSt frees σ o) H' s' ∧ tn i s'.heap ∧ (∀ b ∈ fp, H' b = none) ∧ W i n ys H') ?_ m0 ⟨0, [], none, _, I0 tk, hst₁, fr0, w0⟩
    rintro n s3 ⟨i, ys, o3, H3, I3, st3, fr3, w3⟩
    obtain ⟨hD3, alt⟩ := hW i n ys H3 w3
    rcases alt with ⟨stop, q⟩ | ⟨go, hlt, step⟩
    · refine thn (T.done X' rfl rfl rfl O.calm i [] s3 _ H3 _ I3 (stat fr3) st3 stop) fun r s4 ⟨hr, I4⟩ => ?_
      subst hr
      have J4 : Inv X pins σ H3 s4 := I.call' (ch := fp) I4.os I4.base I4.hok I4.bare fun b hb => ⟨(hf b hb).2.2.2.1, (hf b hb).2.1, (hf b hb).2.2.2.2.1, (hf b hb).2.2.2.2.2⟩
      obtain ⟨m4, hn4, _⟩ := I4.loc
      exact hRR _ _ H3 s4 J4 ⟨m4, hn4⟩ (I.fpOk hCle I4.free) q
    · refine thn (T.item X' rfl rfl rfl O.calm i [] s3 _ H3 _ I3 (stat fr3) st3 go) fun r s4 ⟨u, hr, h4⟩ => ?_
      subst hr
      refine thn h4 fun _ s5 ⟨v, H5, I5, r5, y5, st5, fr5⟩ => ?_
      have I5' := I5.pinned (stat fr5) (T.obj _ _ st5)
      have tail : ∀ {σ7 : St} {H7 : Hp} {s7 : Shared}, Inv X' ([] ++ pinsAt fp s5.heap) σ7 H7 s7 → Inv X' [] σ7 H7 s7 ∧ tn (i + 1) s7.heap ∧ ∀ b ∈ fp, H7 b = none := fun {σ7 H7 s7} I7 => by
        refine ⟨I7.unpinned, T.keep _ _ _ st5 fun b hb o e => (I7.pin (b, o) (List.mem_append_right _ (List.mem_append_right _ (mem_pinsAt hb e)))).1, fun b hb => ?_⟩
        obtain ⟨o, e, d⟩ := T.obj _ _ st5 b hb
        exact (I7.pin (b, o) (List.mem_append_right _ (List.mem_append_right _ (mem_pinsAt hb e)))).2.1
      have hg : PG X' (.Name x px) (gName 0) := pg_name O.nd rfl (Or.inl (lookup_relabel_local O.own)) (.inr (lookup_relabel_local O.own))
      refine thn (hg _ s5 _ H5 v u (fun σ6 H6 => σ6 = inSt frees σ (some v) ∧ H6 = H5) I5' r5 ⟨rfl, rfl⟩) fun _ s6 ⟨σ6, H6, I6, e6, e6'⟩ => ?_
      subst e6 e6'
      refine thn (hc _ _ _ _ _ s6 _ _ _ I6 (step v _ y5)) fun b s7 ⟨H7, I7, q7⟩ => ?_
      cases b with
      | false =>
        obtain ⟨m', hm, w7⟩ := (show ∃ m', m' < n ∧ W (i + 1) m' ys H7 from q7)
        obtain ⟨t1, t2, t3⟩ := tail I7
        exact ⟨m', hm, i + 1, ys, some v, H7, t1, t2, t3, w7⟩
      | true =>
        refine thn (he _ _ _ _ _ s7 _ _ _ I7 q7) fun y s8 ⟨y', H8, I8, r8, hD8, m', hm, w8⟩ => ?_
        refine thn (mt_append (X := X') _ s8 _ H8 (.ref s₂.heap.objs.size) [y'] _ [y] (fun _ H9 => H9 = upd H8 s₂.heap.objs.size (.lst (ys ++ [y']))) I8 rfl (.cons r8 .nil) ⟨_, _, _, rfl, rfl, hD8, hlt, rfl⟩) fun _ s9 ⟨_, H9, I9, _, e9⟩ => ?_
        subst e9
        obtain ⟨t1, t2, t3⟩ := tail I9
        exact ⟨m', hm, i + 1, ys ++ [y'], some v, _, t1, t2, t3, w8⟩
  exact codeAny_compStart_list (loop _) (T.self _ 0 _ _ _ hst₁ (loop _))
/-- [elt for x in iter if ..] -/
def tComp (frees : List (Str × Nat)) (tc : TT) (te : TE) (wi : TI) : TE := fun σ H Q => wi σ H fun J H1 => CompB J tc te (inSt frees σ) H1 Q
theorem pe_comp {wi : TI} (O : CompOk X scope x frees) (hxe : X.xe = fun _ _ => False) (hi : PI X (.Name x px) iter wi)
    (hc : ∀ C ex s₂ H₂, PIfs (compCx X scope (x :: frees.map (·.1)) C ex s₂ H₂) ifs tc) (he : ∀ C ex s₂ H₂, PE (compCx X scope (x :: frees.map (·.1)) C ex s₂ H₂) elt te)
    (hs : ∀ x, foldedSetIterable iter X.env x = pure x := by intro _; rfl) : PE X (.ListComp elt [⟨.Name x px, iter, ifs, 0⟩] scope pos) (tComp frees tc te wi) := by
  intro pins s σ H Q I h
  rw [eval_ListComp]
  refine wpAny_comprehension_free (use := none) rfl hs (closureFor_of O.cl) O.kind O.names (thn (hi pins s σ H _ I h) fun xv s₁ h₁ => thn h₁ fun itv s₂ h₂ => ?_)
  obtain ⟨it, fp, tn, J, H2, e, I2, T, st2, f2, hB⟩ := h₂
  subst e
  refine comp_core (RR := fun acc C => compPost (model X.prog X.w) X.A X.xe none (EP X pins σ Q) acc C) O hc he I2 T st2 f2 hB ?_
  intro D C H' s' I' hn hC q
  obtain ⟨m, hn⟩ := hn
  refine ⟨m, hn, fun h' hs' => ?_⟩
  exact ⟨.ref D, H', I'.turned (t' := s'.toks) (fun b o hb e => hs'.extBut b o hb e) hC.1 hC.2.1 hC.2.2.2.1 hC.2.2.2.2.1 hC.2.2.2.2.2, rfl, q⟩
/-- y = [elt for x in iter if ..], y a local of the def -/
theorem ps_comp {wi : TI} {i : Nat} {y : Str} {py spos : Pos} (O : CompOk X scope x frees) (hN : X.N.Nodup) (hiy : X.N[i]? = some y) (hy : X.env.kindOf y = some .local) (hsw : swapsWith (.ListComp elt [⟨.Name x px, iter, ifs, 0⟩] scope pos) (some (.Name y py)) spos.line X.env = pure true)
    (hi : PI X (.Name x px) iter wi) (hc : ∀ C ex s₂ H₂, PIfs (compCx X scope (x :: frees.map (·.1)) C ex s₂ H₂) ifs tc) (he : ∀ C ex s₂ H₂, PE (compCx X scope (x :: frees.map (·.1)) C ex s₂ H₂) elt te)
    (hs : ∀ x, foldedSetIterable iter X.env x = pure x := by intro _; rfl) : PS X (.Assign [.Name y py] (.ListComp elt [⟨.Name x px, iter, ifs, 0⟩] scope pos) spos) (tAsg (tComp frees tc te wi) (gName i)) := by
  intro pins s σ H D I h
  rw [exec_Assign_Name_used _ _ _ _ hsw]
  refine wpAny_bind (wpAny_standAt (wpAny_bind ?_))
  show wpAny _ X.A (do let _ ← comprehension (.ListComp elt [⟨.Name x px, iter, ifs, 0⟩] scope pos) scope X.env _ (newList []) false (eval iter X.env) (some (assign (.Name y py) X.env))) _ _ s
  refine wpAny_bind (wpAny_mono (wpAny_comprehension_free (use := some (assign (.Name y py) X.env)) (Q := fun _ s' => SP X pins D .next s') rfl hs (closureFor_of O.cl) O.kind O.names
    (thn (hi pins s σ H _ I h) fun xv s₁ h₁ => thn h₁ fun itv s₂ h₂ => ?_)) (fun _ s' hq => wpAny_pure (wpAny_pure hq)) fun _ _ e => e)
  obtain ⟨it, fp, tn, J, H2, e, I2, T, st2, f2, hB⟩ := h₂
  subst e
  refine comp_core (RR := fun acc C => compPost (model X.prog X.w) X.A X.xe (some (assign (.Name y py) X.env)) (fun _ s' => SP X pins D .next s') acc C) O hc he I2 T st2 f2 hB ?_
  intro A C H' s' I' hn hC q
  obtain ⟨m, hn⟩ := hn
  obtain ⟨oC, es, ep, hoC, hdC, hr⟩ := id hn
  have I'' : Inv X (pins ++ [(C, oC)]) σ H' s' := I'.pins_of fun p hp => (List.mem_append.mp hp).elim (fun z => I'.pin p (List.mem_append_right _ z)) fun z => by
    rw [List.mem_singleton.mp z]
    exact ⟨hoC, hC.1, hC.2.1, hC.2.2.1, fun v e => by rw [hdC] at e; cases e⟩
  show wpAny _ X.A (assign (.Name y py) X.env (.ref A)) _ _ _
  refine wpAny_assign_Name (store_ok I'' hN hiy (.inl hy) (v := .ref A) rfl (fun s3 I3 => ?_) (.inr hy))
  have hC3 := (I3.pin (C, oC) (List.mem_append_right _ (List.mem_append_right _ (List.mem_singleton.mpr rfl)))).1
  have J3 : Inv X pins (σ.set i (some (.ref A))) H' s3 := I3.unpinned
  refine ⟨m, ⟨oC, es, ep, hC3, hdC, hr⟩, fun h' hs' => ?_⟩
  exact ⟨_, H', J3.turned (t' := s3.toks) (fun b o hb e => hs'.extBut b o hb e) hC.1 hC.2.1 hC.2.2.2.1 hC.2.2.2.2.1 hC.2.2.2.2.2, q⟩
end
end L2

namespace L2
open PySem PySem.Spec PyProof.Rows
section
variable {X : Cx}
/-! ### all(..) of a list of truths -/
/-! ### methods of texts -/
theorem mt_startswith : MtR X "str.startswith" (fun x vs H Q => ∃ z y, x = .str z ∧ vs = [.str y] ∧ Q (.bl (Txt.startswith z y)) H) := by
  intro pins s σ H x vs v us Q I rx rv h
  obtain ⟨z, y, rfl, rfl, q⟩ := h
  obtain ⟨t, rfl⟩ := rx
  obtain ⟨u', rfl, u, rfl⟩ := rv.one
  exact SC.startswith ⟨.bl _, H, I, rfl, q⟩
/-- x[lo:hi] of a text -/
def rSlS : V → Option Int → Option Int → Hp → VK → Prop := fun x lo hi H Q => ∃ z, x = .str z ∧ z.length ≤ sizeLine ∧ Q (.str (Txt.slice z lo hi)) H
theorem part_of {v : Value} {o : Option Int} (p : IsPart v o) : ∃ l : Option (Int × Tok), v = partValue l ∧ l.map (·.1) = o := by
  cases p with
  | none => exact ⟨none, rfl, rfl⟩
  | int i t => exact ⟨some (i, t), rfl, rfl⟩
theorem sl_str : SlR X rSlS := by
  intro pins s σ H x v vl vu lo hi sl Q I rx hs pl pu h
  obtain ⟨z, rfl, hz, q⟩ := h
  obtain ⟨t, rfl⟩ := rx
  obtain ⟨l, rfl, rfl⟩ := part_of pl
  obtain ⟨u, rfl, rfl⟩ := part_of pu
  exact ⟨"str", _, F.slot_str_getitem.lookup, typeIs_str _ _ _, wpAny_getItem_str_slice (l := l) (u := u) (st := none) hs rfl
    (post_val_or_str ⟨Nat.le_trans (Txt.slice_le z _ _) hz, fun t' k => ⟨.str _, H, I.tok _, ⟨t', rfl⟩, q⟩⟩)⟩
/-! ### signs in texts -/
/-! ### o.m(..) where the fragment is named (within a comprehension) -/
/-! ### weaker readings: a statement's (or a block's) reading by one of your own -/
theorem PS.weak {st : Stmt} {t t' : TS} (h : PS X st t) (k : ∀ D σ H, t' D σ H → t D σ H) : PS X st t' := fun pins s σ H D I hw => h pins s σ H D I (k D σ H hw)
theorem PSs.weak {st : List Stmt} {t t' : TS} (h : PSs X st t) (k : ∀ D σ H, t' D σ H → t D σ H) : PSs X st t' := fun pins s σ H D I hw => h pins s σ H D I (k D σ H hw)
end
/-! ### comprehensions whose items are reckoned without a change of the heap -/
structure Seq (J : It) (H1 : Hp) (xs : List V) : Prop where
  go : ∀ i H, Same H1 H → i < xs.length → J.go i H
  yld : ∀ i H x H', Same H1 H → i < xs.length → J.yld i H x H' → H' = H ∧ xs[i]? = some x
  stop : ∀ H, Same H1 H → J.stop xs.length H
theorem seq_range (lo : Int) (n : Nat) (H1 : Hp) : Seq (Itr lo n) H1 ((List.range n).map fun i => V.int (lo + (i : Nat))) where
  go := fun i H _ h => by
    rw [List.length_map, List.length_range] at h
    exact h
  yld := fun i H x H' _ hi h => by
    obtain ⟨e, hx⟩ := h
    refine ⟨e, ?_⟩
    rw [List.length_map, List.length_range] at hi
    rw [List.getElem?_map, List.getElem?_range hi, hx]
    rfl
  stop := fun H _ => by
    show n ≤ _
    rw [List.length_map, List.length_range]
    exact Nat.le_refl _
theorem seq_list {K : PySem.W.Frag} {a : Addr} {xs : List V} {H1 : Hp} (h : SqL K H1 a xs) : Seq (Itl K a) H1 xs where
  go := fun i H e hi => ⟨xs, xs[i], e.seq h, List.getElem?_eq_getElem hi⟩
  yld := fun i H x H' e _ y => ⟨y.1, y.2 xs (e.seq h)⟩
  stop := fun H e => ⟨xs, e.seq h, Nat.le_refl _⟩
theorem take_more {α : Type} {xs : List α} {i : Nat} {x : α} (h : xs[i]? = some x) : xs.take (i + 1) = xs.take i ++ [x] := by
  rw [List.take_succ, h]
  rfl
theorem compB_seq {J : It} {tc : TT} {te : TE} {σf : Option V → St} {H1 : Hp} {Q : VK} {xs : List V} (S : Seq J H1 xs) (p : V → Bool) (g : V → V) (hz : xs.length < sizeLine)
    (hc : ∀ x ∈ xs, ∀ (H' : Hp) (R : Bool → Hp → Prop), Same H1 H' → R (p x) H' → tc (σf (some x)) H' R)
    (he : ∀ x ∈ xs, ∀ (H' : Hp) (R : VK), Same H1 H' → p x = true → R (g x) H' → te (σf (some x)) H' R)
    (q : ∀ D H', Same H1 H' → H1 D = none → H' D = some (.lst ((xs.filter p).map g)) → Q (.ref D) H') : CompB J tc te σf H1 Q := by
  intro D hD
  refine ⟨fun i m ys H2 => m = xs.length - i ∧ i ≤ xs.length ∧ Same H1 H2 ∧ H2 D = some (.lst ys) ∧ ys = ((xs.take i).filter p).map g, ⟨xs.length, rfl, Nat.zero_le _, same_new hD _, upd_same, rfl⟩, ?_⟩
  rintro i m ys H2 ⟨rfl, hi, sm, hD2, rfl⟩
  refine ⟨hD2, ?_⟩
  by_cases hlt : i < xs.length
  · refine .inr ⟨S.go i H2 sm hlt, ?_, fun x H3 y => ?_⟩
    · rw [List.length_map]
      refine Nat.lt_of_le_of_lt (List.length_filter_le _ _) ?_
      rw [List.length_take]
      omega
    · obtain ⟨e, hx⟩ := S.yld i H2 x H3 sm hlt y
      subst e
      have mem : x ∈ xs := List.mem_of_getElem? hx
      refine hc x mem _ _ sm ?_
      cases hp : p x with
      | false =>
        refine iteF ⟨xs.length - (i + 1), by omega, rfl, hlt, sm, hD2, ?_⟩
        rw [take_more hx, List.filter_append, List.filter_cons_of_neg (by rw [hp]; decide), List.filter_nil, List.append_nil]
      | true =>
        refine iteT (he x mem _ _ sm hp ⟨hD2, xs.length - (i + 1), by omega, rfl, hlt, same_on hD sm _, upd_same, ?_⟩)
        rw [take_more hx, List.filter_append, List.filter_cons_of_pos hp, List.filter_nil, List.map_append]
        rfl
  · have e : i = xs.length := by omega
    subst e
    refine .inl ⟨S.stop H2 sm, q D H2 sm hD ?_⟩
    rw [hD2, List.take_of_length_le (Nat.le_refl _)]
/-- what is asked of a comprehension's text, in short -/
def cellsFor (cells : List (Str × Addr)) (names : List (Str × NameKind)) : Bool := names.all fun p => if (p.2 == NameKind.free) = true then (cells.lookup p.1).isSome else true
theorem cellsFor_at {cells : List (Str × Addr)} {names : List (Str × NameKind)} (h : cellsFor cells names = true) : ∀ p ∈ names, p.2 = .free → (cells.lookup p.1).isSome = true := fun p hp hk => by
  have q := (List.all_eq_true.mp h) p hp
  rw [hk, show (NameKind.free == NameKind.free) = true from rfl, if_pos rfl] at q
  exact q
end L2

namespace L2
open PySem PySem.Spec PyProof.Rows
section
variable {X : Cx}
/-! ### text * number, int(text) -/
/-! ### a list's item, at a place that lies in it -/
def rIxLA (K : PySem.W.Frag) : R2 := fun x y H Q => ∃ p xs i, x = .ref p ∧ y = .int i ∧ SqL K H p xs ∧ 0 ≤ i ∧ i < ((xs.length : Nat) : Int) ∧ ∀ v, xs[i.toNat]? = some v → Q v H
theorem ix_listA : IxR X (rIxLA X.K) := by
  intro value slice pins s σ H x y v u Q I rx ry h hs
  obtain ⟨p, xs, i, rfl, rfl, hq, h0, h1, q⟩ := h
  obtain ⟨c, e1, e2⟩ := at_in (xs := xs) h0 h1
  exact ix_list value slice pins s σ H _ _ v u Q I rx ry ⟨p, xs, i, c, rfl, rfl, hq, e2, q c e1⟩ hs
def intV : V → Bool
  | .int _ => true
  | _ => false
end
end L2

namespace L2
open PySem PySem.Spec PyProof.Rows
section
variable {X : Cx}
/-! ### readings that lean on a token's being made already (x.replace(y, z) asks whether y and z are one object) -/
def PSk (X : Cx) (st : Stmt) (t : TS) : Prop :=
  ∀ (pins : List (Addr × Obj)) (s : Shared) (σ : St) (H : Hp) (D : Ends), Inv X pins σ H s → 1 ≤ s.toks → t D σ H → wpAny (model X.prog X.w) X.A (exec st X.env) (SP X pins D) X.xe s
def PSsK (X : Cx) (st : List Stmt) (t : TS) : Prop :=
  ∀ (pins : List (Addr × Obj)) (s : Shared) (σ : St) (H : Hp) (D : Ends), Inv X pins σ H s → 1 ≤ s.toks → t D σ H → wpAny (model X.prog X.w) X.A (execs st X.env) (SP X pins D) X.xe s
def PEk (X : Cx) (e : Expr) (t : TE) : Prop :=
  ∀ (pins : List (Addr × Obj)) (s : Shared) (σ : St) (H : Hp) (Q : VK), Inv X pins σ H s → 1 ≤ s.toks → t σ H Q → wpAny (model X.prog X.w) X.A (eval e X.env) (EP X pins σ Q) X.xe s
/-- a value behind which a token was made -/
def PE1 (X : Cx) (e : Expr) (t : TE) : Prop :=
  ∀ (pins : List (Addr × Obj)) (s : Shared) (σ : St) (H : Hp) (Q : VK), Inv X pins σ H s → t σ H Q → wpAny (model X.prog X.w) X.A (eval e X.env) (fun u s' => 1 ≤ s'.toks ∧ EP X pins σ Q u s') X.xe s
def PS1 (X : Cx) (st : Stmt) (t : TS) : Prop :=
  ∀ (pins : List (Addr × Obj)) (s : Shared) (σ : St) (H : Hp) (D : Ends), Inv X pins σ H s → t D σ H → wpAny (model X.prog X.w) X.A (exec st X.env) (fun f s' => 1 ≤ s'.toks ∧ SP X pins D f s') X.xe s
theorem PS.k {st : Stmt} {t : TS} (h : PS X st t) : PSk X st t := fun pins s σ H D I _ hw => h pins s σ H D I hw
theorem PSs.k {st : List Stmt} {t : TS} (h : PSs X st t) : PSsK X st t := fun pins s σ H D I _ hw => h pins s σ H D I hw
/-- o.replace('..', '..'), two unlike texts written there -/
def tRepl (y z : Str) (to : TE) : TE := fun σ H Q => to σ H fun v H1 => ∃ x, v = .str x ∧ x.length + (x.length + 1) * z.length ≤ 16777216 ∧ ∀ u : Str, u.length ≤ x.length + (x.length + 1) * z.length → Q (.str u) H1
end
end L2

namespace L2
open PySem PySem.Spec PyProof.Rows
/-! ### enumerate(xs), enumerate(xs, start=j) over a list -/
section
variable {prog : Program} {w : World} {A : Around} {E : Value → Shared → Prop} {s : Shared}
set_option maxHeartbeats 2000000 in
end
end L2

namespace L2
open PySem PySem.Spec PyProof.Rows
section
variable {prog : Program} {w : World} {A : Around} {E : Value → Shared → Prop} {s : Shared}
end
end L2

namespace L2
open PySem PySem.Spec PyProof.Rows
section
variable {prog : Program} {w : World} {A : Around} {E : Value → Shared → Prop} {s : Shared}
end
/-- j, j + 1, .. beside the list's things -/
def Ite (K : PySem.W.Frag) (a : Addr) (j : Int) : It :=
  ⟨fun i H => ∃ xs x, SqL K H a xs ∧ xs[i]? = some x, fun i H x H' => ∃ p y, x = .ref p ∧ H p = none ∧ H' = upd H p (.tup [.int (j + (i : Nat)), y]) ∧ ∀ xs, SqL K H a xs → xs[i]? = some y, fun i H => ∃ xs, SqL K H a xs ∧ xs.length = i⟩
section
variable {X : Cx} {elts : List Expr} {x1 : Nat} {tpos : Pos}
/-- enumerate(l, start=j) -/
def iEnumK (K : PySem.W.Frag) (tl : TA) (tj : TA) : TI := fun σ H R => tl σ H fun vs H1 => tj σ H1 fun zs H2 => ∃ a j, vs = [.ref a] ∧ zs = [.int j] ∧ (∃ xs, SqL K H2 a xs) ∧ Builtin.SmallTypes.fitsIndex j = true ∧ R (Ite K a j) H2
def iEnum (K : PySem.W.Frag) (tl : TA) : TI := fun σ H R => tl σ H fun vs H1 => ∃ a, vs = [.ref a] ∧ (∃ xs, SqL K H1 a xs) ∧ R (Ite K a 0) H1
end
end L2

namespace L2
open PySem PySem.Spec PyProof.Rows
section
variable {X : Cx} {pins : List (Addr × Obj)} {σ : St} {H : Hp} {s : Shared} {d : Addr} {kvs : List (Key × V)}
/-! ### a dict is held still while a loop walks it -/
theorem Inv.freeze (I : Inv X pins σ H s) (h : H d = some (.dK kvs)) : ∃ o, s.heap.get? d = some o ∧ Inv X pins σ (upd H d (.frz o (.dK kvs))) s := by
  obtain ⟨z, hd, vs, r, o, es, ep, e, c⟩ := I.hok d _ h
  have mu : Mut (H d) := by rw [h]; trivial
  refine ⟨o, e, I.un (h' := s.heap) (t' := s.toks) (Un.write mu (.inl rfl) (fun _ _ _ q => q) ⟨o, e⟩) (I.hok.write mu (.inl rfl) (fun _ _ _ q => q) ⟨o, e⟩ ⟨e, z, hd, vs, r, o, es, ep, e, c⟩)⟩
theorem Inv.thaw {o : Obj} (I : Inv X pins σ H s) (h : H d = some (.frz o (.dK kvs))) (h0 : ∀ o u, X.H₀ d ≠ some (.frz o u)) : Inv X pins σ (upd H d (.dK kvs)) s := by
  have nn : ∀ b, H b = none → b ≠ d := fun b q z => by rw [z, h] at q; cases q
  refine ⟨I.ok, I.os, I.bare, ⟨I.base.keep, I.base.slot, fun b o' e n hx => ?_, I.base.there, fun b xs e => ?_, fun b o' u e => ?_, fun b ps e => ?_⟩, I.loc, I.cell, ?_, fun x c e => ?_, fun p hp => ?_, fun b u e => ?_, I.len⟩
  · have q := I.base.free b o' e n hx
    rw [upd_ne (nn b q)]
    exact q
  · have q := I.base.tups b xs e
    rw [upd_ne (ne_of q h (by intro z; cases z))]
    exact q
  · have q := I.base.frzs b o' u e
    rw [upd_ne (fun z => h0 o' u (by rw [← z]; exact e))]
    exact q
  · obtain ⟨more, q⟩ := I.base.tbls b ps e
    refine ⟨more, ?_⟩
    rw [upd_ne (ne_of q h (by intro z; cases z))]
    exact q
  · rw [upd_ne (nn _ I.free)]
    exact I.free
  · rw [upd_ne (nn _ (I.freeC x c e))]
    exact I.freeC x c e
  · obtain ⟨a, b, c⟩ := I.pin p hp
    exact ⟨a, by rw [upd_ne (nn _ b)]; exact b, c⟩
  · by_cases hb : b = d
    · subst hb
      rw [upd_same] at e
      cases e
      obtain ⟨q, ok⟩ := I.hok b _ h
      exact ok
    · rw [upd_ne hb] at e
      exact (I.hok b u e).stay (fun _ _ _ q => q) (fun c q => by rw [upd_ne (ne_of q h (by intro z; cases z))]; exact q) (fun c xs q => by rw [upd_ne (ne_of q h (by intro z; cases z))]; exact q)
theorem Inv.unfrozen (I : Inv X pins σ H s) (h : H d = some (.dK kvs)) : ∀ o u, X.H₀ d ≠ some (.frz o u) := fun o u e => by
  have q := I.base.frzs d o u e
  rw [h] at q
  cases q
def tFrz (t : TE) : TE := fun σ H Q => ∃ (d : Addr) (kvs : List (Key × V)), H d = some (.dK kvs) ∧ ∀ o, t σ (upd H d (.frz o (.dK kvs))) fun v H' => H' d = some (.frz o (.dK kvs)) ∧ Q v (upd H' d (.dK kvs))
theorem pe_frz {e : Expr} {t : TE} (h : PE X e t) : PE X e (tFrz t) := by
  intro pins s σ H Q I hw
  obtain ⟨d, kvs, hd, q⟩ := hw
  obtain ⟨o, eo, I1⟩ := I.freeze hd
  refine thn (h pins s σ _ _ I1 (q o)) fun v s1 ⟨x, H1, I2, r, hz, q2⟩ => ?_
  exact ⟨x, _, I2.thaw hz (I.unfrozen hd), r, q2⟩
def sFrz (t : TS) : TS := fun D σ H => ∃ (d : Addr) (kvs : List (Key × V)), H d = some (.dK kvs) ∧ ∀ o, t { nx := fun σ' H' => H' d = some (.frz o (.dK kvs)) ∧ D.nx σ' (upd H' d (.dK kvs)), rt := fun v H' => H' d = some (.frz o (.dK kvs)) ∧ D.rt v (upd H' d (.dK kvs)), bk := fun σ' H' => H' d = some (.frz o (.dK kvs)) ∧ D.bk σ' (upd H' d (.dK kvs)), ct := fun σ' H' => H' d = some (.frz o (.dK kvs)) ∧ D.ct σ' (upd H' d (.dK kvs)) } σ (upd H d (.frz o (.dK kvs)))
end
/-- a dict's keys, in order -/
def Itd (d : Addr) (o : Obj) (kvs : List (Key × V)) : It :=
  ⟨fun i H => H d = some (.frz o (.dK kvs)) ∧ i < kvs.length, fun i H x H' => H' = H ∧ ∃ k v, kvs[i]? = some (k, v) ∧ x = kV k, fun i H => H d = some (.frz o (.dK kvs)) ∧ kvs.length = i⟩
theorem rel_key {k : Key} {v : Value} (h : keyIs k v = true) : RelV (kV k) v := by
  rcases keyIs_shape h with ⟨i, t, rfl, rfl⟩ | ⟨x, t, rfl, rfl⟩
  · exact ⟨t, rfl⟩
  · exact ⟨t, rfl⟩
theorem turn_dict {P : Program} {w : World} {K : PySem.W.Frag} {tg : Expr} (d it : Addr) (o : Obj) (kvs : List (Key × V)) {vs : List (Key × Value)} {es : Array DictEntry} {ep : Nat} (rk : KV kvs vs) (hd : o.ExactDict) (he : o.data = .dict es ep) (hk : KeysOf (mixKind P w) es) (hp : Pairs (mixKind P w) es.toList vs) (nd : (vs.map (·.1)).Nodup) :
    Turn P w K tg (Itd d o kvs) [it] it (fun i h => h.IsKeyIter it d i vs.length ep) where
  mem := by simp
  obj := fun i h st b hb => by
    have e : b = it := by simpa using hb
    subst e
    obtain ⟨o, e, c, d⟩ := st
    exact ⟨o, e, fun v z => by rw [d] at z; cases z⟩
  keep := fun i h h' st k => st.at fun o e => k it (by simp) o e
  item := by
    intro X hP hw hK hc i pins s σ H E I hf st hg
    subst hP hw hK
    obtain ⟨hz, hi⟩ := hg
    obtain ⟨eo, _⟩ := I.hok d _ hz
    obtain ⟨f0, f1, f2, f3, f4, f5⟩ := hf it (by simp)
    have hl := KV.length rk
    have hi2 : i < vs.length := by omega
    have ev : vs[i]? = some (vs[i].1, vs[i].2) := List.getElem?_eq_getElem hi2
    have ks : kvs[i]? = some (kvs[i].1, kvs[i].2) := List.getElem?_eq_getElem hi
    have keq : kvs[i].1 = vs[i].1 := by
      have q := KV.keys rk
      have q1 : (kvs.map (·.1))[i]? = (vs.map (·.1))[i]? := by rw [q]
      rw [List.getElem?_map, List.getElem?_map, ks, ev] at q1
      exact Option.some.inj q1
    refine wpAny_pyNext_dict_item st ⟨o, es, eo, hd, he, hk, hp, nd⟩ ev fun key h' hkey st' sb => ?_
    have I1 : Inv X pins σ H { s with heap := h' } := I.turned (t' := s.toks) (fun b o hb e => (sb.2 b hb).trans e) f0 f1 f3 f4 f5
    obtain ⟨o2, e2, c2, d2⟩ := id st'
    refine ⟨key, rfl, go_of (s := { s with heap := h' }) e2 c2 d2 (by decide) ⟨kV kvs[i].1, H, I1, ?_, ⟨rfl, _, _, ks, rfl⟩, st', fun b hb => (hf b hb).1⟩⟩
    rw [keq]
    exact rel_key hkey
  done := by
    intro X hP hw hK hc i pins s σ H E I hf st hg
    subst hP hw hK
    obtain ⟨hz, hi⟩ := hg
    obtain ⟨eo, _⟩ := I.hok d _ hz
    obtain ⟨f0, f1, f2, f3, f4, f5⟩ := hf it (by simp)
    have hl := KV.length rk
    have hin : vs[i]? = none := List.getElem?_eq_none (by omega)
    exact wpAny_pyNext_dict_end (I.ok.hd hc) st ⟨o, es, eo, hd, he, hk, hp, nd⟩ hin fun h' eb => ⟨rfl, I.turned (t' := s.toks) (fun b o hb e => eb b o hb e) f0 f1 f3 f4 f5⟩
  self := fun _ _ _ _ _ st h => wpAny_pyIter_keyiter st h
section
variable {X : Cx} {tg : Expr}
def iDict (tl : TE) : TI := fun σ H R => tl σ H fun x H1 => ∃ d o kvs, x = .ref d ∧ H1 d = some (.frz o (.dK kvs)) ∧ R (Itd d o kvs) H1
theorem pi_dict {l : Expr} {tl : TE} (hl : PE X l tl) : PI X tg l (iDict tl) := by
  intro pins s σ H R I h
  refine thn (hl pins s σ H _ I h) fun v s1 ⟨x, H1, I1, r1, q1⟩ => ?_
  obtain ⟨d, o, kvs, rfl, hz, q⟩ := q1
  cases r1
  obtain ⟨eo, z, hd, vs, rk, o', es, ep, e', xd, dt, ko, pr, nd⟩ := I1.hok d _ hz
  rw [eo] at e'
  cases e'
  refine wpAny_pyIter_dict hd ⟨o, es, eo, xd, dt, ko, pr, nd⟩ ?_
  refine ⟨s1.heap.objs.size, [s1.heap.objs.size], _, _, H1, rfl, I1.kept (t' := s1.toks) fun b o e => Heap.get?_push_of_some _ e, turn_dict d _ o kvs rk xd dt ko pr nd, ⟨_, Heap.get?_push_size _ rfl, rfl, rfl⟩, fun b hb => ?_, q⟩
  have e : b = s1.heap.objs.size := by simpa using hb
  subst e
  exact I1.fpOk (Nat.le_refl _) (I1.hok.fresh (Nat.le_refl _))
theorem seq_dict {d : Addr} {o : Obj} {kvs : List (Key × V)} {H1 : Hp} (h : H1 d = some (.frz o (.dK kvs))) : Seq (Itd d o kvs) H1 (kvs.map fun p => kV p.1) where
  go := fun i H e hi => ⟨e _ _ h, by rw [List.length_map] at hi; exact hi⟩
  yld := fun i H x H' e _ y => by
    obtain ⟨a, k, v, b, c⟩ := y
    refine ⟨a, ?_⟩
    rw [List.getElem?_map, b, c]
    rfl
  stop := fun H e => ⟨e _ _ h, by rw [List.length_map]⟩
/-! ### xs.insert(i, y) at a place that lies in it -/
def rInsert : V → List V → Hp → VK → Prop := fun x vs H Q => ∃ l xs i y, x = .ref l ∧ vs = [.int i, y] ∧ H l = some (.lst xs) ∧ 0 ≤ i ∧ i ≤ ((xs.length : Nat) : Int) ∧ xs.length < sizeLine ∧ Q .non (upd H l (.lst (xs.take i.toNat ++ y :: xs.drop i.toNat)))
/-! ### a def of the text, all in one -/
structure Dfn (P : Program) (w : World) (K : PySem.W.Frag) (mg : Str → Option Value) (base : Heap) (k : Nat) (x : Str) (ps : List Str) (sp : Sp) : Prop where
  ex : ∃ f fd, FnOk P w K mg base CX0 k f fd ps sp ∧ Binds K fd ps [] ∧ PySem.W.keepIn K (.ref f) = true ∧ mg x = some (.ref f)
theorem pe_callD {k : Nat} {x : Str} {ps : List Str} {sp : Sp} {e : Expr} {es : List Expr} {t : TA} {p pos : Pos} (D : Dfn X.prog X.w X.K X.mg X.base k x ps sp) (hr : Room k X.A) (hg : Gl X x) (ha : PA X (e :: es) t) (hdb : (x == ("__debug__" : Str)) = false := by decide)
    (he : starEach (e :: es) X.env = (false, eval e X.env) :: starEach es X.env := by rfl) (hpl : (backTo pos (starEach es X.env)).any (·.1) = false := by rfl) : PE X (.Call (.Name x p) (e :: es) [] pos) (tCall sp [] E0 t) := by
  obtain ⟨f, fd, F, b, kp, m⟩ := D.ex
  exact pe_call F hr hg m kp b .nil pass0 ha hdb he hpl
structure GS (mg : Str → Option Value) (x : Str) (z : Str) : Prop where
  ex : ∃ t, mg x = some (.str z t)
structure GI (mg : Str → Option Value) (x : Str) (z : Int) : Prop where
  ex : ∃ t, mg x = some (.int z t)
theorem pe_gs {x z : Str} {pos : Pos} (G : GS X.mg x z) (hg : Gl X x) (hd : (x == ("__debug__" : Str)) = false := by decide) : PE X (.Name x pos) (tC (.str z)) := by
  obtain ⟨t, e⟩ := G.ex
  exact pe_glob hg e (rel_str _ _) hd
end
end L2

namespace L2
open PySem PySem.Spec PyProof.Rows
section
variable {X : Cx}
/-! ### a class that is made; a method: all in one -/
structure MkD (P : Program) (w : World) (K : PySem.W.Frag) (mg : Str → Option Value) (base : Heap) (k : Nat) (x : Str) (C : Addr) (ps : List Str) (sp : Sp) : Prop where
  ex : ∃ f fd, Mk K C f ∧ FnOk P w K mg base CX0 k f fd ps sp ∧ Binds K fd ps [] ∧ mg x = some (.ref C)
theorem pe_makeD {k : Nat} {x : Str} {C : Addr} {ps : List Str} {sp : Sp} {e : Expr} {es : List Expr} {t : TA} {p pos : Pos} (D : MkD X.prog X.w X.K X.mg X.base k x C ps sp) (hr : Room (k + 1) X.A) (hg : Gl X x) (ha : PA X (e :: es) t) (hdb : (x == ("__debug__" : Str)) = false := by decide)
    (he : starEach (e :: es) X.env = (false, eval e X.env) :: starEach es X.env := by rfl) (hpl : (backTo pos (starEach es X.env)).any (·.1) = false := by rfl) : PE X (.Call (.Name x p) (e :: es) [] pos) (tMake C sp [] E0 t) := by
  obtain ⟨f, fd, M, F, b, m⟩ := D.ex
  exact pe_make M F hr hg m b .nil pass0 ha hdb he hpl
structure MtD (P : Program) (w : World) (K : PySem.W.Frag) (mg : Str → Option Value) (base : Heap) (k : Nat) (m : Str) (C : Addr) (ps : List Str) (sp : Sp) : Prop where
  ex : ∃ f fd, Meth K C m f ∧ FnOk P w K mg base CX0 k f fd ps sp ∧ Binds K fd ps []
theorem pt_truthK {K : PySem.W.Frag} {a : Expr} {ta : TE} (hK : X.K = K) (ha : PE X a ta) (he : ∀ whole, isTrue a X.env whole = (do let v ← whole; standAt a.pos; holding [v] (truthy v))) : PT X a (fun σ H Q => ta σ H fun x H' => ∃ k, TruV K x H' k ∧ Q k H') := by
  subst hK
  exact pt_truth ha he
theorem pe_ixK {K : PySem.W.Frag} {a b : Expr} {ta tb : TE} {pos : Pos} {r : PySem.W.Frag → R2} (hK : X.K = K) (hr : IxR X (r X.K)) (ha : PE X a ta) (hb : PE X b tb) (hs : PlainIx b) : PE X (.Subscript a b pos) (tOp (r K) ta tb) := by
  subst hK
  exact pe_ix hr ha hb hs
theorem pe_fldK {K : PySem.W.Frag} {e : Expr} {ta : TE} {f : Str} {pos : Pos} (hK : X.K = K) (he : PE X e ta) (hb : attributeBase e f X.env (eval e X.env) = eval e X.env) : PE X (.Attribute e f pos) (tFld K ta f) := by
  subst hK
  exact pe_fld he hb
theorem seq_tup {K : PySem.W.Frag} {a : Addr} {xs : List V} {H1 : Hp} (h : SqT K H1 a xs) : Seq (Itt K a) H1 xs := by
  have k : ∀ H, Same H1 H → SqT K H a xs := fun H e => by
    rcases h with (h | ⟨o, h⟩) | h
    · exact .inl (.inl (e _ _ h))
    · exact .inl (.inr ⟨o, e _ _ h⟩)
    · exact .inr h
  exact ⟨fun i H e hi => ⟨xs, xs[i], k H e, List.getElem?_eq_getElem hi⟩, fun i H x H' e _ y => ⟨y.1, y.2 xs (k H e)⟩, fun H e => ⟨xs, k H e, Nat.le_refl _⟩⟩
/-! ### the names' values written out anew -/
def tAt (t : TS) : TS := fun D σ H => ∃ σ', σ = σ' ∧ t D σ' H
theorem pss_at {sts : List Stmt} {t : TS} (h : PSs X sts t) : PSs X sts (tAt t) := fun pins s σ H D I hw => by
  obtain ⟨σ', rfl, q⟩ := hw
  exact h pins s σ H D I q
/-! ### classes by isinstance: tuples, lists, texts, numbers, truths, None -/
theorem kit_other {K : PySem.W.Frag} {a b : String} (h1 : (Value.type a == Value.type b) = false) (h2 : PySem.W.kitMeta b = true) (h3 : (fastBuiltinMro a).map (·.contains (Value.type b)) = some false) : PySem.W.kitOne K (.type a) (.type b) = some false := by
  show (if (Value.type a == Value.type b) = true then some true else (if PySem.W.kitMeta b = true then PySem.W.subIn K (.type a) (.type b) else none)) = some false
  rw [h1, if_neg (by decide), if_pos h2]
  exact h3
end
end L2

namespace PySem.W
open PySem PySem.Spec PySem.Calls PyProof.Rows Builtin Builtin.ObjectAttr Builtin.Getset_descriptor
/-! ### own classes of refusals: made by ValueError's new, by an own __init__ -/
abbrev veMro : List Value := [.type "ValueError", .type "Exception", .type "BaseException", .type "object"]
def excMk (K : Frag) (C : Addr) : Bool := match K.lookup C with
  | some ⟨.type "type", _, .cls cd, sls⟩ => (match cd.mro, sls.toList with
    | .ref C' :: tlm, [_, _, _, _, some (.builtin n), _] => C' == C && n == "ValueError.__new__" && !cd.hasDel && tailIn K veMro tlm
    | _, _ => false)
  | _ => false
def ExcAt (h : Heap) (C : Addr) (tlm : List Value) : Prop := ∃ N nm q bs hdct sn sub ab col dd q0 q1 q2 q3 q5, h.get? C = some (excClassObj nm q C N bs tlm hdct sn sub ab col dd q0 q1 q2 q3 q5 "ValueError.__new__")
theorem excMk_obj {K : Frag} {h : Heap} {C : Addr} (X : K.In h) (q : excMk K C = true) : ∃ tlm, ExcAt h C tlm ∧ OwnTail h veMro tlm := by
  unfold excMk at q
  split at q
  · rename_i dd cd sls ho
    split at q
    · rename_i C' tlm q0 q1 q2 q3 n q5 hmm hss
      simp only [beq_iff_eq, Bool.and_eq_true, Bool.not_eq_true'] at q
      obtain ⟨⟨⟨rfl, rfl⟩, hdel⟩, ht⟩ := q
      obtain ⟨nm, bs, mro, ns, qun, hd, sn, sub, ab, col, del⟩ := cd
      dsimp only at hmm hdel
      subst hmm hdel
      have hsl : sls = #[q0, q1, q2, q3, some (.builtin "ValueError.__new__"), q5] := by
        obtain ⟨l⟩ := sls
        simp only at hss
        rw [hss]
      subst hsl
      exact ⟨tlm, ⟨ns, nm, qun, bs, hd, sn, sub, ab, col, dd, q0, q1, q2, q3, q5, X _ _ ho⟩, tail_of_in X ht⟩
    · cases q
  · cases q
abbrev excTup (us : List Value) : Obj := { cls := .type "tuple", data := .seq us.toArray }
abbrev excNew (C t0 : Addr) : Obj := { cls := .ref C, data := .fields #[.ref t0, .none, .none, .none, .bool false, .none] }
section
variable {prog : Program} {w : World} {A : Around} {K : Frag} {C f : Addr} {R : Result → Shared → Prop} {h : Heap} {g : Array GenState} {d : Drawn} {t : Nat} {os : OsState}
theorem make_X {us : List Value} (X : K.In h) (e : excMk K C = true) (hi : findIn K (.ref C) "__init__" = some (some (.ref f))) (hf : typeIn K (.ref f) = some (.type "function")) (hrest : us.length ≤ sizeLine)
    (hq : codeAny (model prog w) (A.under (.builtin "type.__call__" ⟨.ref C :: us, []⟩)) (.call (.ref f) ⟨.ref (h.objs.size + 1) :: us, []⟩) (InitBack (h.objs.size + 1) R) ⟨(h.push (excTup us)).push (excNew C h.objs.size), g, d, t, os⟩) :
    codeAny (model prog w) A (.call (.ref C) ⟨us, []⟩) R ⟨h, g, d, t, os⟩ := by
  obtain ⟨tlm, ⟨N, nm, q, bs, hdct, sn, sub, ab, col, dd, q0, q1, q2, q3, q5, hCl⟩, T⟩ := excMk_obj X e
  have FB := PySem.F.excBase_ValueError
  have f1 := tc_lookup
  have f2 := tc_bind (.ref C)
  have hTy : (⟨h, g, d, t, os⟩ : Shared).TypeIs (.ref C) "type" := ⟨_, hCl, rfl⟩
  refine codeAny_of_tree ?_
  show wpAny (model prog w) A.in1 (callAny (.ref C) _) _ _ _
  repeat (any_goals (first | assumption | with_reducible refine wpAny_loadPart_at hCl ?_ | wp_step))
  refine ⟨rfl, ?_⟩
  refine codeAny_call_builtin_at (Code.quiet_builtin _ (by decide +kernel)) entry_typeCall (wpAny_check_type_call_sub hCl ?_)
  repeat (first | with_reducible refine wpAny_loadPart_at hCl ?_ | with_reducible refine wpAny_madeBy_exc hCl ?_ | wp_step)
  refine codeAny_call_builtin_code (Code.quiet_builtin _ FB.quiet) (wpAny_check_new_subT FB T hCl ?_)
  refine codeAny_exc_new_subT FB T hCl ?_ hrest
  show wpAny _ _ _ _ _ _
  have k : ∀ b o, h.get? b = some o → ((h.push (excTup us)).push (excNew C h.objs.size)).get? b = some o := fun b o e => Heap.get?_push_of_some _ (Heap.get?_push_of_some _ e)
  have hx : ((h.push (excTup us)).push (excNew C h.objs.size)).get? (h.objs.size + 1) = some (excNew C h.objs.size) := by heap_get
  have t1 : Looks (model prog w) ((h.push (excTup us)).push (excNew C h.objs.size)) (typeOf (.ref (h.objs.size + 1))) (.ref C) := (Looks.ld hx).andThen .now
  have hcc : (Value.ref C :: tlm).contains (.ref C) = true := by simp
  have s0 : Looks (model prog w) h (isSubtype (.ref C) (.ref C)) true := by
    intro A Q E s kk qq
    obtain ⟨h1, g1, d1, tk1, os1⟩ := s
    exact wpAny_isSubtype_exc (kk _ _ hCl) (by rw [hcc]; exact qq)
  have s1 := s0.keeps k
  have i1 := (looks_findIn (M := model prog w) X hi).keeps k
  have b1 := (bind_fn (M := model prog w) X (.ref (h.objs.size + 1)) hf).keeps k
  have hC₁ := k _ _ hCl
  unfold isInstance
  refine wpAny_bind (wpAny_bind (t1.here (s1.here ?_)))
  simp only [Bool.false_eq_true, Bool.not_true, if_false]
  refine wpAny_bind (wpAny_holding ?_); unfold callSpecial? specialOf
  refine wpAny_bind (wpAny_bind (t1.here ?_))
  refine i1.here ?_
  refine wpAny_holding (wpAny_bind (b1.here ?_))
  refine wpAny_bind (wpAny_call ?_)
  refine codeAny_mono hq fun r s' zz => ?_
  rcases r with e | (v | _ | _ | _) <;> first | exact zz | exact zz.elim | skip
  obtain ⟨rfl, zz⟩ := zz
  exact wpAny_pure (wpAny_pure zz)
end
end PySem.W

namespace PySem.W
open PySem PySem.Spec PySem.Calls PyProof.Rows Builtin Builtin.ObjectAttr Builtin.Getset_descriptor
/-! ### attributes of a refusal -/
def onlyVE : List Value → Bool
  | .ref _ :: r => onlyVE r
  | .type n :: r => (.type n :: r) == veMro
  | _ => false
theorem refuse_VE (self : Value) : ∀ {l : List Value}, onlyVE l = true → refuseLoop self "__setattr__" l = pure ()
  | .ref c :: r, e => by rw [refuseLoop_ref]; exact refuse_VE self (show onlyVE r = true from e)
  | .type n :: r, e => by rw [show Value.type n :: r = veMro from beq_iff_eq.mp e]; exact PySem.F.store_ValueError.passes self
theorem has_VE {b : String} (hbb : veMro.contains (.type b) = true) : ∀ {l : List Value}, onlyVE l = true → l.contains (.type b) = true
  | .ref c :: r, e => by rw [List.contains_cons, has_VE hbb (l := r) e, Bool.or_true]
  | .type n :: r, e => by rw [show Value.type n :: r = veMro from beq_iff_eq.mp e]; exact hbb
def excOver (K : Frag) (C : Addr) : Bool := (clsIn K C).any fun cdt => onlyVE cdt.mro
section
variable {prog : Program} {w : World} {A : Around} {K : Frag} {C x : Addr} {s : Shared} {R : Result → Shared → Prop}
theorem osa_X {ox : Obj} {od : Option Obj} {nm : Str} {tk : Tok} {v : Value} {r : Option Value} (X : K.In s.heap) (I : InstAt s.heap x ox C od) (hp : excOver K C = true) (ht : takerIn K C nm = some r)
    (go : ∀ b, wpAny (model prog w) A.in1 (match r with | some a => setByDescriptor a (.ref x) v | none => storeInOwnDict (.ref x) (.ref C) (.str nm tk) nm v b)
      (fun fi s' => match fi with | .done f => R (.ok f) s' | .again c' => c'.quiet = true ∧ codeAny (model prog w) A c' R s') (fun e s' => R (.error e) s') s) :
    codeAny (model prog w) A (.call (.builtin "object.__setattr__") ⟨[.ref x, .str nm tk, v], []⟩) R s := by
  have SFo := PySem.F.store_object
  obtain ⟨cdt, hcd, hov⟩ := any_some hp
  have nem : cdt.mro.isEmpty = false := by cases q : cdt.mro with | nil => rw [q] at hov; cases hov | cons _ _ => rfl
  have sub : Looks (model prog w) s.heap (isInstance (.ref x) (.type "object")) true := I.type.andThen (looks_mroIn X (by unfold mroIn; rw [hcd, Option.bind_some, if_neg (by rw [nem]; decide), has_VE (by decide +kernel) hov]))
  refine codeAny_call_builtin SFo.slot.plain SFo.entry (@check_slot (model prog w) _ _ s "object.__setattr__" "object" "__setattr__" (.ref x) [.str nm tk, v] [] _ SFo.kind SFo.split sub (SFo.args (.ref x) (.str nm tk) v) ?_)
  obtain ⟨atr, ha, hrr⟩ := Option.bind_eq_some_iff.mp ht
  have hmr : Looks (model prog w) s.heap (mroOf (.ref C)) cdt.mro := (looks_clsIn X hcd).andThen .now
  have l3 : Looks (model prog w) s.heap (storeTaker? atr) r := by
    cases atr with
    | none => cases hrr; exact .now
    | some a =>
      obtain ⟨b, hbb, rfl⟩ := Option.map_eq_some_iff.mp hrr
      refine (looks_takesIn X hbb).andThen ?_
      cases b <;> exact .now
  rw [osa_eq, refuse_eq]
  refine wpAny_bind (wpAny_bind (I.type.here (wpAny_bind (hmr.here ?_))))
  rw [refuse_VE _ hov]
  refine wpAny_pure (wpAny_bind (I.type.here (wpAny_bind ((looks_findIn X ha).here (wpAny_bind (l3.here ?_))))))
  exact go _
variable {E : Value → Shared → Prop} {vs : Array Value} {sl : Array (Option Value)} {nm : Str} {v : Value}
/-- the first attribute: the dict is made -/
theorem setX_new {Q : Unit → Shared → Prop} (X : K.In s.heap) (hx : s.heap.get? x = some ⟨.ref C, none, .fields vs, sl⟩) (hs : findIn K (.ref C) "__setattr__" = some (some (.builtin "object.__setattr__")))
    (hp : excOver K C = true) (ht : takerIn K C nm = some none) (hh : hasDictIn K C = true)
    (h : ∀ h', h'.get? x = some ⟨.ref C, some s.heap.objs.size, .fields vs, sl⟩ → h'.Ns1 s.heap.objs.size (fun y => if y = nm then some v else none) → (∀ b o, b ≠ x → s.heap.get? b = some o → h'.get? b = some o) →
      Q () { s with heap := h', toks := s.toks + 2 }) : wpAny (model prog w) A (setAttr (.ref x) nm v) Q E s := by
  have J : InstAt s.heap x ⟨.ref C, none, .fields vs, sl⟩ C none := ⟨hx, rfl, rfl, True.intro⟩
  refine set_plain X J hs (osa_X (s := { s with toks := s.toks + 1 }) (r := none) X J hp ht fun b => ?_)
  obtain ⟨cdt, hcd, hdc⟩ := any_some hh
  refine wpAny_bind (wpAny_pure (wpAny_bind (wpAny_bind (wpAny_loadPart hx (wpAny_bind (Looks.here (s := { s with toks := s.toks + 1 }) (looks_clsIn X hcd) ?_))))))
  rw [hdc]
  have hxz : x ≠ s.heap.objs.size := Nat.ne_of_lt (Heap.lt_size hx)
  have hx1 : (s.heap.push { cls := .type "dict", data := .dict #[] }).get? x = some ⟨.ref C, none, .fields vs, sl⟩ := Heap.get?_push_of_some _ hx
  refine wpAny_bind (wpAny_alloc (wpAny_bind (wpAny_update hx1 ?_)))
  refine wpAny_pure (a := some s.heap.objs.size) ?_
  have hx2 : ((s.heap.push { cls := .type "dict", data := .dict #[] }).update x fun o => { cls := o.cls, dict := some s.heap.objs.size, data := o.data, slots := o.slots }).get? x = some ⟨.ref C, some s.heap.objs.size, .fields vs, sl⟩ := by
    rw [Heap.get?_update_self _ hx1 rfl]
  have hgx : ((s.heap.push { cls := .type "dict", data := .dict #[] }).update x fun o => { cls := o.cls, dict := some s.heap.objs.size, data := o.data, slots := o.slots }).get? s.heap.objs.size = some { cls := .type "dict", data := .dict #[] } :=
    (Heap.get?_update_ne _ _ _ _ hxz.symm).trans (Heap.get?_push_at rfl rfl)
  have hnd : ((s.heap.push { cls := .type "dict", data := .dict #[] }).update x fun o => { cls := o.cls, dict := some s.heap.objs.size, data := o.data, slots := o.slots }).Ns s.heap.objs.size (fun _ => none) :=
    ⟨_, #[], _, hgx, rfl, fun e he => absurd he (by simp), fun _ => rfl⟩
  refine wpAny_bind (wpAny_pure (wpAny_bind (wpAny_nsSet1 (Heap.Ns1.of_empty hnd) fun h' hn' hs' => ?_)))
  obtain ⟨oD, esD, epD, hoE, hdE, hcE⟩ := hn'.count (Within.cons nm v Within.nil)
  refine wpAny_bind (wpAny_lookBehind hoE (by rw [hdE]; exact pastItsLine_dict (Nat.le_trans hcE (by rw [List.length_cons, List.length_nil, sizeLine_eq]; omega))) ?_)
  refine wpAny_pure (h h' ((hs'.2 x hxz).trans hx2) hn' fun b o hbb q => ?_)
  exact (hs'.2 b (Nat.ne_of_lt (Heap.lt_size q))).trans ((Heap.get?_update_ne _ _ _ _ hbb).trans (Heap.get?_push_of_some _ q))
/-- a further attribute -/
theorem setX_old {Q : Unit → Shared → Prop} {dxa : Addr} {mA : Str → Option Value} {ns : List Str} (X : K.In s.heap) (hx : s.heap.get? x = some ⟨.ref C, some dxa, .fields vs, sl⟩) (hn : s.heap.Ns1 dxa mA) (hne : dxa ≠ x)
    (hs : findIn K (.ref C) "__setattr__" = some (some (.builtin "object.__setattr__"))) (hp : excOver K C = true) (ht : takerIn K C nm = some none) (hh : hasDictIn K C = true) (hw : Within mA ns) (hsz : ns.length < sizeLine)
    (h : ∀ h', h'.Ns1 dxa (fun y => if y = nm then some v else mA y) → (∀ b o, b ≠ dxa → s.heap.get? b = some o → h'.get? b = some o) →
      Q () { s with heap := h', toks := s.toks + 2 }) : wpAny (model prog w) A (setAttr (.ref x) nm v) Q E s := by
  obtain ⟨od, hov, hl⟩ := L2.lookIn_ns hn
  have J : InstAt s.heap x ⟨.ref C, some dxa, .fields vs, sl⟩ C (some od) := ⟨hx, rfl, rfl, hov⟩
  refine set_plain X J hs (osa_X (s := { s with toks := s.toks + 1 }) (r := none) X J hp ht fun b => ?_)
  obtain ⟨cdt, hcd, hdc⟩ := any_some hh
  refine wpAny_bind (wpAny_pure (wpAny_bind (wpAny_bind (wpAny_loadPart hx (wpAny_bind (Looks.here (s := { s with toks := s.toks + 1 }) (looks_clsIn X hcd) ?_))))))
  rw [hdc]
  refine wpAny_pure (a := some dxa) (wpAny_bind (wpAny_pure (wpAny_bind ?_)))
  refine wpAny_nsSet1 (s := { s with toks := s.toks + 1 }) hn fun h' hn' hs' => ?_
  obtain ⟨oD, esD, epD, hoE, hdE, hcE⟩ := hn'.count (Within.cons nm v hw)
  refine wpAny_bind (wpAny_lookBehind hoE (by rw [hdE]; exact pastItsLine_dict (Nat.le_trans hcE (by rw [List.length_cons]; omega))) ?_)
  exact wpAny_pure (h h' hn' fun b o hbb q => (hs'.2 b hbb).trans q)
end
end PySem.W

namespace PySem.W
open PySem PySem.Spec PySem.Calls PyProof.Rows Builtin Builtin.ObjectAttr Builtin.Getset_descriptor
section
variable {prog : Program} {w : World} {A : Around} {K : Frag} {C x : Addr} {s : Shared} {E : Value → Shared → Prop} {ox : Obj} {od : Option Obj} {nm : Str} {v : Value} {Q : Value → Shared → Prop} {expr : Bool}
theorem gaX_call {h : Heap} {g : Array GenState} {d : Drawn} {t : Nat} {os : OsState} {tk : Tok} {R : Result → Shared → Prop} (X : K.In h) (I : InstAt h x ox C od) (hp : excOver K C = true) (hf : findObj K C od nm = some (.value v)) (hq : R (.ok (.ret v)) ⟨h, g, d, t, os⟩) :
    codeAny (model prog w) A (.call (.builtin "BaseException.__getattribute__") ⟨[.ref x, .str nm tk], []⟩) R ⟨h, g, d, t, os⟩ := by
  obtain ⟨cdt, hcd, hov⟩ := any_some hp
  have nem : cdt.mro.isEmpty = false := by cases q : cdt.mro with | nil => rw [q] at hov; cases hov | cons _ _ => rfl
  have sub : Looks (model prog w) h (isInstance (.ref x) (.type "BaseException")) true := I.type.andThen (looks_mroIn X (by unfold mroIn; rw [hcd, Option.bind_some, if_neg (by rw [nem]; decide), has_VE (by decide +kernel) hov]))
  have l0 := I.type (M := model prog w)
  have l1 := looks_find (M := model prog w) X I hf
  refine codeAny_call_builtin (by decide +kernel) PySem.F.entry_bexc_ga (@check_slot (model prog w) _ _ _ "BaseException.__getattribute__" "BaseException" "__getattribute__" (.ref x) [.str nm tk] [] _ (by decide +kernel) (by decide +kernel) sub (PySem.F.args_bexc_ga (.ref x) (.str nm tk)) ?_)
  refine wpAny_bind (wpAny_pure (wpAny_bind (wpAny_pure (wpAny_bind (l0.at (wpAny_bind (l1.at ?_)))))))
  exact wpAny_pure hq
theorem getX (X : K.In s.heap) (I : InstAt s.heap x ox C od) (hga : findIn K (.ref C) "__getattribute__" = some (some (.builtin "BaseException.__getattribute__"))) (hgn : findIn K (.ref C) "__getattr__" = some none) (hp : excOver K C = true)
    (hf : findObj K C od nm = some (.value v)) (hhd : handedIn v = true) (h : Q v { s with toks := s.toks + 1 }) : wpAny (model prog w) A (getAttr (.ref x) nm expr) Q E s := by
  obtain ⟨hp', g, d, t, os⟩ := s
  have l0 := I.type (M := model prog w)
  have l1 := looks_findIn (M := model prog w) X hga
  have l2 := looks_findIn (M := model prog w) X hgn
  have f3 : bindSpecial (.builtin "BaseException.__getattribute__") (.ref x) = pure (.builtin "BaseException.__getattribute__", [.ref x]) :=
    (Slot.of (T := "ValueError") (name := "__getattribute__") (owner := "BaseException") (n := "__getattribute__") (by rw [typeLookup_type, builtinLookup_eq_fast]; kernel_rfl) (by decide +kernel) (by decide +kernel) (by decide +kernel)
      (.inl (by decide +kernel)) (by rw [isSubtype_type]; kernel_rfl)).bind (.ref x)
  have hxo : (expr && onTheHeap (Value.builtin "BaseException.__getattribute__")) = false := by cases expr <;> rfl
  unfold getAttr getAttrBy
  refine wpAny_bind (wpAny_mkText (wpAny_holding (wpAny_bind (l0.at (wpAny_bind (l1.at ?_))))))
  have hx2 : (onTheHeap (Value.ref C) && Value.builtin "BaseException.__getattribute__" == Value.builtin "object.__getattribute__") = false := by
    rw [show (Value.builtin "BaseException.__getattribute__" == Value.builtin "object.__getattribute__") = false by decide +kernel, Bool.and_false]
  dsimp only at l0 l1 l2 X I h ⊢
  rw [hx2, if_neg Bool.false_ne_true]
  unfold getAttrByItsOwn
  refine wpAny_bind (l2.at ?_)
  repeat (any_goals first | assumption | wp_step)
  refine gaX_call X I hp hf ?_
  show wpAny (model prog w) A (handedOut v) _ _ _
  rw [handedOut_of hhd]; exact wpAny_pure h
end
end PySem.W

namespace L2
open PySem PyProof.Rows PySem.Spec PySem.Calls
/-! ### refusals: made and not raised; caught; their dicts -/
def XO (e C : Addr) (d : Option Addr) : HO := .ext fun h => ∃ t0, h.get? e = some ⟨.ref C, d, .fields #[.ref t0, .none, .none, .none, .bool false, .none], #[]⟩
def XC (e C : Addr) (d : Option Addr) : HO := .ext fun h => ∃ vs sl, h.get? e = some ⟨.ref C, d, .fields vs, sl⟩
def XD (a : Addr) (fs : List (Str × V)) : HO := .ext fun h => fs.length ≤ 1000 ∧ ∃ mA, h.Ns1 a mA ∧ (∀ f, RelO (fs.lookup f) (mA f)) ∧ PySem.Within mA (fs.map (·.1))
def IsX (H : Hp) (e C : Addr) (d : Option Addr) : Prop := H e = some (XO e C d) ∨ H e = some (XC e C d)
section
variable {P : Program} {w : World} {H : Hp} {h : Heap} {e C a : Addr} {d : Option Addr} {fs : List (Str × V)}
theorem xo_ok {t0 : Addr} (q : h.get? e = some ⟨.ref C, d, .fields #[.ref t0, .none, .none, .none, .bool false, .none], #[]⟩) : ObjOk P w H h e (XO e C d) :=
  ⟨⟨t0, q⟩, ⟨_, q⟩, fun _ _ ⟨t, z⟩ k => ⟨t, k _ z⟩⟩
theorem xc_ok {vs : Array Value} {sl : Array (Option Value)} (q : h.get? e = some ⟨.ref C, d, .fields vs, sl⟩) : ObjOk P w H h e (XC e C d) :=
  ⟨⟨vs, sl, q⟩, ⟨_, q⟩, fun _ _ ⟨v, s, z⟩ k => ⟨v, s, k _ z⟩⟩
theorem xd_ok {mA : Str → Option Value} (l : fs.length ≤ 1000) (n : h.Ns1 a mA) (r : ∀ f, RelO (fs.lookup f) (mA f)) (wi : PySem.Within mA (fs.map (·.1))) : ObjOk P w H h a (XD a fs) :=
  ⟨⟨l, mA, n, r, wi⟩, let ⟨o, _, _, q, _⟩ := n; ⟨o, q⟩, fun _ _ ⟨l, m, n, r, z⟩ k => ⟨l, m, n.at k, r, z⟩⟩
theorem xo_get (hok : HOk P w H h) (q : H e = some (XO e C d)) : ∃ t0, h.get? e = some ⟨.ref C, d, .fields #[.ref t0, .none, .none, .none, .bool false, .none], #[]⟩ :=
  (show ObjOk P w H h e (XO e C d) from hok e _ q).1
theorem x_get (hok : HOk P w H h) (q : IsX H e C d) : ∃ vs sl, h.get? e = some ⟨.ref C, d, .fields vs, sl⟩ := by
  rcases q with q | q
  · obtain ⟨t, z⟩ := xo_get hok q; exact ⟨_, _, z⟩
  · exact (show ObjOk P w H h e (XC e C d) from hok e _ q).1
theorem xd_get (hok : HOk P w H h) (q : H a = some (XD a fs)) : fs.length ≤ 1000 ∧ ∃ mA, h.Ns1 a mA ∧ (∀ f, RelO (fs.lookup f) (mA f)) ∧ PySem.Within mA (fs.map (·.1)) :=
  (show ObjOk P w H h a (XD a fs) from hok a _ q).1
end
/-- what a class of refusals must have -/
structure ClsX (K : PySem.W.Frag) (C : Addr) : Prop where
  hd : PySem.W.hasDictIn K C = true
  po : PySem.W.excOver K C = true
  sa : PySem.W.findIn K (.ref C) "__setattr__" = some (some (.builtin "object.__setattr__"))
  ga : PySem.W.findIn K (.ref C) "__getattribute__" = some (some (.builtin "BaseException.__getattribute__"))
  gn : PySem.W.findIn K (.ref C) "__getattr__" = some none
section
variable {X : Cx} {pins : List (Addr × Obj)} {σ : St} {H : Hp} {s : Shared} {a C dx : Addr} {d : Option Addr} {fs : List (Str × V)} {f : Str} {v y : V} {u : Value} {A : Around} {E : Value → Shared → Prop}
theorem getX_ok {b : Bool} {Q : Value → Shared → Prop} (I : Inv X pins σ H s) (e : IsX H a C (some dx)) (ed : H dx = some (XD dx fs)) (c : ClsX X.K C) (n : NoAttr X.K C f) (l : fs.lookup f = some v)
    (h : ∀ u s', Inv X pins σ H s' → RelV v u → Q u s') : wpAny (model X.prog X.w) A (getAttr (.ref a) f b) Q E s := by
  obtain ⟨vs, sl, hx⟩ := x_get I.hok e
  obtain ⟨_, mA, hn, r, _⟩ := xd_get I.hok ed
  obtain ⟨u, hu, ru⟩ := RelO.some_of (v := v) (o := mA f) (by rw [← l]; exact r f)
  obtain ⟨od, ho, hl⟩ := lookIn_ns hn
  exact PySem.W.getX I.kIn (ox := ⟨.ref C, some dx, .fields vs, sl⟩) (od := some od) ⟨hx, rfl, rfl, ho⟩ c.ga c.gn c.po (PySem.W.findObj_own c.hd n rfl (by rw [hl, hu])) (handed_of ru) (h u _ (I.tok _) ru)
theorem setX1_ok {Q : Unit → Shared → Prop} (I : Inv X pins σ H s) (e : H a = some (XO a C none)) (c : ClsX X.K C) (n : NoAttr X.K C f) (ry : RelV y u)
    (h : ∀ dx s', H dx = none → dx ≠ a → Inv X pins σ (upd (upd H dx (XD dx [(f, y)])) a (XO a C (some dx))) s' → Q () s') : wpAny (model X.prog X.w) A (setAttr (.ref a) f u) Q E s := by
  obtain ⟨t0, hx⟩ := xo_get I.hok e
  refine PySem.W.setX_new I.kIn hx c.sa c.po n.taker c.hd fun h' h1 h2 h3 => ?_
  have hf := I.hok.fresh (Nat.le_refl s.heap.objs.size)
  have hne : s.heap.objs.size ≠ a := fun z => by rw [z, e] at hf; cases hf
  obtain ⟨od, es, ep, q1, q2, q3⟩ := id h2
  have hfr : od.isFreed = false := (Heap.get?_some_iff.mp q1).2
  have g1 : (s.heap.push od).get? s.heap.objs.size = some od := Heap.get?_push_size s.heap hfr
  have I1 : Inv X pins σ (upd H s.heap.objs.size (XD s.heap.objs.size [(f, y)])) { s with heap := s.heap.push od, toks := s.toks } := by
    refine I.laid (fun b o q => Heap.get?_push_of_some _ q) (Nat.le_refl _) (xd_ok (by simp) (h2.at fun o q => ?_) (fun g => ?_) (fun g hg => ?_))
    · rw [q1] at q; cases q; exact g1
    · show RelO ([(f, y)].lookup g) (if g = f then some u else none)
      by_cases z : g = f
      · have hb : (g == f) = true := beq_iff_eq.mpr z
        simp only [List.lookup, hb, if_pos z]; exact ry
      · have hb : (g == f) = false := beq_eq_false_iff_ne.mpr z
        simp only [List.lookup, hb, if_neg z]; exact True.intro
    · by_cases z : g = f
      · rw [z]; exact .head _
      · exact absurd (if_neg z) hg
  refine h s.heap.objs.size _ hf hne (I1.write (x := a) (e := a) (t' := s.toks + 2) (h' := h') (by rw [upd_ne (Ne.symm hne), e]; exact True.intro) (.inl rfl) (fun b o hb q => ?_) ⟨_, h1⟩ (xo_ok h1))
  by_cases z : b = s.heap.objs.size
  · subst z; rw [g1] at q; cases q; exact q1
  · have hb' : s.heap.get? b = some o := by rw [← q]; exact (Heap.get?_push_ne _ _ _ z).symm
    exact h3 b o hb hb'
theorem setX2_ok {Q : Unit → Shared → Prop} (I : Inv X pins σ H s) (e : IsX H a C (some dx)) (ed : H dx = some (XD dx fs)) (hne : dx ≠ a) (c : ClsX X.K C) (n : NoAttr X.K C f) (hl : fs.length < 1000) (ry : RelV y u)
    (h : ∀ s', Inv X pins σ (upd H dx (XD dx (putF f y fs))) s' → Q () s') : wpAny (model X.prog X.w) A (setAttr (.ref a) f u) Q E s := by
  obtain ⟨vs, sl, hx⟩ := x_get I.hok e
  obtain ⟨_, mA, hn, r, wi⟩ := xd_get I.hok ed
  refine PySem.W.setX_old I.kIn hx hn hne c.sa c.po n.taker c.hd wi (by rw [List.length_map, sizeLine_eq]; omega) fun h' h1 h2 => h _ ?_
  refine I.write (x := dx) (e := dx) (by rw [ed]; exact True.intro) (.inl rfl) h2 (let ⟨o, _, _, q, _⟩ := h1; ⟨o, q⟩) (xd_ok ?_ h1 (fun g => ?_) (fun g hg => ?_))
  · have := length_putF f y fs; omega
  · show RelO ((putF f y fs).lookup g) (if g = f then some u else mA g)
    rw [lookup_putF]
    by_cases q : g = f
    · rw [if_pos q, if_pos q]; exact ry
    · rw [if_neg q, if_neg q]; exact r g
  · by_cases q : g = f
    · rw [q]; exact (keys_putF f y fs).1
    · refine (keys_putF f y fs).2 g (wi g fun z => hg ?_)
      show (if g = f then some u else mA g) = none
      rw [if_neg q]; exact z
end
end L2

namespace PySem.W
open PySem PySem.Spec PySem.Calls PyProof.Rows Builtin Builtin.ObjectAttr Builtin.Getset_descriptor
section
variable {prog : Program} {w : World} {A : Around} {K : Frag} {C x t0 : Addr} {s : Shared} {E : Value → Shared → Prop} {od : Option Addr} {Q : Value → Shared → Prop}
/-- ValueError.__init__(self, ..): the arguments' tuple anew -/
theorem initX {us : List Value} (X : K.In s.heap) (hx : s.heap.get? x = some ⟨.ref C, od, .fields #[.ref t0, .none, .none, .none, .bool false, .none], #[]⟩) (e : excMk K C = true) (hz : us.length ≤ sizeLine)
    (h : ∀ h', h'.get? x = some ⟨.ref C, od, .fields #[.ref s.heap.objs.size, .none, .none, .none, .bool false, .none], #[]⟩ → (∀ b o, b ≠ x → s.heap.get? b = some o → h'.get? b = some o) → Q .none { s with heap := h' }) :
    wpAny (model prog w) A (call (.builtin "ValueError.__init__") (.ref x :: us)) Q E s := by
  obtain ⟨bm, ⟨N, nm, q, bs, hdct, sn, sub, ab, col, dd, k0, k1, k2, k3, k5, hC⟩, T⟩ := excMk_obj X e
  have FB := PySem.F.excBase_ValueError
  obtain ⟨hp, g, d, t, os⟩ := s
  refine wpAny_call (codeAny_call_builtin FB.init.plain FB.initEntry (wpAny_check_init_subT FB T hC hx rfl ?_))
  delta Builtin.«BaseException.__init__»
  dsimp only
  rw [if_neg (by simp)]
  unfold Builtin.BaseException.bexcPut newTuple
  have hx1 := Heap.get?_push_of_some (h := hp) { cls := .type "tuple", data := .seq us.toArray } hx
  refine wpAny_bind (wpAny_newObj_type (wpAny_bind (wpAny_bind (wpAny_field hx1 rfl rfl (wpAny_bind (wpAny_setField hx1 rfl (by show 0 < 6; decide) ?_))))) (by show us.toArray.size ≤ sizeLine; rw [List.size_toArray]; exact hz))
  refine wpAny_letGo (wpAny_pure (h _ ?_ fun b o hb hq => ?_))
  · rw [Heap.get?_update_self _ hx1 rfl]
    rfl
  · exact (Heap.get?_update_ne _ _ _ _ hb).trans (Heap.get?_push_of_some _ hq)
end
end PySem.W

namespace PySem.W
open PySem PySem.Spec PySem.Calls PyProof.Rows Builtin Builtin.ObjectAttr Builtin.Getset_descriptor
section
variable {prog : Program} {w : World} {A : Around} {K : Frag} {C x : Addr} {s : Shared} {E : Value → Shared → Prop} {ox : Obj} {od : Obj}
structure ClsAt (K : Frag) (C : Addr) : Prop where
  hd : hasDictIn K C = true
  po : excOver K C = true
  ga : findIn K (.ref C) "__getattribute__" = some (some (.builtin "BaseException.__getattribute__"))
  gn : findIn K (.ref C) "__getattr__" = some none
  ca : findIn K (.ref C) "__class__" = some (some (.builtin "object.__class__"))
  cn : specialIn K (.builtin "object.__class__") "__get__" = some (some (.builtin "getset_descriptor.__get__"))
  ct : takesIn K (.builtin "object.__class__") = some true
theorem excOver_has {b : String} (hp : excOver K C = true) (hb : veMro.contains (.type b) = true) : mroIn K C (.type b) = some true := by
  obtain ⟨cdt, hcd, hov⟩ := any_some hp
  have nem : cdt.mro.isEmpty = false := by cases q : cdt.mro with | nil => rw [q] at hov; cases hov | cons _ _ => rfl
  unfold mroIn; rw [hcd, Option.bind_some, if_neg (by rw [nem]; decide), has_VE hb hov]
theorem clsX_call {h : Heap} {g : Array GenState} {d : Drawn} {t : Nat} {os : OsState} {tk : Tok} {R : Result → Shared → Prop} (X : K.In h) (I : InstAt h x ox C (some od)) (c : ClsAt K C) (hq : R (.ok (.ret (.ref C))) ⟨h, g, d, t, os⟩) :
    codeAny (model prog w) A (.call (.builtin "BaseException.__getattribute__") ⟨[.ref x, .str "__class__" tk], []⟩) R ⟨h, g, d, t, os⟩ := by
  have hf : findObj K C (some od) "__class__" = some (.bind (.builtin "getset_descriptor.__get__") (.builtin "object.__class__")) := by
    have := findObj_data (K := K) (C := C) (od := od) (name := "__class__") (by obtain ⟨cdt, hcd, _⟩ := any_some c.hd; rw [hcd]; rfl) c.ca c.cn c.ct
    exact this
  have sub : Looks (model prog w) h (isInstance (.ref x) (.type "BaseException")) true := I.type.andThen (looks_mroIn X (excOver_has c.po (by decide +kernel)))
  have l0 := I.type (M := model prog w)
  have l1 := looks_find (M := model prog w) X I hf
  refine codeAny_call_builtin (by decide +kernel) PySem.F.entry_bexc_ga (@check_slot (model prog w) _ _ _ "BaseException.__getattribute__" "BaseException" "__getattribute__" (.ref x) [.str "__class__" tk] [] _ (by decide +kernel) (by decide +kernel) sub (PySem.F.args_bexc_ga (.ref x) (.str "__class__" tk)) ?_)
  refine wpAny_bind (wpAny_pure (wpAny_bind (wpAny_pure (wpAny_bind (l0.at (wpAny_bind (l1.at ?_)))))))
  show wpAny _ _ (holding [Value.builtin "object.__class__"] (call (.builtin "getset_descriptor.__get__") [.builtin "object.__class__", .ref x, .ref C]) >>= ret) _ _ _
  refine wpAny_bind (wpAny_holding (wpAny_call ?_))
  refine class_get (s := ⟨h, g, d, t, os⟩) (ox := ox) (od := some od) X I (excOver_has c.po (by decide +kernel)) ?_
  exact wpAny_pure hq
theorem getX_class {Q : Option Value → Shared → Prop} (X : K.In s.heap) (I : InstAt s.heap x ox C (some od)) (c : ClsAt K C) (h : Q (some (.ref C)) { s with toks := s.toks + 1 }) : wpAny (model prog w) A (getAttr? (.ref x) "__class__") Q E s := by
  obtain ⟨hp', g, d, t, os⟩ := s
  have l0 := I.type (M := model prog w)
  have l1 := looks_findIn (M := model prog w) X c.ga
  have l2 := looks_findIn (M := model prog w) X c.gn
  have f3 : bindSpecial (.builtin "BaseException.__getattribute__") (.ref x) = pure (.builtin "BaseException.__getattribute__", [.ref x]) :=
    (Slot.of (T := "ValueError") (name := "__getattribute__") (owner := "BaseException") (n := "__getattribute__") (by rw [typeLookup_type, builtinLookup_eq_fast]; kernel_rfl) (by decide +kernel) (by decide +kernel) (by decide +kernel)
      (.inl (by decide +kernel)) (by rw [isSubtype_type]; kernel_rfl)).bind (.ref x)
  have hx0 : (false && onTheHeap (Value.builtin "BaseException.__getattribute__")) = false := rfl
  have hx2 : (onTheHeap (Value.ref C) && Value.builtin "BaseException.__getattribute__" == Value.builtin "object.__getattribute__") = false := by
    rw [show (Value.builtin "BaseException.__getattribute__" == Value.builtin "object.__getattribute__") = false by decide +kernel, Bool.and_false]
  unfold getAttr? getAttrBy?
  unfold getAttrBy
  refine wpAny_bind (wpAny_mkText (wpAny_bind (wpAny_attempt (wpAny_holding (wpAny_bind (l0.at (wpAny_bind (l1.at ?_))))))))
  dsimp only at l0 l1 l2 X I h ⊢
  rw [hx2, if_neg Bool.false_ne_true]
  unfold getAttrByItsOwn
  refine wpAny_bind (l2.at ?_)
  repeat (any_goals first | assumption | wp_step)
  refine clsX_call X I c ?_
  show wpAny _ _ (handedOut (Value.ref C)) _ _ _
  rw [handedOut_of rfl]
  exact (wpAny_pure (wpAny_pure h))
theorem kitx_X (c : ClsAt K C) : KitX K (.ref x) (.ref C) (fun h => InstAt h x ox C (some od)) where
  ty := fun _ _ _ I => I.type
  it := fun _ _ X _ => by
    obtain ⟨cdD, hcE, _⟩ := any_some c.hd
    unfold clsIn at hcE
    split at hcE
    · rename_i c' d' cd' sl' hov
      intro A' Q' E' s' k q
      unfold isType loadHead
      exact wpAny_bind (wpAny_loadPart (k _ _ (X _ _ hov)) (wpAny_pure q))
    · cases hcE
  ne := fun h tp dd its n sl X htq => by
    obtain ⟨cdD, hcE, _⟩ := any_some c.hd
    refine Bool.eq_false_iff.mpr fun qq => ?_
    have e : C = tp := Value.ref.inj (beq_iff_eq.mp qq)
    subst e
    unfold clsIn at hcE
    split at hcE
    · rename_i c' d' cd' sl' hov
      have z := (X _ _ hov).symm.trans htq
      cases z
    · cases hcE
  ca := fun X I k => getX_class X I c k
end
end PySem.W

namespace L2
open PySem PyProof.Rows PySem.Spec PySem.Calls
theorem ClsX.at {K : PySem.W.Frag} {C : Addr} (c : ClsX K C) (ca : PySem.W.findIn K (.ref C) "__class__" = some (some (.builtin "object.__class__")))
    (cn : PySem.W.specialIn K (.builtin "object.__class__") "__get__" = some (some (.builtin "getset_descriptor.__get__"))) (ct : PySem.W.takesIn K (.builtin "object.__class__") = some true) : PySem.W.ClsAt K C :=
  ⟨c.hd, c.po, c.ga, c.gn, ca, cn, ct⟩
theorem upd_self {H : Hp} {a : Addr} {o : HO} (e : H a = some o) : upd H a o = H := by
  funext b
  unfold upd
  by_cases q : b = a
  · rw [if_pos q, q, e]
  · rw [if_neg q]
/-- what a class of refusals must have to be made -/
structure MkX (K : PySem.W.Frag) (C f : Addr) : Prop where
  makes : PySem.W.excMk K C = true
  init : PySem.W.findIn K (.ref C) "__init__" = some (some (.ref f))
  fn : PySem.W.isFn K (.ref f) = true
  kp : PySem.W.keepIn K (.ref C) = true
def tMakeX (C : Addr) (sp : Sp) (E : XK) (t : TA) : TE := fun σ H Q => t σ H fun vs H1 => ∀ x, H1 x = none → sp (.ref x :: vs) (upd H1 x (XO x C none)) (fun v H2 => v = .non ∧ Q (.ref x) H2) E
section
variable {X : Cx} {CX : CXT} {k : Nat} {f C : Addr} {fd : FuncData} {ps : List Str} {sp : Sp} {E : XK} {x m : Str} {p pos apos : Pos} {e o : Expr} {es : List Expr} {ta : TE} {t : TA}
theorem Inv.madeX {pins : List (Addr × Obj)} {σ : St} {H : Hp} {s : Shared} {us : List Value} (I : Inv X pins σ H s) :
    Inv X pins σ (upd H (s.heap.objs.size + 1) (XO (s.heap.objs.size + 1) C none)) { s with heap := (s.heap.push (PySem.W.excTup us)).push (PySem.W.excNew C s.heap.objs.size) } := by
  have e2 : ((s.heap.push (PySem.W.excTup us)).push (PySem.W.excNew C s.heap.objs.size)).get? (s.heap.objs.size + 1) = some (PySem.W.excNew C s.heap.objs.size) := by
    have := Heap.get?_push_size (s.heap.push (PySem.W.excTup us)) (o := PySem.W.excNew C s.heap.objs.size) rfl
    rwa [Heap.size_push] at this
  have I1 := I.kept (h' := s.heap.push (PySem.W.excTup us)) (t' := s.toks) (fun b u q => Heap.get?_push_of_some _ q)
  exact I1.laid (a := s.heap.objs.size + 1) (t' := s.toks) (fun b u q => Heap.get?_push_of_some _ q) (Nat.le_of_eq (Heap.size_push _ _)) (xo_ok e2)
theorem run_makeX {pins : List (Addr × Obj)} {σ : St} {H : Hp} {s : Shared} {Q : VK} {us : List Value} {vs : List V} (M : MkX X.K C f) (F : FnOk X.prog X.w X.K X.mg X.base CX k f fd ps sp) (hr : Room (k + 1) X.A) (hb : Binds X.K fd ps [])
    (hx : Passes CX X E) (hz : ps.length ≤ 1000) (I : Inv X pins σ H s) (r : Vals vs us)
    (h : ∀ x, H x = none → sp (.ref x :: vs) (upd H x (XO x C none)) (fun v H2 => v = .non ∧ Q (.ref x) H2) E) :
    wpAny (model X.prog X.w) X.A (call (.ref C) us) (EP X pins σ Q) X.xe s := by
  have hq := h (s.heap.objs.size + 1) (I.hok.fresh (Nat.le_succ _))
  have I2 := Inv.madeX (C := C) (us := us) I
  have r2 : Vals (V.ref (s.heap.objs.size + 1) :: vs) (Value.ref (s.heap.objs.size + 1) :: us) := .cons rfl r
  have hl : (Value.ref (s.heap.objs.size + 1) :: us).length = ps.length := by
    have e := r2.length
    rw [F.len _ _ _ _ hq] at e
    exact e.symm
  have hb2 := hb { s with heap := (s.heap.push (PySem.W.excTup us)).push (PySem.W.excNew C s.heap.objs.size) } (Value.ref (s.heap.objs.size + 1) :: us) I2.kIn (by rw [List.append_nil]; exact hl)
  rw [List.append_nil] at hb2
  refine wpAny_call (PySem.W.make_X (f := f) I.kIn M.makes M.init (beq_iff_eq.mp M.fn) (by rw [List.length_cons] at hl; rw [sizeLine_eq]; omega) (codeAny_mono (F.run _ X.stack _ _ ⟨Value.ref (s.heap.objs.size + 1) :: us, []⟩ (Value.ref (s.heap.objs.size + 1) :: us) _ _ E (hr.make C us [])
    (I2.env0.make C us []) hb2 r2 hq) fun r s' hq' => ?_))
  cases r with
  | error e => exact hx pins σ _ _ e s' I2 hq'
  | ok fl =>
    cases fl with
    | ret u =>
      obtain ⟨v, H', I3, rv, ev, q3⟩ := I2.after hq'
      subst ev
      exact ⟨rv, ⟨V.ref (s.heap.objs.size + 1), H', I3, rfl, q3⟩⟩
    | next => exact False.elim hq'
    | brk => exact False.elim hq'
    | cont => exact False.elim hq'
theorem pe_makeX (M : MkX X.K C f) (F : FnOk X.prog X.w X.K X.mg X.base CX k f fd ps sp) (hr : Room (k + 1) X.A) (hg : Gl X x) (hm : X.mg x = some (.ref C)) (hb : Binds X.K fd ps []) (hx : Passes CX X E) (hz : ps.length ≤ 1000)
    (ha : PA X (e :: es) t) (hdb : (x == ("__debug__" : Str)) = false := by decide) (he : starEach (e :: es) X.env = (false, eval e X.env) :: starEach es X.env := by rfl) (hpl : (backTo pos (starEach es X.env)).any (·.1) = false := by rfl) :
    PE X (.Call (.Name x p) (e :: es) [] pos) (tMakeX C sp E t) := by
  intro pins s σ H Q I h
  refine wpAny_Call_Name_kw (ld_glob I hg hm ?_ hdb)
  refine PySem.W.callWith_K (h₀ := X.base) I.ok.mod.kin M.kp (thn (ha pos pins s σ H _ I h) fun us s1 ⟨vs, H1, I1, r, q⟩ => ⟨I1.kIn, ?_⟩) he hpl
  exact run_makeX M F hr hb hx hz I1 r q
/-- Base.__init__(self, ..), Base an own class of refusals without an __init__ of its own -/
structure InX (K : PySem.W.Frag) (B : Addr) : Prop where
  sp : PySem.W.specialIn K (.ref B) "__getattribute__" = some (some (.builtin "type.__getattribute__"))
  rd : PySem.W.readsIn K B (.type "type") = true
  fc : PySem.W.findCls K (.ref B) (.type "type") "__init__" = some (.val (.builtin "ValueError.__init__"))
def tInX (K : PySem.W.Frag) (t : TA) : TE := fun σ H Q => t σ H fun vs H1 => ∃ a C d xs, vs = .ref a :: xs ∧ xs.length ≤ 1000 ∧ H1 a = some (XO a C d) ∧ PySem.W.excMk K C = true ∧ Q .non H1
theorem pe_initX {B : Addr} {pl : Sem Bool} (J : InX X.K B) (hg : Gl X x) (hm : X.mg x = some (.ref B)) (ha : PA X (e :: es) t) (hdb : (x == ("__debug__" : Str)) = false := by decide)
    (hst : starEach (e :: es) X.env = (false, eval e X.env) :: starEach es X.env := by rfl) (hpl : (backTo pos (starEach es X.env)).any (·.1) = false := by rfl)
    (ht : eval (.Call (.Attribute (.Name x p) "__init__" apos) (e :: es) [] pos) X.env = (do
      let ov ← eval (.Name x p) X.env
      standAt apos.atName
      let (f, first) ← holding [ov] (getMethod ov "__init__" pl)
      callWith pos f first (backTo pos (starEach (e :: es) X.env)) (backToKw pos (keywordEach [] X.env))) := by rfl) :
    PE X (.Call (.Attribute (.Name x p) "__init__" apos) (e :: es) [] pos) (tInX X.K t) := by
  intro pins s σ H Q I h
  refine PySem.W.methodCall_KW (pl := pl) (ld_glob I hg hm ?_ hdb) ht
  refine PySem.W.method_cls I.kIn J.sp (PySem.W.cls_value I.kIn J.rd J.fc rfl ?_)
  have hA := ha pos pins _ σ H _ (I.tok (s.toks + 1)) h
  show wpAny _ _ (callWith pos (.builtin "ValueError.__init__") [] (backTo pos (starEach (e :: es) X.env)) []) _ _ _
  rw [hst] at hA ⊢
  refine Calls.callWith_builtin (by show (false || (backTo pos (starEach es X.env)).any (·.1)) = false; rw [hpl] <;> rfl) (Calls.evalArgs_plain ?_)
  refine thn hA fun us s2 ⟨vs, H2, I2, r2, a, C, d, xs, ev, hl, ea, mk, q⟩ => ?_
  subst ev
  cases r2 with
  | cons ru rr =>
    cases ru
    obtain ⟨t0, hx⟩ := xo_get I2.hok ea
    refine PySem.W.initX I2.kIn hx mk (by rw [← rr.length, sizeLine_eq]; omega) fun h' h1 h2 => ⟨.non, H2, ?_, rfl, q⟩
    have := I2.write (x := a) (e := a) (o := XO a C d) (t' := s2.toks) (h' := h') (by rw [ea]; exact True.intro) (.inl rfl) h2 ⟨_, h1⟩ (xo_ok h1)
    rwa [upd_self ea] at this
end
end L2

namespace L2
open PySem PyProof.Rows PySem.Spec PySem.Calls
/-! ### a refusal with its values, whatever the addresses -/
def XF (H : Hp) (e C : Addr) (fs : List (Str × V)) : Prop := ∃ dx, H e = some (XO e C (some dx)) ∧ H dx = some (XD dx fs) ∧ dx ≠ e
theorem XF.keep {H H' : Hp} {e C : Addr} {fs : List (Str × V)} (x : XF H e C fs) (k : Same H H') : XF H' e C fs := let ⟨d, a, b, c⟩ := x; ⟨d, k _ _ a, k _ _ b, c⟩
theorem XF.upd {H : Hp} {e C p : Addr} {fs : List (Str × V)} {o : HO} (x : XF H e C fs) (k : ∀ φ, H p ≠ some (.ext φ)) : XF (L2.upd H p o) e C fs := by
  obtain ⟨d, a, b, c⟩ := x
  have h1 : e ≠ p := fun z => k _ (by rw [← z]; exact a)
  have h2 : d ≠ p := fun z => k _ (by rw [← z]; exact b)
  exact ⟨d, by rw [upd_ne h1]; exact a, by rw [upd_ne h2]; exact b, c⟩
def sFldX (K : PySem.W.Frag) (ta tv : TE) (f : Str) : TS := fun D σ H => tv σ H fun y H1 => ta σ H1 fun x H2 =>
  (∃ a C, x = .ref a ∧ H2 a = some (XO a C none) ∧ ClsX K C ∧ NoAttr K C f ∧ ∀ dx, H2 dx = none → dx ≠ a → D.nx σ (upd (upd H2 dx (XD dx [(f, y)])) a (XO a C (some dx)))) ∨
  (∃ a C dx fs, x = .ref a ∧ IsX H2 a C (some dx) ∧ H2 dx = some (XD dx fs) ∧ dx ≠ a ∧ ClsX K C ∧ NoAttr K C f ∧ fs.length < 1000 ∧ D.nx σ (upd H2 dx (XD dx (putF f y fs))))
def tFldX (K : PySem.W.Frag) (ta : TE) (f : Str) : TE := fun σ H Q => ta σ H fun x H1 => ∃ a C fs v, x = .ref a ∧ XF H1 a C fs ∧ ClsX K C ∧ NoAttr K C f ∧ fs.lookup f = some v ∧ Q v H1
/-- isinstance(e, C) of a refusal -/
structure ClsI (K : PySem.W.Frag) (C : Addr) : Prop where
  c : ClsX K C
  ca : PySem.W.findIn K (.ref C) "__class__" = some (some (.builtin "object.__class__"))
  cn : PySem.W.specialIn K (.builtin "object.__class__") "__get__" = some (some (.builtin "getset_descriptor.__get__"))
  ct : PySem.W.takesIn K (.builtin "object.__class__") = some true
def clV : V → Value
  | .ref a => .ref a
  | .ty n => .type n
  | _ => .none
def rIsX (K : PySem.W.Frag) : List V → Hp → VK → Prop := fun xs H Q => ∃ a C fs c b, xs = [.ref a, c] ∧ XF H a C fs ∧ ClsI K C ∧ (∀ u, RelV c u → u = clV c) ∧ PySem.W.kitOne K (.ref C) (clV c) = some b ∧ Q (.bl b) H
/-- d.update(e), two dicts of ints and texts -/
def rUpd : V → List V → Hp → VK → Prop := fun x vs H Q => ∃ d e kvs more, x = .ref d ∧ vs = [.ref e] ∧ H d = some (.dK kvs) ∧ H e = some (.dK more) ∧ d ≠ e ∧ kvs.length + more.length ≤ 1000 ∧ Q .non (upd H d (.dK (mergeK kvs more)))
section
variable {X : Cx} {o e value : Expr} {f : Str} {pos pos' tpos : Pos} {ta tv : TE}
theorem ps_fldX (ha : PE X o ta) (hv : PE X value tv) (hs : swapsWith value (some (.Attribute o f pos')) pos.line X.env = pure false) : PS X (.Assign [.Attribute o f pos'] value pos) (sFldX X.K ta tv f) := by
  intro pins s σ H D I h
  refine plainObj_wpAny_Assign_Attribute (thn (hv pins s σ H _ I h) fun u s1 ⟨y, H1, I1, ry, q⟩ => thn (ha pins s1 σ H1 _ I1 q) fun ov s2 ⟨x, H2, I2, rx, q2⟩ => ?_) hs
  rcases q2 with ⟨a, C, ex, ea, c, n, q3⟩ | ⟨a, C, dx, fs, ex, ea, ed, ne, c, n, l, q3⟩
  · subst ex
    obtain rfl : ov = Value.ref a := rx
    exact setX1_ok I2 ea c n ry fun dx s3 h1 h2 I3 => ⟨σ, _, I3, q3 dx h1 h2⟩
  · subst ex
    obtain rfl : ov = Value.ref a := rx
    exact setX2_ok I2 ea ed ne c n l ry fun s3 I3 => ⟨σ, _, I3, q3⟩
end
end L2

namespace L2
open PySem PyProof.Rows PySem.Spec PySem.Calls
/-! ### equality of lists and tuples within each other, where they are equal -/
def Deq (K : PySem.W.Frag) (H : Hp) : Nat → V → V → Prop
  | 0, x, y => x = y ∧ flatV x = true
  | n + 1, x, y => (x = y ∧ flatV x = true) ∨ ∃ a b xs ys, x = .ref a ∧ y = .ref b ∧ ((SqL K H a xs ∧ SqL K H b ys) ∨ (SqT K H a xs ∧ SqT K H b ys)) ∧ xs.length = ys.length ∧ ∀ j, j < xs.length → Deq K H n (xs.getD j .non) (ys.getD j .non)
theorem deq_eqAt {X : Cx} {pins : List (Addr × Obj)} {σ : St} {H : Hp} {s : Shared} (I : Inv X pins σ H s) : ∀ (n : Nat) (A : Around) (x y : V) (u v : Value), A.units + n < cLine → Deq X.K H n x y → RelV x u → RelV y v → SeqAt.EqAt A s u v true
  | 0, A, x, y, u, v, _, ⟨e, f⟩, rx, ry => by
    subst e
    have := eqAt_V (A := A) (s := s) rx ry f f
    rwa [eqV_refl f] at this
  | n + 1, A, x, y, u, v, hu, h, rx, ry => by
    rcases h with ⟨e, f⟩ | ⟨a, b, xs, ys, rfl, rfl, hs, hl, he⟩
    · subst e
      have := eqAt_V (A := A) (s := s) rx ry f f
      rwa [eqV_refl f] at this
    · cases rx
      cases ry
      by_cases hab : a = b
      · subst hab; exact SeqAt.EqAt.same _
      have hu1 : A.in1.units + n < cLine := by
        have : A.in1.units = A.units + 1 := by first | rfl | exact Around.units_in1 A
        omega
      refine SeqAt.EqAt.of_refs hab ?_
      rcases hs with ⟨h1, h2⟩ | ⟨h1, h2⟩
      · obtain ⟨its, r1, l1, _⟩ := I.list h1
        obtain ⟨jts, r2, l2, _⟩ := I.list h2
        have e1 := r1.length
        have e2 := r2.length
        have := SeqAt.RcAt.lists (A := A) (e := fun _ => true) l1.isList l2.isList (by simp; omega) (by omega) (fun j q1 q2 => deq_eqAt I n A.in1 _ _ _ _ hu1 (he j (by simp at q1; omega)) (vals_at r1 j q1) (vals_at r2 j q2))
        rwa [show (List.range its.toArray.size).all (fun _ => true) = true from List.all_eq_true.mpr fun _ _ => rfl] at this
      · obtain ⟨its, r1, l1, _⟩ := I.tuple h1
        obtain ⟨jts, r2, l2, _⟩ := I.tuple h2
        have e1 := r1.length
        have e2 := r2.length
        have := SeqAt.RcAt.tuples (A := A) (e := fun _ => true) l1 l2 (by omega) (fun j q1 q2 => deq_eqAt I n A.in1 _ _ _ _ hu1 (he j (by simp at q1; omega)) (vals_at r1 j q1) (vals_at r2 j q2))
        rw [show (List.range (min its.toArray.size jts.toArray.size)).all (fun _ => true) = true from List.all_eq_true.mpr fun _ _ => rfl, Bool.true_and, beq_iff_eq.mpr (by simp; omega)] at this
        exact this
def rEqD (K : PySem.W.Frag) (n : Nat) : R2 := fun x y H Q => ∃ a b xs ys, x = .ref a ∧ y = .ref b ∧ SqL K H a xs ∧ SqL K H b ys ∧ xs.length = ys.length ∧ (∀ j, j < xs.length → Deq K H n (xs.getD j .non) (ys.getD j .non)) ∧ Q (.bl true) H
/-! ### a class of refusals, all in one -/
structure MkXD (P : Program) (w : World) (K : PySem.W.Frag) (mg : Str → Option Value) (base : Heap) (k : Nat) (x : Str) (C : Addr) (ps : List Str) (sp : Sp) : Prop where
  ex : ∃ f fd, MkX K C f ∧ FnOk P w K mg base CX0 k f fd ps sp ∧ Binds K fd ps [] ∧ mg x = some (.ref C)
  few : ps.length ≤ 1000
theorem pe_makeXD {X : Cx} {k : Nat} {x : Str} {C : Addr} {ps : List Str} {sp : Sp} {e : Expr} {es : List Expr} {t : TA} {p pos : Pos} (D : MkXD X.prog X.w X.K X.mg X.base k x C ps sp) (hr : Room (k + 1) X.A) (hg : Gl X x) (ha : PA X (e :: es) t) (hdb : (x == ("__debug__" : Str)) = false := by decide)
    (he : starEach (e :: es) X.env = (false, eval e X.env) :: starEach es X.env := by rfl) (hpl : (backTo pos (starEach es X.env)).any (·.1) = false := by rfl) : PE X (.Call (.Name x p) (e :: es) [] pos) (tMakeX C sp E0 t) := by
  obtain ⟨f, fd, M, F, b, m⟩ := D.ex
  exact pe_makeX M F hr hg m b pass0 D.few ha hdb he hpl
/-- what is seen of a class of refusals -/
def xcls (K : PySem.W.Frag) (C : Addr) (fs : List Str) : Bool :=
  PySem.W.hasDictIn K C && PySem.W.excOver K C && PySem.W.findIn K (.ref C) "__setattr__" == some (some (.builtin "object.__setattr__")) && PySem.W.findIn K (.ref C) "__getattribute__" == some (some (.builtin "BaseException.__getattribute__")) &&
  PySem.W.findIn K (.ref C) "__getattr__" == some none && PySem.W.findIn K (.ref C) "__class__" == some (some (.builtin "object.__class__")) && fs.all fun f => PySem.W.findIn K (.ref C) f == some none
structure XCl (K : PySem.W.Frag) (C : Addr) (fs : List Str) : Prop where
  i : ClsI K C
  n : ∀ f ∈ fs, NoAttr K C f
  m : PySem.W.excMk K C = true
theorem XCl.of {K : PySem.W.Frag} {C : Addr} {fs : List Str} (h : xcls K C fs = true) (m : PySem.W.excMk K C = true) (cn : PySem.W.specialIn K (.builtin "object.__class__") "__get__" = some (some (.builtin "getset_descriptor.__get__"))) (ct : PySem.W.takesIn K (.builtin "object.__class__") = some true) : XCl K C fs := by
  unfold xcls at h
  simp only [Bool.and_eq_true, beq_iff_eq, List.all_eq_true] at h
  obtain ⟨⟨⟨⟨⟨⟨h1, h2⟩, h3⟩, h4⟩, h5⟩, h6⟩, h7⟩ := h
  exact ⟨⟨⟨h1, h2, h3, h4, h5⟩, h6, cn, ct⟩, fun f hf => h7 f hf, m⟩
end L2

namespace L2
open PySem PyProof.Rows PySem.Spec PySem.Calls
theorem bt_ValueError : bootBuiltins "ValueError" = some (.type "ValueError") := by decide +kernel
/-- which class is under which, of a list of classes of refusals and what they are all under -/
def kitTab (K : PySem.W.Frag) (cs : List Addr) (b : Addr) : Bool :=
  (List.range cs.length).all fun i => PySem.W.kitOne K (.ref (cs.getD i 0)) (.ref b) == some true && PySem.W.kitOne K (.ref (cs.getD i 0)) (.type "ValueError") == some true && (List.range cs.length).all fun j => PySem.W.kitOne K (.ref (cs.getD i 0)) (.ref (cs.getD j 0)) == some (i == j)
theorem kitTab_base {K : PySem.W.Frag} {cs : List Addr} {b : Addr} {i : Nat} (h : kitTab K cs b = true) (hi : i < cs.length) : PySem.W.kitOne K (.ref (cs.getD i 0)) (.ref b) = some true := by
  have q := List.all_eq_true.mp h i (List.mem_range.mpr hi)
  simp only [beq_iff_eq, Bool.and_eq_true] at q
  exact q.1.1
theorem kitTab_val {K : PySem.W.Frag} {cs : List Addr} {b : Addr} {i : Nat} (h : kitTab K cs b = true) (hi : i < cs.length) : PySem.W.kitOne K (.ref (cs.getD i 0)) (.type "ValueError") = some true := by
  have q := List.all_eq_true.mp h i (List.mem_range.mpr hi)
  simp only [beq_iff_eq, Bool.and_eq_true] at q
  exact q.1.2
theorem kitTab_two {K : PySem.W.Frag} {cs : List Addr} {b : Addr} {i j : Nat} (h : kitTab K cs b = true) (hi : i < cs.length) (hj : j < cs.length) : PySem.W.kitOne K (.ref (cs.getD i 0)) (.ref (cs.getD j 0)) = some (i == j) := by
  have q := List.all_eq_true.mp h i (List.mem_range.mpr hi)
  simp only [beq_iff_eq, Bool.and_eq_true] at q
  exact beq_iff_eq.mp (List.all_eq_true.mp q.2 j (List.mem_range.mpr hj))
theorem putK_fresh {kvs : List (Key × V)} {k : Key} {v : V} (h : k ∉ kvs.map (·.1)) : putK kvs k v = kvs ++ [(k, v)] := by
  unfold putK
  rw [if_neg]
  intro e
  obtain ⟨p, hp, he⟩ := List.any_eq_true.mp e
  exact h (List.mem_map.mpr ⟨p, hp, of_decide_eq_true he⟩)
theorem mergeK_new : ∀ {more kvs : List (Key × V)} {ks : List Key}, kvs.map (·.1) ++ more.map (·.1) = ks → ks.Nodup → mergeK kvs more = kvs ++ more
  | [], kvs, ks, _, _ => (List.append_nil _).symm
  | p :: r, kvs, ks, e, n => by
    subst e
    have hn : p.1 ∉ kvs.map (·.1) := fun z => by
      rw [List.map_cons, List.nodup_append] at n
      exact n.2.2 _ z _ (.head _) rfl
    show mergeK (putK kvs p.1 p.2) r = _
    rw [putK_fresh hn, mergeK_new (more := r) (kvs := kvs ++ [(p.1, p.2)]) rfl (by rw [List.map_append, List.append_assoc]; exact n), List.append_assoc]
    rfl
theorem valV_at {kvs : List (Key × V)} {ks : List Key} {j : Nat} {k : Key} {v : V} (e : kvs.map (·.1) = ks) (n : ks.Nodup) (h : kvs[j]? = some (k, v)) : valV kvs k = some v := by
  subst e
  unfold valV
  induction kvs generalizing j with
  | nil => cases h
  | cons p r ih =>
    rw [List.map_cons, List.nodup_cons] at n
    cases j with
    | zero =>
      cases Option.some.inj h
      rw [List.find?_cons_of_pos (by simp)]
      rfl
    | succ j =>
      have h' : r[j]? = some (k, v) := h
      have ne : p.1 ≠ k := fun z => n.1 (List.mem_map.mpr ⟨(k, v), List.mem_of_getElem? h', z.symm⟩)
      rw [List.find?_cons_of_neg (by simpa using ne)]
      exact ih h' n.2
theorem DGet.look {H : Hp} {a : Addr} {kvs : List (Key × V)} {ks : List Key} {j : Nat} {k : Key} {v : V} (eH : H a = some (.dK kvs)) (e : kvs.map (·.1) = ks) (n : ks.Nodup) (h : kvs[j]? = some (k, v)) : DGet H a (kV k) (some v) := by
  rw [← valV_at e n h]
  exact DGet.k eH
/-! ### a text's own copy, of texts, lists of these, a pair of a text and such a list, a list of one such pair -/
def spC (m : Nat) : Sp := fun vs H Q _ =>
  (1 ≤ m ∧ ∃ z : Str, vs = [.str z] ∧ Q (.str z) H) ∨
  (2 ≤ m ∧ ∃ (a : Addr) (zs : List Str), vs = [.ref a] ∧ H a = some (.lst (zs.map V.str)) ∧ zs.length ≤ 100 ∧ ∀ p H', Same H H' → H p = none → H' p = some (.lst (zs.map V.str)) → Q (.ref p) H') ∨
  (3 ≤ m ∧ ∃ (a l : Addr) (z : Str) (zs : List Str), vs = [.ref a] ∧ H a = some (.tup [.str z, .ref l]) ∧ H l = some (.lst (zs.map V.str)) ∧ zs.length ≤ 100 ∧
    ∀ p q H', Same H H' → H p = none → H q = none → H' p = some (.tup [.str z, .ref q]) → H' q = some (.lst (zs.map V.str)) → Q (.ref p) H') ∨
  (4 ≤ m ∧ ∃ (a b l : Addr) (z : Str) (zs : List Str), vs = [.ref a] ∧ H a = some (.lst [.ref b]) ∧ H b = some (.tup [.str z, .ref l]) ∧ H l = some (.lst (zs.map V.str)) ∧ zs.length ≤ 100 ∧
    ∀ r p q H', Same H H' → H r = none → H' r = some (.lst [.ref p]) → H' p = some (.tup [.str z, .ref q]) → H' q = some (.lst (zs.map V.str)) → Q (.ref r) H')
theorem Fun.never {P : Program} {w : World} {K : PySem.W.Frag} {mg : Str → Option Value} {base : Heap} {x qual : Str} {st : Stmt} {f : Addr} {fd : FuncData} (_F : Fun K x qual st f fd) : FnOk P w K mg base CX0 0 f fd ["value"] (spC 0) := by
  have no : ∀ vs H Q E, spC 0 vs H Q E → False := fun vs H Q E h => by
    rcases h with h | h | h | h <;> exact absurd h.1 (by decide)
  exact ⟨fun vs H Q E q => (no _ _ _ _ q).elim, fun A outer s H args us vs Q E _ _ _ _ hs => (no _ _ _ _ hs).elim⟩
end L2

namespace PySem.W
open PySem
/-! ### an exception passes a frame: what stays -/
structure Noted (e : Addr) (cl : Value) (d : Option Addr) (fr : List Addr) (off : Addr → Prop) (h h' : Heap) : Prop where
  exc : ∃ vs sl T oT ts, h'.get? e = some ⟨cl, d, .fields vs, sl⟩ ∧ vs[1]? = some (.ref T) ∧ T ≠ e ∧ h.objs.size ≤ T ∧ h'.get? T = some oT ∧ oT.data = .fields ts ∧ ts[3]? = some .none
  keep : ∀ b o, b ≠ e → ¬ off b → b ∉ fr → h.get? b = some o → h'.get? b = some o
  slot : ∀ b o, b ≠ e → ¬ off b → h.get? b = some o → ∃ sl, h'.get? b = some { o with slots := sl }
abbrev tbObj (ws : Array Value) : Obj := { cls := .type "traceback", dict := none, data := .fields ws }
section
variable {M : Model} {E : Value → Shared → Prop} {A : Around} {s : Shared}
theorem note_core {bh : Heap} {env : Env} {outer : List Env} {L e : Addr} {cl head : Value} {d : Option Addr} {vs : Array Value} {sl : Array (Option Value)} {hadNext : Bool} {Q : Unit → Shared → Prop}
    (hA : A.frames = some (env :: outer)) (hl : s.heap.FunFrames bh (env :: outer)) (hf : env.frame = some L) (he : s.heap.get? e = some ⟨cl, d, .fields vs, sl⟩) (hz : 1 < vs.size)
    (k : ∀ h', Noted e cl d ((env :: outer).filterMap (·.frame)) (fun _ => False) s.heap h' → Q () { s with heap := h' }) :
    wpAny M A (do let fo ← frameOf env; let pl ← entryPlaceOf L hadNext; let tb ← EntryCells.newEntry head fo .none (rawInt L) .none pl; setField (.ref e) 1 tb) (fun _ s1 => wpAny M A (setFlight (.ref e) none) Q E s1) E s := by
  have eno : e ∉ (env :: outer).filterMap (·.frame) := fun z => by
    obtain ⟨_, ob, q1, q2⟩ := hl.mem z
    rw [he] at q1
    cases q1
    exact q2 vs rfl
  refine wpAny_bind (wpAny_frameOf_fun hA hl hf fun g so => ?_)
  refine wpAny_bind (wpAny_entryPlaceOf fun pla hpl => ?_)
  unfold EntryCells.newEntry; unfold newFields
  refine (wpAny_bind (wpAny_newObj_type ?_ (hpl.sizeOk5 _ _ _ _ _)))
  generalize hws : ([head, .ref L, .none, rawInt L, .none] ++ (if pla.isEmpty then List.replicate 6 Value.none else pla)).toArray = ws
  have wz : 3 < ws.size := by
    rw [← hws]
    simp only [List.size_toArray, List.length_append, List.length_cons, List.length_nil]
    omega
  have e1 : g.get? e = some ⟨cl, d, .fields vs, sl⟩ := (so.2.1 e eno).trans he
  have nT : g.objs.size ≠ e := Nat.ne_of_gt (Heap.lt_size e1)
  have e2 : (g.push (tbObj ws)).get? e = _ := Heap.get?_push_of_some (h := g) (tbObj ws) e1
  refine wpAny_setField e2 rfl hz ?_
  generalize hu : (g.push (tbObj ws)).update e (Obj.mapFields (·.setIfInBounds 1 (Value.ref g.objs.size))) = g2
  have e3 : g2.get? e = some ⟨cl, d, .fields (vs.setIfInBounds 1 (.ref g.objs.size)), sl⟩ := by
    rw [← hu]
    exact Heap.get?_update_self _ e2 rfl
  have t3 : g2.get? g.objs.size = some (tbObj ws) := by
    rw [← hu, Heap.get?_update_other _ _ (Ne.symm nT)]
    exact Heap.get?_push_size g rfl
  have o3 : ∀ b ob, b ≠ e → g.get? b = some ob → g2.get? b = some ob := fun b ob hb q => by
    rw [← hu, Heap.get?_update_other _ _ (Ne.symm hb)]
    exact Heap.get?_push_of_some _ q
  unfold setFlight
  refine wpAny_bind (wpAny_field e3 rfl (x := .ref g.objs.size) (by simp [hz]) ?_)
  rw [if_pos (by simp)]
  refine wpAny_setField t3 rfl wz (k _ ⟨?_, fun b ob hb _ hx q => ?_, fun b ob hb _ q => ?_⟩)
  · refine ⟨vs.setIfInBounds 1 (.ref g.objs.size), sl, g.objs.size, _, _, ?_, by simp [hz], nT, ?_, Heap.get?_update_self _ t3 rfl, rfl, by simp [wz]⟩
    · rw [Heap.get?_update_other _ _ nT]
      exact e3
    · exact Nat.le_of_eq so.1.symm
  · have q1 : g.get? b = some ob := (so.2.1 b hx).trans q
    rw [Heap.get?_update_other _ _ (Nat.ne_of_gt (Heap.lt_size q1))]
    exact o3 b ob hb q1
  · obtain ⟨s1, q1⟩ := so.2.2 b ob q
    refine ⟨s1, ?_⟩
    rw [Heap.get?_update_other _ _ (Nat.ne_of_gt (Heap.lt_size q1))]
    exact o3 b _ hb q1
/-- the record of the way so far -/
def HeadAt (h : Heap) (e T : Addr) : Prop := T ≠ e ∧ ∃ oT ts, h.get? T = some oT ∧ oT.data = .fields ts ∧ ts[3]? = some .none
theorem note_fly {bh : Heap} {env : Env} {outer : List Env} {L e : Addr} {cl : Value} {d : Option Addr} {vs : Array Value} {sl : Array (Option Value)} {off : Addr → Prop} {Q : Unit → Shared → Prop}
    (hA : A.frames = some (env :: outer)) (hl : s.heap.FunFrames bh (env :: outer)) (hf : env.frame = some L) (he : s.heap.get? e = some ⟨cl, d, .fields vs, sl⟩)
    (hv : vs[1]? = some .none ∨ ∃ T, vs[1]? = some (.ref T) ∧ HeadAt s.heap e T ∧ off T)
    (k : ∀ h', Noted e cl d ((env :: outer).filterMap (·.frame)) off s.heap h' → Q () { s with heap := h' }) :
    wpAny M A (noteFrame (.ref e) env) (fun _ s1 => wpAny M A (setFlight (.ref e) none) Q E s1) E s := by
  unfold noteFrame
  simp only [hf]
  rcases hv with hv | ⟨T, hv, ⟨nT, oT, ts, hT, dT, h3⟩, ho⟩
  · refine wpAny_bind (wpAny_field he rfl hv ?_)
    rw [if_neg (by decide)]
    exact note_core hA hl hf he (Array.getElem?_eq_some_iff.mp hv).1 fun h' n => k h' ⟨n.exc, fun b o h1 _ => n.keep b o h1 (fun z => z), fun b o h1 _ => n.slot b o h1 (fun z => z)⟩
  · refine wpAny_bind (wpAny_field he rfl hv ?_)
    rw [if_pos (by simp)]
    refine wpAny_bind (wpAny_field hT dT h3 ?_)
    rw [if_neg (by simp [rawInt])]
    refine wpAny_bind (wpAny_setField hT dT (Array.getElem?_eq_some_iff.mp h3).1 ?_)
    generalize hu : s.heap.update T (Obj.mapFields (·.setIfInBounds 3 Value.none)) = g
    have oth : ∀ b, b ≠ T → g.get? b = s.heap.get? b := fun b hb => by rw [← hu]; exact Heap.get?_update_other _ _ (Ne.symm hb)
    have hz : g.objs.size = s.heap.objs.size := by rw [← hu]; exact Heap.size_after_update ..
    refine note_core (s := { s with heap := g }) hA (hl.of_keeps fun b o q nf => ⟨o, (oth b fun z => ?_).trans q, rfl⟩) hf ((oth e (Ne.symm nT)).trans he) (Array.getElem?_eq_some_iff.mp hv).1 fun h' n => k h' ⟨?_, fun b o h1 h2 h3 q => ?_, fun b o h1 h2 q => ?_⟩
    · rw [z, hT] at q
      cases q
      exact nf ts dT
    · obtain ⟨vs', sl', T', o', ts', x1, x2, x3, x4, x5⟩ := n.exc
      exact ⟨vs', sl', T', o', ts', x1, x2, x3, by rw [← hz]; exact x4, x5⟩
    · exact n.keep b o h1 (fun z => z) h3 ((oth b fun z => h2 (z ▸ ho)).trans q)
    · exact n.slot b o h1 (fun z => z) ((oth b fun z => h2 (z ▸ ho)).trans q)
end
end PySem.W

namespace L2
open PySem PyProof.Rows PySem.Spec PySem.Calls
/-! ### refusals that pass: how one lies behind a call -/
def TrX (n : Nat) (H : Hp) (ea : Addr) (h : Heap) : Prop := ∃ cl d vs sl T, h.get? ea = some ⟨cl, d, .fields vs, sl⟩ ∧ vs[1]? = some (.ref T) ∧ PySem.W.HeadAt h ea T ∧ n ≤ T ∧ H T = none
def CXe (P : Program) (w : World) : CXT := fun outer H s E e s' => ∃ ea C d H', e = .ref ea ∧ s'.os = s.os ∧ AllBare s'.gens ∧ Un (frs outer) [] H H' s.heap s'.heap ∧ HOk P w H' s'.heap ∧ H' ea = some (XC ea C d) ∧
  TrX s.heap.objs.size H' ea s'.heap ∧ E (.ref C) (some ea) H'
/-- .. in a body -/
def TrI (X : Cx) (pins : List (Addr × Obj)) (H : Hp) (ea : Addr) (h : Heap) : Prop := ∃ cl d vs sl T, h.get? ea = some ⟨cl, d, .fields vs, sl⟩ ∧ vs[1]? = some (.ref T) ∧ PySem.W.HeadAt h ea T ∧ X.s₀.heap.objs.size ≤ T ∧ H T = none ∧
  T ≠ X.env.locals ∧ (∀ x c, X.env.cells.lookup x = some c → c ≠ T) ∧ ∀ p ∈ X.pn ++ pins, p.1 ≠ T
/-- the frame of a def runs on top -/
structure Top (X : Cx) : Prop where
  ex : X.ex = []
  stk : X.stack = X.env :: X.outer
  fr : X.env.frame = some X.env.locals
def PassesS (X : Cx) (G : St → XK) : Prop := ∀ (pins : List (Addr × Obj)) (σ : St) (H : Hp) (s : Shared) (e : Value) (s' : Shared), Inv X pins σ H s → CXe X.prog X.w X.stack H s (G σ) e s' → X.xe e s'
def RaisesS (X : Cx) (G : St → XK) : Prop := ∀ (pins : List (Addr × Obj)) (σ : St) (H : Hp) (s : Shared) (ea C : Addr) (d : Option Addr), Inv X pins σ H s → H ea = some (XO ea C d) → G σ (.ref C) (some ea) (upd H ea (XC ea C d)) → X.xe (.ref ea) s
abbrev G0 : St → XK := fun _ _ _ _ => False
theorem passE0 {X : Cx} : PassesS X G0 := fun _ _ _ _ _ _ _ ⟨_, _, _, _, _, _, _, _, _, _, _, z⟩ => z.elim
section
variable {X : Cx} {pins : List (Addr × Obj)} {σ : St} {H H' : Hp} {s s' : Shared} {ea C : Addr} {d : Option Addr} {h' : Heap}
theorem Inv.flew {E : XK} {e : Value} (I : Inv X pins σ H s) (c : CXe X.prog X.w X.stack H s E e s') : ∃ ea C d H', e = .ref ea ∧ Inv X pins σ H' s' ∧ H' ea = some (XC ea C d) ∧ TrI X pins H' ea s'.heap ∧ E (.ref C) (some ea) H' := by
  obtain ⟨ea, C, d, H', rfl, ho, hb, un, ok, hx, ⟨cl, d', vs, sl, T, g1, g2, g3, g4, g5⟩, q⟩ := c
  refine ⟨ea, C, d, H', rfl, I.call' ho un ok hb (fun b z => absurd z (by simp)), hx, ⟨cl, d', vs, sl, T, g1, g2, g3, Nat.le_trans I.sz g4, g5, fun z => ?_, fun x c hc z => ?_, fun p hp z => ?_⟩, q⟩
  · have lt := I.lt
    rw [← z] at lt
    exact absurd (Nat.lt_of_lt_of_le lt g4) (Nat.lt_irrefl _)
  · obtain ⟨v, o, q1, _⟩ := I.cell x c hc
    have lt := Heap.lt_size q1
    rw [z] at lt
    exact absurd (Nat.lt_of_lt_of_le lt g4) (Nat.lt_irrefl _)
  · have lt := Heap.lt_size (I.pin p hp).1
    rw [z] at lt
    exact absurd (Nat.lt_of_lt_of_le lt g4) (Nat.lt_irrefl _)
/-- the frame is noted -/
theorem Inv.noted {off : Addr → Prop} (t : Top X) (I : Inv X pins σ H s) (hx : H ea = some (XC ea C d))
    (ht : ∀ T, off T → X.s₀.heap.objs.size ≤ T ∧ H T = none ∧ T ≠ X.env.locals ∧ (∀ x c, X.env.cells.lookup x = some c → c ≠ T) ∧ ∀ p ∈ X.pn ++ pins, p.1 ≠ T) (h1 : ∀ T U, off T → off U → T = U)
    (n : PySem.W.Noted ea (.ref C) d (X.env :: X.outer |>.filterMap (·.frame)) off s.heap h') : Inv X pins σ H { s with heap := h' } ∧ TrI X pins H ea h' := by
  have fr : ∀ b, b ∈ (X.env :: X.outer).filterMap (·.frame) ↔ b = X.env.locals ∨ b ∈ X.fs := fun b => by
    rw [List.filterMap_cons, t.fr]
    exact List.mem_cons
  have frn : ∀ b, b ∈ (X.env :: X.outer).filterMap (·.frame) → H b = none := fun b hb => I.stkFree b (by rw [t.stk]; exact hb)
  obtain ⟨vs, sl, T, oT, ts, x1, x2, x3, x4, x5, x6, x7⟩ := n.exc
  have nea : ∀ b, H b = none → b ≠ ea := fun b hb z => by rw [z, hx] at hb; cases hb
  obtain ⟨ch, hch⟩ : ∃ ch : List Addr, (∀ b ∈ ch, off b) ∧ ∀ b, off b → b ∈ ch := by
    by_cases z : ∃ T, off T
    · obtain ⟨T, hT⟩ := z
      exact ⟨[T], fun b hb => by rw [List.mem_singleton.mp hb]; exact hT, fun b hb => by rw [h1 b T hb hT]; exact List.mem_singleton.mpr rfl⟩
    · exact ⟨[], fun b hb => absurd hb (by simp), fun b hb => absurd ⟨b, hb⟩ z⟩
  have I' : Inv X pins σ H { s with heap := h', gens := s.gens, drawn := s.drawn, toks := s.toks } := by
    refine I.step (ch := ch) (fun b hb => ?_) (fun b o h1 h2 h3 q hn => ?_) (fun b o h1 h2 h3 q hn => ?_) (fun _ _ _ _ q => q) (fun b o h3 q => ?_) (fun _ _ q => q) (fun _ _ _ q => q) (fun b ps q => ⟨#[], by rw [q]; simp⟩) (fun m hm => ?_) (fun b u hb => ?_) I.bare
    · obtain ⟨a1, _, a3, a4, a5⟩ := ht b (hch.1 b hb)
      exact ⟨.inr a1, a3, a4, a5⟩
    · exact n.keep b o (nea b hn) (fun z => h3 (hch.2 b z)) (fun z => ((fr b).mp z).elim h1 h2) q
    · exact n.slot b o (nea b hn) (fun z => h3 (hch.2 b z)) q
    · by_cases z : b = ea
      · rw [z]; exact ⟨_, x1⟩
      · obtain ⟨l, q1⟩ := n.slot b o z (fun z => h3 (hch.2 b z)) q
        exact ⟨_, q1⟩
    · obtain ⟨o, es, ep, ho, r⟩ := hm
      obtain ⟨l, q1⟩ := n.slot _ o (nea _ I.free) (fun z => (ht _ z).2.2.1 rfl) ho
      exact ⟨_, es, ep, q1, r⟩
    · by_cases z : b = ea
      · subst z
        rw [hx] at hb
        cases hb
        exact xc_ok x1
      · refine (I.hok b u hb).stay (fun c v hc q => n.keep c v ?_ (fun z => ?_) (fun z => ?_) q) (fun _ q => q) fun _ _ q => q
        · rcases hc with rfl | hc
          · exact z
          · intro z
            rw [z, hx] at hc
            cases hc
        · have hn := (ht c z).2.1
          rcases hc with rfl | hc
          · rw [hb] at hn; cases hn
          · rw [hc] at hn; cases hn
        · have hn := frn c z
          rcases hc with rfl | hc
          · rw [hb] at hn; cases hn
          · rw [hc] at hn; cases hn
  have lt := I.lt
  refine ⟨I', .ref C, d, vs, sl, T, x1, x2, ⟨x3, oT, ts, x5, x6, x7⟩, Nat.le_trans I.sz x4, I.hok.fresh x4, fun z => ?_, fun x c hc z => ?_, fun p hp z => ?_⟩
  · rw [← z] at lt
    exact absurd (Nat.lt_of_lt_of_le lt x4) (Nat.lt_irrefl _)
  · obtain ⟨v, o, q1, _⟩ := I.cell x c hc
    have lt := Heap.lt_size q1
    rw [z] at lt
    exact absurd (Nat.lt_of_lt_of_le lt x4) (Nat.lt_irrefl _)
  · have lt := Heap.lt_size (I.pin p hp).1
    rw [z] at lt
    exact absurd (Nat.lt_of_lt_of_le lt x4) (Nat.lt_irrefl _)
/-- a refusal that came from a call is noted -/
theorem note_flew {Q : Unit → Shared → Prop} {E : Value → Shared → Prop} (t : Top X) (I : Inv X pins σ H s) (hx : H ea = some (XC ea C d)) (tr : TrI X pins H ea s.heap)
    (k : ∀ s', Inv X pins σ H s' → TrI X pins H ea s'.heap → Q () s') :
    wpAny (model X.prog X.w) X.A (noteFrame (.ref ea) X.env) (fun _ s1 => wpAny (model X.prog X.w) X.A (setFlight (.ref ea) none) Q E s1) E s := by
  obtain ⟨cl, d', vs, sl, T, g1, g2, g3, g4⟩ := tr
  obtain ⟨vs', sl', q⟩ := x_get I.hok (.inr hx)
  rw [g1] at q
  cases q
  refine PySem.W.note_fly (bh := X.base) (off := fun b => b = T) (outer := X.outer) (by rw [← t.stk]; exact I.ok.frames) (by rw [← t.stk]; exact I.stack) t.fr g1 (.inr ⟨T, g2, g3, rfl⟩) fun h' n => ?_
  obtain ⟨a, b⟩ := I.noted (off := fun b => b = T) t hx (fun U z => (show U = T from z) ▸ g4) (fun _ _ p q => p.trans q.symm) n
  exact k _ a b
/-- a refusal that is raised here is noted -/
theorem note_made {Q : Unit → Shared → Prop} {E : Value → Shared → Prop} (t : Top X) (I : Inv X pins σ H s) (hx : H ea = some (XO ea C d))
    (k : ∀ s', Inv X pins σ (upd H ea (XC ea C d)) s' → TrI X pins (upd H ea (XC ea C d)) ea s'.heap → Q () s') :
    wpAny (model X.prog X.w) X.A (noteFrame (.ref ea) X.env) (fun _ s1 => wpAny (model X.prog X.w) X.A (setFlight (.ref ea) none) Q E s1) E s := by
  obtain ⟨t0, g1⟩ := xo_get I.hok hx
  have I1 : Inv X pins σ (upd H ea (XC ea C d)) { s with heap := s.heap, toks := s.toks } := I.write (x := ea) (e := ea) (by rw [hx]; exact True.intro) (.inl rfl) (fun _ _ _ q => q) ⟨_, g1⟩ (xc_ok g1)
  refine PySem.W.note_fly (bh := X.base) (off := fun _ => False) (outer := X.outer) (by rw [← t.stk]; exact I.ok.frames) (by rw [← t.stk]; exact I.stack) t.fr g1 (.inl rfl) fun h' n => ?_
  obtain ⟨a, b⟩ := I1.noted t upd_same (fun _ z => z.elim) (fun _ _ z => z.elim) n
  exact k _ a b
theorem TrI.tr (t : TrI X pins H ea h') : TrX X.s₀.heap.objs.size H ea h' := let ⟨cl, d, vs, sl, T, a, b, c, e, f, _⟩ := t; ⟨cl, d, vs, sl, T, a, b, c, e, f⟩
end
/-! ### a def that lets refusals pass -/
section
variable {P : Program} {w : World} {K : PySem.W.Frag} {mg : Str → Option Value} {base : Heap} {N ps : List Str} {qual x : Str} {scope : Scope} {f : Addr} {cd : Value} {A : Around} {outer : List Env} {s : Shared} {H : Hp} {E : XK} {k : Nat}
abbrev cxE (P : Program) (w : World) (K : PySem.W.Frag) (mg : Str → Option Value) (base : Heap) (N : List Str) (qual : Str) (scope : Scope) (f : Addr) (cd : Value) (A : Around) (outer : List Env) (s : Shared) (H : Hp) (E : XK) : Cx :=
  cxOf (CXe P w) P w K mg base N qual scope f cd A outer s H E
theorem top_def : Top (cxE P w K mg base N qual scope f cd A outer s H E) := ⟨rfl, rfl, rfl⟩
theorem own_def : PassesOwn (model P w) (cxE P w K mg base N qual scope f cd A outer s H E).A (cxE P w K mg base N qual scope f cd A outer s H E).env (cxE P w K mg base N qual scope f cd A outer s H E).xe := PassesOwn.leaving
theorem pass_def : PassesS (cxE P w K mg base N qual scope f cd A outer s H E) (fun _ => E) := by
  intro pins σ H1 s1 e s2 I c
  obtain ⟨ea, C, d, H2, rfl, I2, hx, tr, q⟩ := I.flew c
  show wpAny _ _ (leaving _ _) _ _ _
  unfold leaving
  refine wpAny_bind (note_flew top_def I2 hx tr fun s3 I3 t3 => ?_)
  exact ⟨ea, C, d, H2, rfl, I3.os, I3.bare, I3.base, I3.hok, hx, t3.tr, q⟩
theorem raise_def : RaisesS (cxE P w K mg base N qual scope f cd A outer s H E) (fun _ => E) := by
  intro pins σ H1 s1 ea C d I hx q
  show wpAny _ _ (leaving _ _) _ _ _
  unfold leaving
  refine wpAny_bind (note_made top_def I hx fun s3 I3 t3 => ?_)
  exact ⟨ea, C, d, _, rfl, I3.os, I3.bare, I3.base, I3.hok, upd_same, t3.tr, q⟩
theorem Fun.okE {st : Stmt} {fd : FuncData} {sp : Sp} (F : Fun K x qual st f fd) (S : FnScope N ps (defScope st)) (len : ∀ vs H Q E, sp vs H Q E → vs.length = ps.length)
    (hbody : ∀ (cdv : Value) (A : Around) (outer : List Env) (s : Shared) (H : Hp) (vs : List V) (Q : VK) (E : XK), Room k (A.deeper (envOfC qual (defScope st) s.heap.objs.size f cdv)) → sp vs H Q E →
      ∃ t, PSs (cxE P w K mg base N qual (defScope st) f cdv A outer s H E) (defBody st) t ∧ t { nx := fun _ H' => Q .non H', rt := Q } (start N vs) H) : FnOk P w K mg base (CXe P w) (k + 1) f fd ps sp := by
  obtain ⟨oc, od, kV, doc, pm, an, cdv, ct, osl, rfl, lk, hcd⟩ := F.ex
  exact fn_of lk hcd S len fun A outer s H vs Q E hr hsp => hbody cdv A outer s H vs Q E hr hsp
theorem FnOk.lift {CX : CXT} {fd : FuncData} {sp : Sp} (F : FnOk P w K mg base CX0 k f fd ps sp) : FnOk P w K mg base CX k f fd ps sp :=
  ⟨F.len, fun A outer s H args us vs Q E hr e0 hb r h => codeAny_mono (F.run A outer s H args us vs Q E hr e0 hb r h) fun r s' q => match r, q with
    | .ok (.ret _), q => q
    | .ok .next, q => q
    | .ok .brk, q => q
    | .ok .cont, q => q
    | .error _, q => False.elim q⟩
structure DfE (P : Program) (w : World) (K : PySem.W.Frag) (mg : Str → Option Value) (base : Heap) (k : Nat) (x : Str) (ps : List Str) (sp : Sp) : Prop where
  ex : ∃ f fd, FnOk P w K mg base (CXe P w) k f fd ps sp ∧ Binds K fd ps [] ∧ PySem.W.keepIn K (.ref f) = true ∧ mg x = some (.ref f)
structure MtE (P : Program) (w : World) (K : PySem.W.Frag) (mg : Str → Option Value) (base : Heap) (k : Nat) (m : Str) (C : Addr) (ps : List Str) (sp : Sp) : Prop where
  ex : ∃ f fd, Meth K C m f ∧ FnOk P w K mg base (CXe P w) k f fd ps sp ∧ Binds K fd ps []
theorem MtD.e {m : Str} {C : Addr} {sp : Sp} (D : MtD P w K mg base k m C ps sp) : MtE P w K mg base k m C ps sp := let ⟨f, fd, a, b, c⟩ := D.ex; ⟨f, fd, a, b.lift, c⟩
theorem Dfn.e {sp : Sp} (D : Dfn P w K mg base k x ps sp) : DfE P w K mg base k x ps sp := let ⟨f, fd, a, b, c⟩ := D.ex; ⟨f, fd, a.lift, b, c⟩
end
/-! ### calls -/
def tCallE (sp : Sp) (G : St → XK) (t : TA) : TE := fun σ H Q => t σ H fun vs H1 => sp vs H1 Q (G σ)
/-- o.m(..), whatever own class o is of: the method is told by the reading -/
def tMethE (P : Program) (w : World) (K : PySem.W.Frag) (mg : Str → Option Value) (base : Heap) (k : Nat) (m : Str) (G : St → XK) (ta : TE) (t : TA) : TE := fun σ H Q => ta σ H fun x H1 => ∃ a C dx fs ps sp, x = .ref a ∧ H1 a = some (.ins C dx fs) ∧ fs.lookup m = none ∧ Cls K C ∧ MtE P w K mg base k m C ps sp ∧
  t σ H1 fun vs H2 => sp (x :: vs) H2 Q (G σ)
section
variable {X : Cx} {k : Nat} {ps : List Str} {sp : Sp} {G : St → XK} {x m : Str} {p pos apos : Pos} {e o : Expr} {es : List Expr} {ta : TE} {t : TA}
theorem run_fnE {pins : List (Addr × Obj)} {σ : St} {H : Hp} {s : Shared} {Q : VK} {us : List Value} {vs : List V} {f : Addr} {fd : FuncData} (F : FnOk X.prog X.w X.K X.mg X.base (CXe X.prog X.w) k f fd ps sp) (hr : Room k X.A) (hb : Binds X.K fd ps []) (hx : PassesS X G)
    (I : Inv X pins σ H s) (r : Vals vs us) (h : sp vs H Q (G σ)) : wpAny (model X.prog X.w) X.A (call (.ref f) us) (EP X pins σ Q) X.xe s := by
  have hl : us.length = ps.length := by rw [← r.length]; exact F.len _ _ _ _ h
  have hb2 := hb s us I.kIn (by rw [List.append_nil]; exact hl)
  rw [List.append_nil] at hb2
  refine wpAny_call (codeAny_mono (F.run X.A X.stack s H ⟨us, []⟩ us vs Q (G σ) hr I.env0 hb2 r h) fun r s' hq => ?_)
  cases r with
  | error e => exact hx pins σ H s e s' I hq
  | ok fl =>
    cases fl with
    | ret u => exact I.after hq
    | next => exact False.elim hq
    | brk => exact False.elim hq
    | cont => exact False.elim hq
theorem pe_callE (D : DfE X.prog X.w X.K X.mg X.base k x ps sp) (hx : PassesS X G) (hr : Room k X.A) (hg : Gl X x) (ha : PA X (e :: es) t) (hdb : (x == ("__debug__" : Str)) = false := by decide)
    (he : starEach (e :: es) X.env = (false, eval e X.env) :: starEach es X.env := by rfl) (hpl : (backTo pos (starEach es X.env)).any (·.1) = false := by rfl) : PE X (.Call (.Name x p) (e :: es) [] pos) (tCallE sp G t) := by
  intro pins s σ H Q I h
  obtain ⟨f, fd, F, b, kp, hm⟩ := D.ex
  refine wpAny_Call_Name_kw (ld_glob I hg hm ?_ hdb)
  refine PySem.W.callWith_K (h₀ := X.base) I.ok.mod.kin kp (thn (ha pos pins s σ H _ I h) fun us s1 ⟨vs, H1, I1, r, q⟩ => ⟨I1.kIn, ?_⟩) he hpl
  exact run_fnE F hr b hx I1 r q
theorem pe_methE {pl : Sem Bool} (k : Nat) (hx : PassesS X G) (hr : Room k X.A) (he : PE X o ta) (ha : PA X (e :: es) t)
    (hst : starEach (e :: es) X.env = (false, eval e X.env) :: starEach es X.env := by rfl) (hpl : (backTo pos (starEach es X.env)).any (·.1) = false := by rfl)
    (ht : eval (.Call (.Attribute o m apos) (e :: es) [] pos) X.env = (do
      let ov ← eval o X.env
      standAt apos.atName
      let (f, first) ← holding [ov] (getMethod ov m pl)
      callWith pos f first (backTo pos (starEach (e :: es) X.env)) (backToKw pos (keywordEach [] X.env))) := by rfl) :
    PE X (.Call (.Attribute o m apos) (e :: es) [] pos) (tMethE X.prog X.w X.K X.mg X.base k m G ta t) := by
  intro pins s σ H Q I h
  refine PySem.W.methodCall_KW (pl := pl) (thn (he pins s σ H _ I h) fun u s1 ⟨x, H1, I1, rx, a, C, dx, fs, ps, sp, ex, ea, l, c, D, q⟩ => ?_) ht
  subst ex
  obtain rfl : u = Value.ref a := rx
  obtain ⟨f, fd, hm, F, b⟩ := D.ex
  refine getmeth_ok I1 ea c hm l ?_
  refine PySem.W.callWith_K (first := [.ref a]) (h₀ := X.base) I.ok.mod.kin hm.kp (thn (ha pos pins s1 σ H1 _ I1 q) fun us s2 ⟨vs, H2, I2, r, q2⟩ => ⟨I2.kIn, ?_⟩) hst hpl
  exact run_fnE (us := .ref a :: us) (vs := .ref a :: vs) F hr b hx I2 (.cons rfl r) q2
theorem pe_methE0 {pl : Sem Bool} (k : Nat) (hx : PassesS X G) (hr : Room k X.A) (he : PE X o ta)
    (ht : eval (.Call (.Attribute o m apos) [] [] pos) X.env = (do
      let ov ← eval o X.env
      standAt apos.atName
      let (f, first) ← holding [ov] (getMethod ov m pl)
      callWith pos f first (backTo pos (starEach [] X.env)) (backToKw pos (keywordEach [] X.env))) := by rfl) :
    PE X (.Call (.Attribute o m apos) [] [] pos) (tMethE X.prog X.w X.K X.mg X.base k m G ta tNil) := by
  intro pins s σ H Q I h
  refine PySem.W.methodCall_KW (pl := pl) (thn (he pins s σ H _ I h) fun u s1 ⟨x, H1, I1, rx, a, C, dx, fs, ps, sp, ex, ea, l, c, D, q⟩ => ?_) ht
  subst ex
  obtain rfl : u = Value.ref a := rx
  obtain ⟨f, fd, hm, F, b⟩ := D.ex
  refine getmeth_ok I1 ea c hm l ?_
  exact PySem.W.callWith_K0 (first := [.ref a]) I1.kIn hm.kp (run_fnE (us := [.ref a]) (vs := [.ref a]) F hr b hx I1 (.cons rfl .nil) q)
end
end L2

namespace PySem.W
open PySem PyProof.Rows PySem.Spec PySem.Calls
/-! ### raising and catching own refusals -/
def mroHas (K : Frag) (C : Addr) (c : Value) : Bool := match K.lookup C with
  | some ⟨_, _, .cls cd, _⟩ => cd.mro.contains c
  | _ => false
theorem exc_mro {K : Frag} {h : Heap} {C : Addr} (X : K.In h) (q : excMk K C = true) : ∃ tlm, ExcAt h C tlm ∧ OwnTail h veMro tlm ∧ ∀ c, mroHas K C c = (Value.ref C :: tlm).contains c := by
  obtain ⟨tlm, hE, T⟩ := excMk_obj X q
  refine ⟨tlm, hE, T, fun c => ?_⟩
  unfold mroHas
  cases hk : K.lookup C with
  | none =>
    unfold excMk at q
    rw [hk] at q
    cases q
  | some o =>
    obtain ⟨N, nm, q, bs, hdct, sn, sub, ab, col, dd, q0, q1, q2, q3, q5, hCl⟩ := hE
    have z := X _ _ hk
    rw [hCl] at z
    cases z
    rfl
section
variable {M : Model} {A : Around} {E : Value → Shared → Prop} {env : Env} {K : Frag}
theorem exc_match {h : Heap} {g : Array GenState} {d : Drawn} {t : Nat} {os : OsState} {e C D : Addr} {oe : Obj} {Q : Bool → Shared → Prop} (X : K.In h) (qC : excMk K C = true) (qD : excMk K D = true) (he : h.get? e = some oe) (hc : oe.cls = .ref C)
    (hq : Q (mroHas K C (.ref D)) ⟨h, g, d, t, os⟩) : wpAny M A (excMatches (.ref e) (.ref D)) Q E ⟨h, g, d, t, os⟩ := by
  obtain ⟨tl, ⟨N, nm, q, bs, hdct, sn, sub, ab, col, dd, q0, q1, q2, q3, q5, hC⟩, _, mh⟩ := exc_mro X qC
  obtain ⟨tl', ⟨N', nm', q', bs', hdct', sn', sub', ab', col', dd', q0', q1', q2', q3', q5', hD⟩, T, _⟩ := exc_mro X qD
  have hB : (Value.ref D :: tl').contains (.type "BaseException") = true := by
    rw [List.contains_cons, T.hasType (show veMro.contains (.type "BaseException") = true from by decide +kernel), Bool.or_true]
  rw [mh] at hq
  have f := tc_notTuple
  unfold excMatches
  repeat (first | (with_reducible refine wpAny_loadPart_at he ?_; rw [hc]) | with_reducible refine wpAny_loadPart_at hD ?_ | (with_reducible refine wpAny_isSubtype_exc hD ?_; rw [hB]) | with_reducible refine wpAny_isSubtype_exc hC ?_ | wp_step)
  all_goals (cases hb : (Value.ref C :: tl).contains (.ref D) <;> (rw [hb] at hq; wp_walk; exact hq))
theorem raise_X {s : Shared} {x : Sem Value} {Q : Flow → Shared → Prop} (hh : A.handled = none)
    (h : wpAny M A x (fun v s1 => ∃ e C d t0, v = .ref e ∧ K.In s1.heap ∧ excMk K C = true ∧ s1.heap.get? e = some ⟨.ref C, d, .fields #[.ref t0, .none, .none, .none, .bool false, .none], #[]⟩ ∧ E (.ref e) s1) E s) :
    wpAny M A (raiseStmt env (some x) none) Q E s := by  -- raised here
  unfold raiseStmt
  refine wpAny_bind (wpAny_mono h (fun v s1 h1 => ?_) fun _ _ x => x)
  obtain ⟨e, C, d, t0, rfl, X, qC, he, hE⟩ := h1
  obtain ⟨tl, ⟨N, nm, q, bs, hdct, sn, sub, ab, col, dd, q0, q1, q2, q3, q5, hC⟩, T, _⟩ := exc_mro X qC
  have hB : (Value.ref C :: tl).contains (.type "BaseException") = true := by
    rw [List.contains_cons, T.hasType (show veMro.contains (.type "BaseException") = true from by decide +kernel), Bool.or_true]
  obtain ⟨hp, g, d', tk, os⟩ := s1
  repeat (first | with_reducible refine wpAny_loadPart_at he ?_ | with_reducible refine wpAny_loadPart_at hC ?_ | (with_reducible refine wpAny_isSubtype_exc hC ?_; rw [hB]) | wp_step)
  exact (wpAny_raiseNew_none hh hE)
end
end PySem.W
namespace L2
open PySem PyProof.Rows PySem.Spec PySem.Calls
def tRaise (K : PySem.W.Frag) (G : St → XK) (te : TE) : TS := fun _ σ H => te σ H fun v H1 => ∃ ea C d, v = .ref ea ∧ H1 ea = some (XO ea C d) ∧ PySem.W.excMk K C = true ∧ G σ (.ref C) (some ea) (upd H1 ea (XC ea C d))
abbrev Cx.caught (X : Cx) (ea : Addr) : Cx := { X with A := X.A.mark (some (.ref ea)), calm := false, xe := fun _ _ => False }
abbrev Cx.inTry (X : Cx) (ps : List (Addr × Obj)) (xe : Value → Shared → Prop) : Cx := { X with pn := X.pn ++ ps, xe := xe }
section
variable {X : Cx} {pins : List (Addr × Obj)} {σ : St} {H : Hp} {s : Shared} {ea : Addr}
theorem ps_raise {G : St → XK} {e : Expr} {te : TE} {pos : Pos} (hR : RaisesS X G) (hc : X.calm = true) (he : PE X e te) : PS X (.Raise (some e) none pos) (tRaise X.K G te) := by
  intro pins s σ H D I h
  show wpAny _ _ (do standAt pos; raiseStmt X.env (some (do let v ← eval e X.env; standAt pos; pure v)) none) _ _ s
  refine wpAny_bind (wpAny_standAt (PySem.W.raise_X (K := X.K) (I.ok.hd hc) (wpAny_bind (thn (he pins s σ H _ I h) fun v s1 ⟨x, H1, I1, rx, ea, C, d, ex, hx, mk, q⟩ => wpAny_bind (wpAny_standAt (wpAny_pure ?_))))))
  subst ex
  obtain rfl : v = Value.ref ea := rx
  obtain ⟨t0, g1⟩ := xo_get I1.hok hx
  exact ⟨ea, C, d, t0, rfl, I1.kIn, mk, g1, hR pins σ H1 s1 ea C d I1 hx q⟩
theorem Cx.Ok.caught (ok : X.Ok) : (X.caught ea).Ok :=
  ⟨ok.mod, ok.kind, ok.glob, ok.blt, ok.above, ok.inj, ok.has, ok.cab, (fun z => nomatch z), ok.frames, ok.stk, ok.exf, ok.bs, ok.bsz, ok.noex, ok.exfs, ok.funs, ok.frf⟩
theorem Inv.caught (I : Inv X pins σ H s) : Inv (X.caught ea) pins σ H s := ⟨I.ok.caught, I.os, I.bare, I.base, I.loc, I.cell, I.free, I.freeC, I.pin, I.hok, I.len⟩
theorem Inv.uncaught (o : X.Ok) (I : Inv (X.caught ea) pins σ H s) : Inv X pins σ H s := ⟨o, I.os, I.bare, I.base, I.loc, I.cell, I.free, I.freeC, I.pin, I.hok, I.len⟩
theorem Cx.Ok.inTry {ps : List (Addr × Obj)} {xe : Value → Shared → Prop} (ok : X.Ok) : (X.inTry ps xe).Ok :=
  ⟨ok.mod, ok.kind, ok.glob, ok.blt, ok.above, ok.inj, ok.has, ok.cab, ok.hd, ok.frames, ok.stk, ok.exf, ok.bs, ok.bsz, ok.noex, ok.exfs, ok.funs, ok.frf⟩
theorem Inv.inTry {xe : Value → Shared → Prop} (I : Inv X pins σ H s) : Inv (X.inTry pins xe) [] σ H s := ⟨I.ok.inTry, I.os, I.bare, I.base, I.loc, I.cell, I.free, I.freeC, fun p hp => I.pin p (by rw [← List.append_nil (X.pn ++ pins)]; exact hp), I.hok, I.len⟩
theorem Inv.outTry {ps : List (Addr × Obj)} {xe : Value → Shared → Prop} (o : X.Ok) (I : Inv (X.inTry ps xe) pins σ H s) : Inv X ps σ H s := ⟨o, I.os, I.bare, I.base, I.loc, I.cell, I.free, I.freeC, fun p hp => I.pin p (List.mem_append_left _ hp), I.hok, I.len⟩
theorem SP.outTry {ps : List (Addr × Obj)} {xe : Value → Shared → Prop} {D : Ends} {f : Flow} {s' : Shared} (o : X.Ok) (h : SP (X.inTry ps xe) pins D f s') : SP X ps D f s' := by
  cases f with
  | next => obtain ⟨σ', H', I, q⟩ := h; exact ⟨σ', H', I.outTry o, q⟩
  | brk => obtain ⟨σ', H', I, q⟩ := h; exact ⟨σ', H', I.outTry o, q⟩
  | cont => obtain ⟨σ', H', I, q⟩ := h; exact ⟨σ', H', I.outTry o, q⟩
  | ret u => obtain ⟨v, σ', H', I, r, q⟩ := h; exact ⟨v, σ', H', I.outTry o, r, q⟩
/-- a name is taken away -/
theorem unbind_ok {M : Model} {A : Around} {E : Value → Shared → Prop} {i : Nat} {n : Str} {v : V} {Q : Unit → Shared → Prop} (I : Inv X pins σ H s) (hN : X.N.Nodup) (hi : X.N[i]? = some n) (hx : X.env.scope.names.lookup n = some .local) (hv : σ[i]? = some (some v))
    (h : ∀ s', Inv X pins (σ.set i none) H s' → Q () s') : wpAny M A (unbindName X.env n) Q E s := by
  obtain ⟨m, hn, hl⟩ := id I.loc
  obtain ⟨u, _, lk⟩ := hl i n v hi hv (.inl hx)
  have hm : m n = some u := by
    rcases lk with ⟨_, e⟩ | ⟨k, _⟩
    · exact e
    · have kx : X.env.kindOf n = some .local := hx
      rw [kx] at k
      rcases k with k | k <;> cases k
  have hcls : (X.env.scope.kind == .class || (X.env.scope.kind == .module && X.env.locals != X.env.globals)) = false := by rw [I.ok.kind]; rfl
  have iσ : i < σ.length := by rw [I.len]; exact (List.getElem?_eq_some_iff.mp hi).1
  refine wpAny_unbindName_local hx hn hm hcls fun h' u' hn' hs => h _ ?_
  obtain ⟨oLo, _, _, hoLo, _⟩ := id hn
  have ne0 : ∀ b o, X.s₀.heap.get? b = some o → b ≠ X.env.locals := fun b o e => Nat.ne_of_lt (Nat.lt_of_lt_of_le (Heap.lt_size e) I.ok.above)
  refine ⟨I.ok, I.os, I.bare, ⟨fun b o e nn hb he => (hs.2 b (ne0 b o e)).trans (I.base.keep b o e nn hb he), fun b o e nn hb he => ?_, I.base.free, fun b o e he => ?_, I.base.tups, I.base.frzs, I.base.tbls⟩, ⟨_, hn', fun j y w' e1 e2 e3 => ?_⟩, fun y c e => ?_, I.free, I.freeC, fun p hp => ?_, fun b ob e => ?_, by simpa using I.len⟩
  · obtain ⟨sl, q⟩ := I.base.slot b o e nn hb he
    exact ⟨sl, (hs.2 b (ne0 b o e)).trans q⟩
  · obtain ⟨o', q⟩ := I.base.there b o e he
    exact ⟨o', (hs.2 b (ne0 b o e)).trans q⟩
  · have hj : j ≠ i := fun z => by
      subst z
      rw [List.getElem?_set_self iσ] at e2
      cases e2
    rw [List.getElem?_set_ne (Ne.symm hj)] at e2
    obtain ⟨u2, r2, q⟩ := hl j y w' e1 e2 e3
    refine ⟨u2, r2, ?_⟩
    rcases q with ⟨k, e⟩ | ⟨k, c, e, z⟩
    · refine .inl ⟨k, ?_⟩
      have hy : y ≠ n := fun z => hj (nodup_ix hN e1 (z ▸ hi))
      show (if y = n then u' else m y) = some u2
      rw [if_neg hy]
      exact e
    · exact .inr ⟨k, c, e, z.sameBut hs (I.cne y c e)⟩
  · obtain ⟨w', z⟩ := I.cell y c e
    exact ⟨w', z.sameBut hs (I.cne y c e)⟩
  · obtain ⟨e, nn, ne, nf, dd⟩ := I.pin p hp
    exact ⟨(hs.2 p.1 ne).trans e, nn, ne, nf, dd⟩
  · refine (I.hok b ob e).stay (fun c w' hc q => (hs.2 c ?_).trans q) (fun _ q => q) fun _ _ q => q
    rintro rfl
    rcases hc with rfl | hc
    · rw [I.free] at e; cases e
    · rw [I.free] at hc; cases hc
end
/-! ### handlers -/
abbrev TH := Ends → St → Hp → Addr → Addr → Prop
def PH (X : Cx) (hs : List ExceptHandler) (t : TH) : Prop := ∀ (pins : List (Addr × Obj)) (s : Shared) (σ : St) (H : Hp) (D : Ends) (ea C : Addr) (d : Option Addr), Inv X pins σ H s → H ea = some (XC ea C d) → TrI X pins H ea s.heap → t D σ H C ea →
  wpAny (model X.prog X.w) X.A (handleBy (.ref ea) X.env hs) (SP X pins D) X.xe s
def tNoH : TH := fun _ _ _ _ _ => False
def Ends.less (D : Ends) (i : Nat) : Ends := { nx := fun σ H => D.nx (σ.set i none) H, rt := D.rt, bk := fun σ H => D.bk (σ.set i none) H, ct := fun σ H => D.ct (σ.set i none) H }
def tAs (K : PySem.W.Frag) (B : Addr) (i : Nat) (ts : TS) (tr : TH) : TH := fun D σ H C ea => PySem.W.excMk K C = true ∧ PySem.W.excMk K B = true ∧ ∃ b, PySem.W.mroHas K C (.ref B) = b ∧ if b = true then ts (D.less i) (σ.set i (some (.ref ea))) H else tr D σ H C ea
def tTry (tb : (St → XK) → TS) (th : TH) : TS := fun D σ H => tb (fun σ' c oa H' => ∃ C ea, c = .ref C ∧ oa = some ea ∧ th D σ' H' C ea) D σ H
section
variable {X : Cx}
theorem ph_nil : PH X [] tNoH := fun _ _ _ _ _ _ _ _ _ _ _ h => h.elim
theorem ph_as {x n : Str} {B : Addr} {i : Nat} {b₀ : Stmt} {suite : List Stmt} {ts : TS} {tr : TH} {np hpos : Pos} {rest : List ExceptHandler} (hg : Gl X x) (hm : X.mg x = some (.ref B)) (hN : X.N.Nodup) (hi : X.N[i]? = some n) (hl : X.env.scope.names.lookup n = some .local)
    (hs : ∀ ea, PSs (X.caught ea) (b₀ :: suite) ts) (hr : PH X rest tr) (hd : (x == ("__debug__" : Str)) = false := by decide) : PH X (.ExceptHandler (some (.Name x np)) (some n) (b₀ :: suite) hpos :: rest) (tAs X.K B i ts tr) := by
  intro pins s σ H D ea C d I hx tr h
  obtain ⟨mC, mB, b, hb, h⟩ := h
  have I1 : Inv (X.caught ea) pins σ H s := I.caught
  refine wpAny_handleBy_cons (codeAny_handlers_test (ld_glob I1 hg hm ?_ hd)) (by intro q; cases q)
  obtain ⟨vs, sl, g1⟩ := x_get I.hok (.inr hx)
  refine PySem.W.exc_match (K := X.K) I.kIn mC mB g1 rfl ?_
  rw [hb]
  cases b with
  | false => exact hr pins s σ H D ea C d I hx tr h
  | true =>
    show codeAny _ _ _ _ _
    refine (codeAny_handlers_suite_as ?_)
    obtain ⟨cl, d', vs', sl', T, g1', g2, ⟨nT, oT, ts', gT, dT, h3⟩, g4, g5, g6, g7, g8⟩ := tr
    rw [g1] at g1'
    cases g1'
    unfold setFlight
    refine wpAny_bind (wpAny_field g1 rfl g2 ?_)
    rw [if_pos (by simp)]
    refine wpAny_setField gT dT (Array.getElem?_eq_some_iff.mp h3).1 ?_
    have I2 : Inv (X.caught ea) pins σ H { s with heap := s.heap.update T (Obj.mapFields (·.setIfInBounds 3 ((none : Option Addr).elim Value.none fun f => rawInt f))), toks := s.toks } :=
      I1.turned (it := T) (fun b o hb q => by rw [Heap.get?_update_other _ _ (Ne.symm hb)]; exact q) g5 g6 (.inr g4) g7 g8
    refine store_ok (X := X.caught ea) I2 hN hi (.inl hl) (v := .ref ea) rfl (fun s3 I3 => ?_) (.inr hl)
    refine wpAny_mono (hs ea pins s3 _ H (D.less i) I3 h) (fun f s4 q => ?_) fun _ _ z => False.elim z
    have fin : ∀ {σ' : St} {H' : Hp} {Q : Shared → Prop}, Inv (X.caught ea) pins σ' H' s4 → (∀ s5, Inv X pins (σ'.set i none) H' s5 → Q s5) → wpAny (model X.prog X.w) X.A (do bindName X.env n .none; unbindBehindTheSuite X.env n hpos) (fun _ s5 => Q s5) X.xe s4 := fun {σ' H' Q} J k => by
      have J' := J.uncaught I.ok
      refine wpAny_bind (wpAny_bindName (store_ok J' hN hi (.inl hl) (v := .non) rfl (fun s5 I5 => ?_) (.inr hl)))
      unfold unbindBehindTheSuite
      refine wpAny_onRaise (unbind_ok I5 hN hi hl (List.getElem?_set_self (by rw [J'.len]; exact (List.getElem?_eq_some_iff.mp hi).1)) fun s6 I6 => k s6 ?_)
      rwa [List.set_set] at I6
    cases f with
    | next => obtain ⟨σ', H', J, q⟩ := q; exact fin (Q := fun s5 => SP X pins D .next s5) J fun s5 I5 => ⟨_, H', I5, q⟩
    | brk => obtain ⟨σ', H', J, q⟩ := q; exact fin (Q := fun s5 => SP X pins D .brk s5) J fun s5 I5 => ⟨_, H', I5, q⟩
    | cont => obtain ⟨σ', H', J, q⟩ := q; exact fin (Q := fun s5 => SP X pins D .cont s5) J fun s5 I5 => ⟨_, H', I5, q⟩
    | ret u => obtain ⟨v, σ', H', J, r, q⟩ := q; exact fin (Q := fun s5 => SP X pins D (.ret u) s5) J fun s5 I5 => ⟨v, _, H', I5, r, q⟩
theorem ps_try {body : List Stmt} {h₀ : ExceptHandler} {hs : List ExceptHandler} {pos : Pos} {tb : (St → XK) → TS} {th : TH} (t : Top X)
    (hb : ∀ (ps : List (Addr × Obj)) (xe : Value → Shared → Prop) (G : St → XK), PassesS (X.inTry ps xe) G → PassesOwn (model X.prog X.w) X.A X.env xe → PSs (X.inTry ps xe) body (tb G))
    (hh : PH X (h₀ :: hs) th) : PS X (.Try body (h₀ :: hs) [] [] pos) (tTry tb th) := by
  intro pins s σ H D I h
  have o := I.ok
  refine wpAny_Try_except (thn (hb pins _ _ ?_ PassesOwn.looking [] s σ H D I.inTry h) fun f s1 q => ?_)
  · intro ps2 σ2 H2 s2 e s3 I2 c
    obtain ⟨ea, C, d, H3, rfl, I3, hx, tr, C', ea', e1, e2, q⟩ := I2.flew c
    cases e1
    cases e2
    have tr' : TrI X pins H3 ea s3.heap := let ⟨a1, a2, a3, a4, a5, b1, b2, b3, b4, b5, b6, b7, b8⟩ := tr; ⟨a1, a2, a3, a4, a5, b1, b2, b3, b4, b5, b6, b7, fun p hp => b8 p (List.mem_append_left _ hp)⟩
    exact note_flew t (I3.outTry o) hx tr' fun s4 I4 t4 => hh pins s4 σ2 H3 D ea C d I4 hx t4 q
  · have q' := q.outTry o
    cases f with
    | next => exact wpAny_execs_nil q'
    | brk => exact q'
    | cont => exact q'
    | ret u => exact q'
end
end L2

namespace L2
open PySem PyProof.Rows PySem.Spec PySem.Calls
/-! ### own classes by isinstance; caught refusals; Base.__init__ of own classes -/
def XG (H : Hp) (e C : Addr) (fs : List (Str × V)) : Prop := ∃ dx, IsX H e C (some dx) ∧ H dx = some (XD dx fs) ∧ dx ≠ e
theorem XF.g {H : Hp} {e C : Addr} {fs : List (Str × V)} (x : XF H e C fs) : XG H e C fs := let ⟨d, a, b, c⟩ := x; ⟨d, .inl a, b, c⟩
theorem XG.keep {H H' : Hp} {e C : Addr} {fs : List (Str × V)} (x : XG H e C fs) (k : Same H H') : XG H' e C fs := by
  obtain ⟨d, a, b, c⟩ := x
  rcases a with a | a
  · exact ⟨d, .inl (k _ _ a), k _ _ b, c⟩
  · exact ⟨d, .inr (k _ _ a), k _ _ b, c⟩
/-- a raised one -/
theorem XF.raised {H : Hp} {e C : Addr} {fs : List (Str × V)} (x : XF H e C fs) : ∃ dx, H e = some (XO e C (some dx)) ∧ XG (L2.upd H e (XC e C (some dx))) e C fs :=
  let ⟨d, a, b, c⟩ := x
  ⟨d, a, d, .inr upd_same, by rw [upd_ne c]; exact b, c⟩
def rIsO (K : PySem.W.Frag) : List V → Hp → VK → Prop := fun xs H Q => ∃ x c t b, xs = [x, c] ∧ TyOf K H x t ∧ (∀ u, RelV c u → u = clV c) ∧ PySem.W.kitOne K t (clV c) = some b ∧ Q (.bl b) H
def rIsG (K : PySem.W.Frag) : List V → Hp → VK → Prop := fun xs H Q => ∃ a C fs c b, xs = [.ref a, c] ∧ XG H a C fs ∧ ClsI K C ∧ (∀ u, RelV c u → u = clV c) ∧ PySem.W.kitOne K (.ref C) (clV c) = some b ∧ Q (.bl b) H
def rIsGT (K : PySem.W.Frag) : List V → Hp → VK → Prop := fun xs H Q => ∃ a C fs tp cs b, xs = [.ref a, .ref tp] ∧ XG H a C fs ∧ ClsI K C ∧ H tp = some (.tup cs) ∧ (∀ c ∈ cs, ∀ u, RelV c u → u = clV c) ∧ PySem.W.kitAny K (.ref C) (cs.map clV) = some b ∧ Q (.bl b) H
def tFldG (K : PySem.W.Frag) (ta : TE) (f : Str) : TE := fun σ H Q => ta σ H fun x H1 => ∃ a C fs v, x = .ref a ∧ XG H1 a C fs ∧ ClsX K C ∧ NoAttr K C f ∧ fs.lookup f = some v ∧ Q v H1
section
variable {X : Cx} {e o : Expr} {es : List Expr} {f x : Str} {p pos apos : Pos} {ta : TE} {t : TA} {k : Nat} {ps : List Str} {sp : Sp}
theorem call_isG : CallR X (.builtin "isinstance") (rIsG X.K) := by
  intro pins s σ H xs us Q I r h
  obtain ⟨a, C, fs, c, b, rfl, ⟨dx, ea, ed, _⟩, cl, hc, e, q⟩ := h
  obtain ⟨u, w', rfl, r1, r2⟩ := vals2 r
  cases (show u = Value.ref a from r1)
  cases hc _ r2
  obtain ⟨vs, sl, hx⟩ := x_get I.hok ea
  obtain ⟨_, mA, hn, _, _⟩ := xd_get I.hok ed
  obtain ⟨od, ho, _⟩ := lookIn_ns hn
  exact PySem.W.kia_one (PySem.W.kitx_X (ox := ⟨.ref C, some dx, .fields vs, sl⟩) (od := od) (cl.c.at cl.ca cl.cn cl.ct)) I.kIn ⟨hx, rfl, rfl, ho⟩ e (fun z => nomatch z) fun tk => ⟨.bl b, H, I.tok tk, rfl, q⟩
theorem pe_fldG (he : PE X e ta) (hb : attributeBase e f X.env (eval e X.env) = eval e X.env) : PE X (.Attribute e f pos) (tFldG X.K ta f) := by
  intro pins s σ H Q I h
  refine attr_of hb (thn (he pins s σ H _ I h) fun u s1 ⟨x, H1, I1, rx, a, C, fs, v, ex, ⟨dx, ea, ed, _⟩, c, n, l, q⟩ => ?_)
  subst ex
  obtain rfl : u = Value.ref a := rx
  exact getX_ok I1 ea ed c n l fun u' s2 I2 ru => ⟨v, H1, I2, ru, q⟩
/-- Base.__init__(self, ..), Base an own class with an __init__ of its own -/
structure InO (K : PySem.W.Frag) (B f : Addr) : Prop where
  sp : PySem.W.specialIn K (.ref B) "__getattribute__" = some (some (.builtin "type.__getattribute__"))
  rd : PySem.W.readsIn K B (.type "type") = true
  fc : PySem.W.findCls K (.ref B) (.type "type") "__init__" = some (.val (.ref f))
structure InD (P : Program) (w : World) (K : PySem.W.Frag) (mg : Str → Option Value) (base : Heap) (k : Nat) (x : Str) (B : Addr) (ps : List Str) (sp : Sp) : Prop where
  ex : ∃ f fd, InO K B f ∧ FnOk P w K mg base CX0 k f fd ps sp ∧ Binds K fd ps [] ∧ PySem.W.keepIn K (.ref f) = true ∧ mg x = some (.ref B)
theorem pe_initD {B : Addr} {pl : Sem Bool} (D : InD X.prog X.w X.K X.mg X.base k x B ps sp) (hr : Room k X.A) (hg : Gl X x) (ha : PA X (e :: es) t) (hdb : (x == ("__debug__" : Str)) = false := by decide)
    (hst : starEach (e :: es) X.env = (false, eval e X.env) :: starEach es X.env := by rfl) (hpl : (backTo pos (starEach es X.env)).any (·.1) = false := by rfl)
    (ht : eval (.Call (.Attribute (.Name x p) "__init__" apos) (e :: es) [] pos) X.env = (do
      let ov ← eval (.Name x p) X.env
      standAt apos.atName
      let (f, first) ← holding [ov] (getMethod ov "__init__" pl)
      callWith pos f first (backTo pos (starEach (e :: es) X.env)) (backToKw pos (keywordEach [] X.env))) := by rfl) :
    PE X (.Call (.Attribute (.Name x p) "__init__" apos) (e :: es) [] pos) (tCall sp [] E0 t) := by
  intro pins s σ H Q I h
  obtain ⟨f, fd, J, F, b, kp, hm⟩ := D.ex
  refine PySem.W.methodCall_KW (pl := pl) (ld_glob I hg hm ?_ hdb) ht
  refine PySem.W.method_cls I.kIn J.sp (PySem.W.cls_value I.kIn J.rd J.fc rfl ?_)
  refine PySem.W.callWith_K (first := []) (h₀ := X.base) I.ok.mod.kin kp (thn (ha pos pins _ σ H _ (I.tok (s.toks + 1)) h) fun us s1 ⟨vs, H1, I1, r, q⟩ => ⟨I1.kIn, ?_⟩) hst hpl
  exact run_fn F hr b .nil pass0 I1 r q
theorem pe_makeD0 {C : Addr} (D : MkD X.prog X.w X.K X.mg X.base k x C ps sp) (hr : Room (k + 1) X.A) (hg : Gl X x) (hdb : (x == ("__debug__" : Str)) = false := by decide) : PE X (.Call (.Name x p) [] [] pos) (tMake C sp [] E0 tNil) := by
  obtain ⟨f, fd, M, F, b, m⟩ := D.ex
  exact pe_make0 M F hr hg m b .nil pass0 hdb
end
section
variable {P : Program} {w : World} {K : PySem.W.Frag} {mg : Str → Option Value} {base : Heap} {j k : Nat} {x m : Str} {C : Addr} {ps : List Str} {sp : Sp}
theorem MtE.mono (D : MtE P w K mg base j m C ps sp) (h : j ≤ k) : MtE P w K mg base k m C ps sp := let ⟨f, fd, a, b, c⟩ := D.ex; ⟨f, fd, a, b.mono h, c⟩
theorem DfE.mono (D : DfE P w K mg base j x ps sp) (h : j ≤ k) : DfE P w K mg base k x ps sp := let ⟨f, fd, a, b⟩ := D.ex; ⟨f, fd, a.mono h, b⟩
end
end L2
namespace L2
open PySem PyProof.Rows PySem.Spec PySem.Calls
structure OwnTy (K : PySem.W.Frag) (C : Addr) : Prop where
  ha : PySem.W.findIn K (.ref C) "__class__" = some (some (.builtin "object.__class__"))
  hn : PySem.W.specialIn K (.builtin "object.__class__") "__get__" = some (some (.builtin "getset_descriptor.__get__"))
  tk : PySem.W.takesIn K (.builtin "object.__class__") = some true
  hm : PySem.W.mroIn K C (.type "object") = some true
theorem OwnTy.ty {K : PySem.W.Frag} {C a dx : Addr} {H : Hp} {fs : List (Str × V)} (o : OwnTy K C) (cl : Cls K C) (e : H a = some (.ins C dx fs)) : TyOf K H (.ref a) (.ref C) := .ins e cl o.ha o.hn o.tk o.hm
theorem top_nox {CX : CXT} {P : Program} {w : World} {K : PySem.W.Frag} {mg : Str → Option Value} {base : Heap} {N : List Str} {qual : Str} {scope : Scope} {f : Addr} {cd : Value} {A : Around} {outer : List Env} {s : Shared} {H : Hp} {E : XK} :
    Top (cxOf CX P w K mg base N qual scope f cd A outer s H E).nox := ⟨rfl, rfl, rfl⟩
theorem ixN_nat {n j : Nat} (h : j < n) : ixN n (j : Int) = some j := by
  unfold ixN
  simp [h]
end L2
namespace L2
open PySem PyProof.Rows PySem.Spec PySem.Calls
section
variable {X : Cx} {P : Program} {w : World} {K : PySem.W.Frag} {mg : Str → Option Value} {base : Heap} {G : St → XK} {m : Str} {pos apos : Pos} {e o : Expr} {es : List Expr} {ta : TE} {t : TA}
end
end L2
namespace L2
open PySem PyProof.Rows PySem.Spec PySem.Calls
section
variable {X : Cx} {K : PySem.W.Frag} {e : Expr} {f : Str} {pos : Pos} {ta : TE}
theorem call_isGK (h : X.K = K) : CallR X (.builtin "isinstance") (rIsG K) := h ▸ call_isG
theorem pe_fldGK (h : X.K = K) (he : PE X e ta) (hb : attributeBase e f X.env (eval e X.env) = eval e X.env) : PE X (.Attribute e f pos) (tFldG K ta f) := by
  subst h
  exact pe_fldG he hb
end
end L2

namespace L2
open PySem PySem.Spec PyProof.Rows
/-! ### ranges with a step -/
def Its (lo d : Int) (n : Nat) : It := ⟨fun i _ => i < n, fun i H x H' => H' = H ∧ x = .int (lo + i * d), fun i _ => n ≤ i⟩
section
variable {X : Cx} {tg : Expr}
/-- range(i, j, d), d above 0 -/
def iRng3 (ta : TA) : TI := fun σ H R => ta σ H fun vs H1 => ∃ i j d : Int, vs = [.int i, .int j, .int d] ∧ (-(2 ^ 60) ≤ i ∧ i < 2 ^ 60 ∧ -(2 ^ 60) ≤ j ∧ j < 2 ^ 60 ∧ 0 < d ∧ d < 2 ^ 29) ∧ R (Its i d (if i < j then (j - i - 1) / d + 1 else 0).toNat) H1
end
end L2
namespace L2
open PySem PySem.Spec PyProof.Rows
/-! ### a comprehension whose items are new things -/
def New (H H' : Hp) (G : Hp → Prop) : Prop := ∃ S : Addr → Prop, (∀ b, S b → H b = none ∧ ∃ o, H' b = some o) ∧ ∀ H3, (∀ b, S b → H3 b = H' b) → G H3
theorem compB_mk {J : It} {tc : TT} {te : TE} {σf : Option V → St} {H1 : Hp} {Q : VK} {xs : List V} (S : Seq J H1 xs) (G : V → V → Hp → Prop) (hz : xs.length < sizeLine)
    (hc : ∀ x ∈ xs, ∀ (H' : Hp) (R : Bool → Hp → Prop), Same H1 H' → R true H' → tc (σf (some x)) H' R)
    (he : ∀ x ∈ xs, ∀ (H' : Hp) (R : VK), Same H1 H' → (∀ y H'', Same H' H'' → New H' H'' (G x y) → R y H'') → te (σf (some x)) H' R)
    (q : ∀ D H' ys, Same H1 H' → H1 D = none → H' D = some (.lst ys) → ys.length = xs.length → (∀ (i : Nat) x y, xs[i]? = some x → ys[i]? = some y → G x y H') → Q (.ref D) H') : CompB J tc te σf H1 Q := by
  intro D hD
  refine ⟨fun i m ys H2 => m = xs.length - i ∧ i ≤ xs.length ∧ Same H1 H2 ∧ H2 D = some (.lst ys) ∧ ys.length = i ∧ ∀ (k : Nat) x y, xs[k]? = some x → ys[k]? = some y → ∃ Z : Addr → Prop, (∀ b, Z b → b ≠ D ∧ ∃ o, H2 b = some o) ∧ ∀ H3, (∀ b, Z b → H3 b = H2 b) → G x y H3,
    ⟨xs.length, rfl, Nat.zero_le _, same_new hD _, upd_same, rfl, fun k x y _ e => by simp at e⟩, ?_⟩
  rintro i m ys H2 ⟨rfl, hi, sm, hD2, hl, hg⟩
  refine ⟨hD2, ?_⟩
  by_cases hlt : i < xs.length
  · refine .inr ⟨S.go i H2 sm hlt, by omega, fun x H3 y => ?_⟩
    obtain ⟨e, hx⟩ := S.yld i H2 x H3 sm hlt y
    subst e
    have mem : x ∈ xs := List.mem_of_getElem? hx
    refine hc x mem _ _ sm (iteT (he x mem _ _ sm fun yv H5 s5 ny => ⟨s5 _ _ hD2, xs.length - (i + 1), by omega, rfl, hlt, same_on hD (sm.trans s5) _, upd_same, by rw [List.length_append, hl]; rfl, fun k x' y' ex ey => ?_⟩))
    by_cases hk : k < i
    · rw [List.getElem?_append_left (by omega)] at ey
      obtain ⟨Z, z1, z2⟩ := hg k x' y' ex ey
      refine ⟨Z, fun b hb => ?_, fun H6 h6 => z2 H6 fun b hb => ?_⟩
      · obtain ⟨nb, o, ho⟩ := z1 b hb
        exact ⟨nb, o, by rw [upd_ne nb]; exact s5 _ _ ho⟩
      · obtain ⟨nb, o, ho⟩ := z1 b hb
        rw [h6 b hb, upd_ne nb, s5 _ _ ho, ho]
    · have ek : k = i := by
        have := (List.getElem?_eq_some_iff.mp ey).1
        rw [List.length_append, hl] at this
        have : k < i + 1 := this
        omega
      subst ek
      rw [List.getElem?_append_right (by omega), hl, Nat.sub_self] at ey
      obtain rfl : yv = y' := Option.some.inj ey
      obtain rfl : x = x' := Option.some.inj (hx.symm.trans ex)
      obtain ⟨Z, z1, z2⟩ := ny
      have nD : ∀ b, Z b → b ≠ D := fun b hb e => by
        have := (z1 b hb).1
        rw [e, hD2] at this
        cases this
      refine ⟨Z, fun b hb => ?_, fun H6 h6 => z2 H6 fun b hb => ?_⟩
      · obtain ⟨_, o, ho⟩ := z1 b hb
        exact ⟨nD b hb, o, by rw [upd_ne (nD b hb)]; exact ho⟩
      · rw [h6 b hb, upd_ne (nD b hb)]
  · have e : i = xs.length := by omega
    refine .inl ⟨by rw [e]; exact S.stop H2 sm, q D H2 ys sm hD hD2 (by omega) fun k x y ex ey => ?_⟩
    obtain ⟨Z, _, z2⟩ := hg k x y ex ey
    exact z2 H2 fun _ _ => rfl
end L2
namespace L2
open PySem PySem.Spec PyProof.Rows
/-! ### xs.index(y), of flat things -/
def ofVal : Value → V
  | .bool b => .bl b
  | .int i _ => .int i
  | .str x _ => .str x
  | .bytes b _ => .byt b
  | .float b _ => .flt b
  | .ref a => .ref a
  | .type n => .ty n
  | _ => .non
def rIndex : V → List V → Hp → VK → Prop := fun x vs H Q => ∃ l xs y j, x = .ref l ∧ vs = [y] ∧ H l = some (.lst xs) ∧ xs.all flatV = true ∧ flatV y = true ∧ xs.length ≤ 1000 ∧ j < xs.length ∧ eqV (xs.getD j .non) y = true ∧ (∀ m, m < j → eqV (xs.getD m .non) y = false) ∧ Q (.int (j : Nat)) H
end L2

namespace L2
open PySem PyProof.Rows PySem.Spec PySem.Calls
/-! ### == and != of what is equal all through -/
def rDq (K : PySem.W.Frag) (n : Nat) (b : Bool) : R2 := fun x y H Q => ∃ a c xs ys, x = .ref a ∧ y = .ref c ∧ ((SqL K H a xs ∧ SqL K H c ys) ∨ (SqT K H a xs ∧ SqT K H c ys)) ∧ xs.length = ys.length ∧ (∀ j, j < xs.length → Deq K H n (xs.getD j .non) (ys.getD j .non)) ∧ Q (.bl b) H
theorem in1_units {A : Around} {n : Nat} (h : A.units + (n + 1) < cLine) : A.in1.units + n < cLine := by
  have : A.in1.units = A.units + 1 := by first | rfl | exact Around.units_in1 _
  omega
theorem op_eq_dq {X : Cx} {n : Nat} (hu : X.A.units + (n + 1) < cLine) : OpR X (compareOp .Eq) (rDq X.K n true) := by
  intro pins s σ H x y v u Q I rx ry h
  obtain ⟨a, c, xs, ys, rfl, rfl, hs, hl, he, q⟩ := h
  cases rx
  cases ry
  rcases hs with ⟨h1, h2⟩ | ⟨h1, h2⟩
  · obtain ⟨its, r1, l1, _⟩ := I.list h1
    obtain ⟨jts, r2, l2, _⟩ := I.list h2
    have e1 := r1.length
    have e2 := r2.length
    have := SeqAt.RcAt.lists (A := X.A) (e := fun _ => true) l1.isList l2.isList (by simp; omega) (by omega) (fun j q1 q2 => deq_eqAt I n X.A.in1 _ _ _ _ (in1_units hu) (he j (by simp at q1; omega)) (vals_at r1 j q1) (vals_at r2 j q2))
    rw [show (List.range its.toArray.size).all (fun _ => true) = true from List.all_eq_true.mpr fun _ _ => rfl] at this
    exact this X.prog X.w _ _ ⟨.bl true, H, I, rfl, q⟩
  · obtain ⟨its, r1, l1, _⟩ := I.tuple h1
    obtain ⟨jts, r2, l2, _⟩ := I.tuple h2
    have e1 := r1.length
    have e2 := r2.length
    have := SeqAt.RcAt.tuples (A := X.A) (e := fun _ => true) l1 l2 (by omega) (fun j q1 q2 => deq_eqAt I n X.A.in1 _ _ _ _ (in1_units hu) (he j (by simp at q1; omega)) (vals_at r1 j q1) (vals_at r2 j q2))
    rw [show (List.range (min its.toArray.size jts.toArray.size)).all (fun _ => true) = true from List.all_eq_true.mpr fun _ _ => rfl, Bool.true_and, beq_iff_eq.mpr (by simp; omega)] at this
    exact this X.prog X.w _ _ ⟨.bl true, H, I, rfl, q⟩
theorem op_ne_dq {X : Cx} {n : Nat} (hu : X.A.units + (n + 1) < cLine) : OpR X (compareOp .NotEq) (rDq X.K n false) := by
  intro pins s σ H x y v u Q I rx ry h
  obtain ⟨a, c, xs, ys, rfl, rfl, hs, hl, he, q⟩ := h
  cases rx
  cases ry
  rcases hs with ⟨h1, h2⟩ | ⟨h1, h2⟩
  · obtain ⟨its, r1, l1, _⟩ := I.list h1
    obtain ⟨jts, r2, l2, _⟩ := I.list h2
    have e1 := r1.length
    have e2 := r2.length
    have := SeqAt.RcNeAt.lists (A := X.A) (e := fun _ => true) l1.isList l2.isList (by simp; omega) (by omega) (fun j q1 q2 => deq_eqAt I n X.A.in1 _ _ _ _ (in1_units hu) (he j (by simp at q1; omega)) (vals_at r1 j q1) (vals_at r2 j q2))
    rw [show (List.range its.toArray.size).all (fun _ => true) = true from List.all_eq_true.mpr fun _ _ => rfl] at this
    exact this X.prog X.w _ _ ⟨.bl false, H, I, rfl, q⟩
  · obtain ⟨its, r1, l1, _⟩ := I.tuple h1
    obtain ⟨jts, r2, l2, _⟩ := I.tuple h2
    have e1 := r1.length
    have e2 := r2.length
    have := SeqAt.RcNeAt.tuples (A := X.A) (e := fun _ => true) l1 l2 (by omega) (fun j q1 q2 => deq_eqAt I n X.A.in1 _ _ _ _ (in1_units hu) (he j (by simp at q1; omega)) (vals_at r1 j q1) (vals_at r2 j q2))
    rw [show (List.range (min its.toArray.size jts.toArray.size)).all (fun _ => true) = true from List.all_eq_true.mpr fun _ _ => rfl, Bool.true_and, beq_iff_eq.mpr (by simp; omega)] at this
    exact this X.prog X.w _ _ ⟨.bl false, H, I, rfl, q⟩
end L2
namespace L2
open PySem PyProof.Rows PySem.Spec PySem.Calls
theorem op_in_seqK {X : Cx} {K : PySem.W.Frag} (h : X.K = K) : OpR X (compareOp .In) (rIn K false) := h ▸ op_in_seq
theorem hu_n {A : Around} {k : Nat} (hr : Room k A) (n : Nat) (h : n ≤ 60) : A.units + (n + 1) < cLine := Nat.lt_of_le_of_lt (Nat.add_le_add_left (by omega : n + 1 ≤ 64) _) hr.units
end L2


namespace L2
open PySem PyProof.Rows PySem.Spec PySem.Calls
/-! ### comprehensions over pairs -/
def inSt2 (frees : List (Str × Nat)) (σ : St) (x y : Option V) : St := x :: y :: frees.map fun p => (σ[p.2]?).join
def CompB2 (K : PySem.W.Frag) (J : It) (tc : TT) (te : TE) (σf : Option V → Option V → St) (H1 : Hp) (Q : VK) : Prop := ∀ D, H1 D = none →
  ∃ W : Nat → Nat → List V → Hp → Prop, (∃ m, W 0 m [] (upd H1 D (.lst []))) ∧ ∀ i m ys H2, W i m ys H2 → H2 D = some (.lst ys) ∧
    ((J.stop i H2 ∧ Q (.ref D) H2) ∨ (J.go i H2 ∧ ys.length < sizeLine ∧ ∀ z H3, J.yld i H2 z H3 → ∃ a x x2, z = .ref a ∧ SqT K H3 a [x, x2] ∧ tc (σf (some x) (some x2)) H3 fun b H4 =>
      if b = true then te (σf (some x) (some x2)) H4 fun y H5 => H5 D = some (.lst ys) ∧ ∃ m', m' < m ∧ W (i + 1) m' (ys ++ [y]) (upd H5 D (.lst (ys ++ [y]))) else ∃ m', m' < m ∧ W (i + 1) m' ys H4))
section
variable {X : Cx} {elt iter : Expr} {x x2 : Str} {px px2 tp pos : Pos} {kk : Nat} {ifs : List Expr} {scope : Scope} {frees : List (Str × Nat)} {tc : TT} {te : TE}
structure CompOk2 (X : Cx) (scope : Scope) (x x2 : Str) (frees : List (Str × Nat)) : Prop where
  cell : ∀ y ∈ scope.names, y.2 ≠ .cell
  kind : scope.kind = .function
  own : scope.names.lookup x = some .local
  own2 : scope.names.lookup x2 = some .local
  names : ∀ y ∈ scope.names, y.2 = .local → scope.names.lookup y.1 = some .local
  fr : FreesOk X scope frees
  nd : (x :: x2 :: frees.map (·.1)).Nodup
  cl : ∀ p ∈ scope.names, p.2 = .free → (X.env.cells.lookup p.1).isSome = true
  calm : X.calm = true
theorem comp_core2 {pins : List (Addr × Obj)} {σ : St} {H1 : Hp} {s₂ : Shared} {it : Addr} {fp : List Addr} {tn : Nat → Heap → Prop} {J : It} {Q : VK} {RR : Value → Addr → Result → Shared → Prop} {E : Value → Shared → Prop}
    (O : CompOk2 X scope x x2 frees) (hc : ∀ C ex s₂ H₂, PIfs (compCx X scope (x :: x2 :: frees.map (·.1)) C ex s₂ H₂) ifs tc) (he : ∀ C ex s₂ H₂, PE (compCx X scope (x :: x2 :: frees.map (·.1)) C ex s₂ H₂) elt te)
    (I : Inv X pins σ H1 s₂) (T : Turn X.prog X.w X.K (.Tuple [.Name x px, .Name x2 px2] kk tp) J fp it tn) (st : tn 0 s₂.heap) (hf : ∀ b ∈ fp, FpOk X pins H1 b) (hB : CompB2 X.K J tc te (inSt2 frees σ) H1 Q)
    (hRR : ∀ D C H' s', Inv X pins σ H' s' → (∃ m, s'.heap.Ns C m) → FpOk X pins H' C → Q (.ref D) H' → RR (.ref D) C (.ok .next) s') :
    wpAny (model X.prog X.w) X.A (newList []) (fun acc s₃ => wpAny (model X.prog X.w) X.A (newFunctionEnv scope X.env.globals (closOf X.env.cells scope.names []) [] X.env.qual none .none (some X.env)) (fun cenv s₄ =>
      codeAny (model X.prog X.w) X.A (.compStart (.ListComp elt [⟨.Tuple [.Name x px, .Name x2 px2] kk tp, iter, ifs, 0⟩] scope pos) 0 (.ref it) acc { cenv with scope := relabel scope X.env }) (RR acc cenv.locals) s₄) E s₃) E s₂ := by
  refine wpAny_newObj_type (wpAny_newFunctionEnv O.cell (by intro y hy; simp at hy) (fun h₁ hns₁ hsb₁ => ?_) O.kind)
  dsimp only at hns₁ hsb₁ ⊢
  generalize hH2 : s₂.heap.push { cls := .type "list", dict := none, data := .seq ([] : List Value).toArray } = H2 at hns₁ hsb₁ ⊢
  have hC : H2.objs.size = s₂.heap.objs.size + 1 := by rw [← hH2, Heap.size_push]
  have hDC : s₂.heap.objs.size ≠ H2.objs.size := by rw [hC]; exact Nat.ne_of_lt (Nat.lt_succ_self _)
  have hCle : s₂.heap.objs.size ≤ H2.objs.size := by rw [hC]; exact Nat.le_succ _
  have below : ∀ b, b < s₂.heap.objs.size → b ≠ H2.objs.size ∧ b ≠ s₂.heap.objs.size := fun b hb => ⟨by rw [hC]; exact Nat.ne_of_lt (Nat.lt_succ_of_lt hb), Nat.ne_of_lt hb⟩
  have old : ∀ b o, s₂.heap.get? b = some o → h₁.get? b = some o := fun b o e => hsb₁.extBut b o (below b (Heap.lt_size e)).1 (Heap.get?_push_of_some _ (hH2 ▸ Heap.get?_push_of_some _ e))
  have hacc : h₁.get? s₂.heap.objs.size = some { cls := .type "list", data := .seq ([] : List Value).toArray } := hsb₁.extBut _ _ hDC (Heap.get?_push_of_some _ (hH2 ▸ Heap.get?_push_size _ rfl))
  have nD : H1 s₂.heap.objs.size = none := I.hok.fresh (Nat.le_refl _)
  obtain ⟨W, ⟨m0, w0⟩, hW⟩ := hB s₂.heap.objs.size nD
  -- the block's context and its first state
  let X' : Cx := compCx X scope (x :: x2 :: frees.map (·.1)) H2.objs.size fp s₂ H1
  have inC : ∀ y c, (closOf X.env.cells scope.names []).lookup y = some c → X.env.cells.lookup y = some c := fun y c h => closOf_in scope.names [] O.cl (fun y c h => by cases h) h
  have fpl : ∀ b ∈ fp, b < s₂.heap.objs.size := fun b hb => by
    obtain ⟨o, e, _⟩ := T.obj _ _ st b hb
    exact Heap.lt_size e
  have ok' : X'.Ok := by
    refine ⟨I.ok.mod, O.kind, I.ok.glob, I.ok.blt, hCle, fun y z c h1 h2 => I.ok.inj y z c (inC y c h1) (inC z c h2), fun y hy => ?_, fun y c h _ => (by cases h), I.ok.hd, I.ok.frames, .inl rfl, fun b hb => ?_, I.bs, Nat.le_trans I.ok.bsz I.sz, fun b o e hb => ?_, fun b hb z => ?_, I.stack, I.stkFree⟩
    · exact Option.isSome_iff_exists.mp (closOf_has scope.names [] (.inr (relabel_free O.cell hy)))
    · exact ⟨(below b (fpl b hb)).1, fun y c h => (hf b hb).2.2.2.2.1 y c (inC y c h)⟩
    · rcases (hf b hb).2.2.2.1 with z | z
      · exact I.ok.noex b o e z
      · exact absurd (Nat.lt_of_lt_of_le (Nat.lt_of_lt_of_le (Heap.lt_size e) I.ok.bsz) z) (Nat.lt_irrefl _)
    · exact (List.mem_cons.mp (I.stkSub b z)).elim (hf b hb).2.1 (hf b hb).2.2.1
  have hok1 : HOk X.prog X.w (upd H1 s₂.heap.objs.size (.lst [])) h₁ := I.hok.laid old (Nat.le_refl _) ⟨Nat.zero_le _, [], 0, .nil, hacc⟩
  have I0 : ∀ tk, Inv X' [] (inSt2 frees σ none none) (upd H1 s₂.heap.objs.size (.lst [])) { s₂ with heap := h₁, toks := tk } := fun tk => by
    refine ⟨ok', rfl, I.bare, Un.laid old (Nat.le_refl _) nD, ⟨_, hns₁, fun i y v h1 h2 h3 => ?_⟩, fun y c h => ?_, ?_, fun y c h => ?_, fun p hp => absurd (show p ∈ ([] : List (Addr × Obj)) from hp) (by simp), hok1, ?_⟩
    · cases i with
      | zero =>
        have h2' : (none : Option V) = some v := Option.some.inj h2
        cases h2'
      | succ i =>
      cases i with
      | zero =>
        have h2' : (none : Option V) = some v := Option.some.inj h2
        cases h2'
      | succ j =>
        have h1' : (frees.map (·.1))[j]? = some y := h1
        have h2' : (frees.map fun p => (σ[p.2]?).join)[j]? = some (some v) := h2
        rw [List.getElem?_map] at h1' h2'
        cases e : frees[j]? with
        | none => rw [e] at h1'; cases h1'
        | some p =>
          rw [e] at h1' h2'
          have e1 : p.1 = y := Option.some.inj h1'
          have e2 : (σ[p.2]?).join = some v := Option.some.inj h2'
          obtain ⟨g1, g2, g3, g4⟩ := O.fr.at p (List.mem_of_getElem? e)
          have e3 : σ[p.2]? = some (some v) := by
            cases q : σ[p.2]? with
            | none => rw [q] at e2; cases e2
            | some o => rw [q] at e2; exact congrArg some e2
          obtain ⟨m, hn, hl⟩ := I.loc
          obtain ⟨u, r, l⟩ := hl p.2 p.1 v g1 e3 (.inr (.inl g2))
          refine ⟨u, r, ?_⟩
          rcases l with ⟨k, _⟩ | ⟨_, c, hc1, hc2⟩
          · rw [g2] at k; cases k
          · obtain ⟨c2, hc3⟩ := Option.isSome_iff_exists.mp (closOf_has (cells := X.env.cells) scope.names [] (.inr g4))
            have hc4 := inC _ _ hc3
            rw [hc1] at hc4
            cases hc4
            rw [← e1]
            refine .inr ⟨.inl g3, c, hc3, ?_⟩
            obtain ⟨o, ho, hd⟩ := hc2
            exact ⟨o, old c o ho, hd⟩
    · obtain ⟨v, o, ho, hd⟩ := I.cell y c (inC y c h)
      exact ⟨v, o, old c o ho, hd⟩
    · show upd H1 s₂.heap.objs.size (.lst []) H2.objs.size = none
      rw [upd_ne (Ne.symm hDC)]
      exact I.hok.fresh hCle
    · obtain ⟨v, o, ho, hd⟩ := I.cell y c (inC y c h)
      rw [upd_ne (below c (Heap.lt_size ho)).2]
      exact I.freeC y c (inC y c h)
    · show (inSt2 frees σ none none).length = (x :: x2 :: frees.map (·.1)).length
      simp [inSt2]
  have stat : ∀ {H' : Hp}, (∀ b ∈ fp, H' b = none) → ∀ b ∈ fp, FpOk X' [] H' b := fun hn b hb =>
    ⟨hn b hb, (below b (fpl b hb)).1, fun z => (List.mem_cons.mp (I.stkSub b z)).elim (hf b hb).2.1 (hf b hb).2.2.1, .inl hb, fun y c h => (hf b hb).2.2.2.2.1 y c (inC y c h), fun p hp => absurd (show p ∈ ([] : List (Addr × Obj)) from hp) (by simp)⟩
  have hst₁ : tn 0 h₁ := T.keep _ _ _ st fun b _ o e => old b o e
  have fr0 : ∀ b ∈ fp, (upd H1 s₂.heap.objs.size (.lst [])) b = none := fun b hb => by
    rw [upd_ne (below b (fpl b hb)).2]
    exact (hf b hb).1
  have loop : ∀ tk, codeAny (model X.prog X.w) X.A (.compLoop (.ListComp elt [⟨.Tuple [.Name x px, .Name x2 px2] kk tp, iter, ifs, 0⟩] scope pos) 0 (.ref it) (.ref s₂.heap.objs.size) X'.env) (RR (.ref s₂.heap.objs.size) H2.objs.size) { s₂ with heap := h₁, toks := tk } := fun tk => by
    refine comp_loop (fun n s' => ∃ i ys o o' H', Inv X' [] (inSt2 frees σ o o') H' s' ∧ tn i s'.heap ∧ (∀ b ∈ fp, H' b = none) ∧ W i n ys H') ?_ m0 ⟨0, [], none, none, _, I0 tk, hst₁, fr0, w0⟩
    rintro n s3 ⟨i, ys, o3, o4, H3, I3, st3, fr3, w3⟩
    obtain ⟨hD3, alt⟩ := hW i n ys H3 w3
    rcases alt with ⟨stop, q⟩ | ⟨go, hlt, step⟩
    · refine thn (T.done X' rfl rfl rfl O.calm i [] s3 _ H3 _ I3 (stat fr3) st3 stop) fun r s4 ⟨hr, I4⟩ => ?_
      subst hr
      have J4 : Inv X pins σ H3 s4 := I.call' (ch := fp) I4.os I4.base I4.hok I4.bare fun b hb => ⟨(hf b hb).2.2.2.1, (hf b hb).2.1, (hf b hb).2.2.2.2.1, (hf b hb).2.2.2.2.2⟩
      obtain ⟨m4, hn4, _⟩ := I4.loc
      exact hRR _ _ H3 s4 J4 ⟨m4, hn4⟩ (I.fpOk hCle I4.free) q
    · refine thn (T.item X' rfl rfl rfl O.calm i [] s3 _ H3 _ I3 (stat fr3) st3 go) fun r s4 ⟨u, hr, h4⟩ => ?_
      subst hr
      refine thn h4 fun _ s5 ⟨v, H5, I5, r5, y5, st5, fr5⟩ => ?_
      have I5' := I5.pinned (stat fr5) (T.obj _ _ st5)
      have tail : ∀ {σ7 : St} {H7 : Hp} {s7 : Shared}, Inv X' ([] ++ pinsAt fp s5.heap) σ7 H7 s7 → Inv X' [] σ7 H7 s7 ∧ tn (i + 1) s7.heap ∧ ∀ b ∈ fp, H7 b = none := fun {σ7 H7 s7} I7 => by
        refine ⟨I7.unpinned, T.keep _ _ _ st5 fun b hb o e => (I7.pin (b, o) (List.mem_append_right _ (List.mem_append_right _ (mem_pinsAt hb e)))).1, fun b hb => ?_⟩
        obtain ⟨o, e, d⟩ := T.obj _ _ st5 b hb
        exact (I7.pin (b, o) (List.mem_append_right _ (List.mem_append_right _ (mem_pinsAt hb e)))).2.1
      have g0 : PG X' (.Name x px) (gName 0) := pg_name O.nd rfl (Or.inl (lookup_relabel_local O.own)) (.inr (lookup_relabel_local O.own))
      have g1 : PG X' (.Name x2 px2) (gName 1) := pg_name O.nd rfl (Or.inl (lookup_relabel_local O.own2)) (.inr (lookup_relabel_local O.own2))
      have hg : PG X' (.Tuple [.Name x px, .Name x2 px2] kk tp) (gTup X'.K 2 (gCons (gName 0) (gCons (gName 1) gNil))) := pg_tup O.calm (pgs_cons g0 (pgs_cons g1 pgs_nil))
      obtain ⟨va, v1, v2, ev, sq, step'⟩ := step v _ y5
      refine thn (hg _ s5 _ H5 v u (fun σ6 H6 => σ6 = inSt2 frees σ (some v1) (some v2) ∧ H6 = H5) I5' r5 ⟨va, [v1, v2], ev, sq, rfl, v1, [v2], rfl, v2, [], rfl, rfl, rfl, rfl⟩) fun _ s6 ⟨σ6, H6, I6, e6, e6'⟩ => ?_
      subst e6 e6'
      refine thn (hc _ _ _ _ _ s6 _ _ _ I6 step') fun b s7 ⟨H7, I7, q7⟩ => ?_
      cases b with
      | false =>
        obtain ⟨m', hm, w7⟩ := (show ∃ m', m' < n ∧ W (i + 1) m' ys H7 from q7)
        obtain ⟨t1, t2, t3⟩ := tail I7
        exact ⟨m', hm, i + 1, ys, some v1, some v2, H7, t1, t2, t3, w7⟩
      | true =>
        refine thn (he _ _ _ _ _ s7 _ _ _ I7 q7) fun y s8 ⟨y', H8, I8, r8, hD8, m', hm, w8⟩ => ?_
        refine thn (mt_append (X := X') _ s8 _ H8 (.ref s₂.heap.objs.size) [y'] _ [y] (fun _ H9 => H9 = upd H8 s₂.heap.objs.size (.lst (ys ++ [y']))) I8 rfl (.cons r8 .nil) ⟨_, _, _, rfl, rfl, hD8, hlt, rfl⟩) fun _ s9 ⟨_, H9, I9, _, e9⟩ => ?_
        subst e9
        obtain ⟨t1, t2, t3⟩ := tail I9
        exact ⟨m', hm, i + 1, ys ++ [y'], some v1, some v2, _, t1, t2, t3, w8⟩
  exact codeAny_compStart_list (loop _) (T.self _ 0 _ _ _ hst₁ (loop _))
/-- [elt for x in iter if ..] -/
def tComp2 (K : PySem.W.Frag) (frees : List (Str × Nat)) (tc : TT) (te : TE) (wi : TI) : TE := fun σ H Q => wi σ H fun J H1 => CompB2 K J tc te (inSt2 frees σ) H1 Q
/-- y = [elt for x in iter if ..], y a local of the def -/
theorem ps_comp2 {wi : TI} {i : Nat} {y : Str} {py spos : Pos} (O : CompOk2 X scope x x2 frees) (hN : X.N.Nodup) (hiy : X.N[i]? = some y) (hy : X.env.kindOf y = some .local) (hsw : swapsWith (.ListComp elt [⟨.Tuple [.Name x px, .Name x2 px2] kk tp, iter, ifs, 0⟩] scope pos) (some (.Name y py)) spos.line X.env = pure true)
    (hi : PI X (.Tuple [.Name x px, .Name x2 px2] kk tp) iter wi) (hc : ∀ C ex s₂ H₂, PIfs (compCx X scope (x :: x2 :: frees.map (·.1)) C ex s₂ H₂) ifs tc) (he : ∀ C ex s₂ H₂, PE (compCx X scope (x :: x2 :: frees.map (·.1)) C ex s₂ H₂) elt te)
    (hs : ∀ x, foldedSetIterable iter X.env x = pure x := by intro _; rfl) : PS X (.Assign [.Name y py] (.ListComp elt [⟨.Tuple [.Name x px, .Name x2 px2] kk tp, iter, ifs, 0⟩] scope pos) spos) (tAsg (tComp2 X.K frees tc te wi) (gName i)) := by
  intro pins s σ H D I h
  rw [exec_Assign_Name_used _ _ _ _ hsw]
  refine wpAny_bind (wpAny_standAt (wpAny_bind ?_))
  show wpAny _ X.A (do let _ ← comprehension (.ListComp elt [⟨.Tuple [.Name x px, .Name x2 px2] kk tp, iter, ifs, 0⟩] scope pos) scope X.env _ (newList []) false (eval iter X.env) (some (assign (.Name y py) X.env))) _ _ s
  refine wpAny_bind (wpAny_mono (wpAny_comprehension_free (use := some (assign (.Name y py) X.env)) (Q := fun _ s' => SP X pins D .next s') rfl hs (closureFor_of O.cl) O.kind O.names
    (thn (hi pins s σ H _ I h) fun xv s₁ h₁ => thn h₁ fun itv s₂ h₂ => ?_)) (fun _ s' hq => wpAny_pure (wpAny_pure hq)) fun _ _ e => e)
  obtain ⟨it, fp, tn, J, H2, e, I2, T, st2, f2, hB⟩ := h₂
  subst e
  refine comp_core2 (RR := fun acc C => compPost (model X.prog X.w) X.A X.xe (some (assign (.Name y py) X.env)) (fun _ s' => SP X pins D .next s') acc C) O hc he I2 T st2 f2 hB ?_
  intro A C H' s' I' hn hC q
  obtain ⟨m, hn⟩ := hn
  obtain ⟨oC, es, ep, hoC, hdC, hr⟩ := id hn
  have I'' : Inv X (pins ++ [(C, oC)]) σ H' s' := I'.pins_of fun p hp => (List.mem_append.mp hp).elim (fun z => I'.pin p (List.mem_append_right _ z)) fun z => by
    rw [List.mem_singleton.mp z]
    exact ⟨hoC, hC.1, hC.2.1, hC.2.2.1, fun v e => by rw [hdC] at e; cases e⟩
  show wpAny _ X.A (assign (.Name y py) X.env (.ref A)) _ _ _
  refine wpAny_assign_Name (store_ok I'' hN hiy (.inl hy) (v := .ref A) rfl (fun s3 I3 => ?_) (.inr hy))
  have hC3 := (I3.pin (C, oC) (List.mem_append_right _ (List.mem_append_right _ (List.mem_singleton.mpr rfl)))).1
  have J3 : Inv X pins (σ.set i (some (.ref A))) H' s3 := I3.unpinned
  refine ⟨m, ⟨oC, es, ep, hC3, hdC, hr⟩, fun h' hs' => ?_⟩
  exact ⟨_, H', J3.turned (t' := s3.toks) (fun b o hb e => hs'.extBut b o hb e) hC.1 hC.2.1 hC.2.2.2.1 hC.2.2.2.2.1 hC.2.2.2.2.2, q⟩
end
end L2

namespace L2
open PySem PySem.Spec PyProof.Rows
/-! ### list(range(i, j)) -/
def rngV (i : Int) (n : Nat) : List V := (List.range n).map fun k => V.int (i + (k : Nat))
section
variable {X : Cx}
def tListRange (ta : TA) : TE := fun σ H Q => ta σ H fun vs H1 => ∃ i j : Int, vs = [.int i, .int j] ∧ (-(2 ^ 62) ≤ i ∧ i < 2 ^ 62 ∧ -(2 ^ 62) ≤ j ∧ j < 2 ^ 62) ∧ (j - i).toNat ≤ sizeLine ∧ (j - i).toNat ≤ 2 ^ 24 ∧ ∀ l, H1 l = none → Q (.ref l) (upd H1 l (.lst (rngV i (j - i).toNat)))
end
end L2
namespace L2
open PySem PySem.Spec PyProof.Rows
def rListOf (K : PySem.W.Frag) : List V → Hp → VK → Prop := fun xs H Q => ∃ p ys, xs = [.ref p] ∧ (SqL K H p ys ∨ SqT K H p ys) ∧ ∀ l, H l = none → Q (.ref l) (upd H l (.lst ys))
end L2

namespace PySem
open Sem (wp)
theorem list_keys_miss : typeLookup (.type "list") "keys" = pure none := am_miss_of_fast (by decide +kernel)
theorem noKeys_list {prog : Program} {w : World} {A : Around} {E : Value → Shared → Prop} {s : Shared} {a : Addr} {xs : Array Value} {n : Nat} {Q : Option Value → Shared → Prop}
    (hx : s.heap.get? a = some { cls := .type "list", dict := none, data := .seq xs n }) (hA : A.handled = none)
    (h : ∀ h' tk, (∀ b ob, s.heap.get? b = some ob → h'.get? b = some ob) → Q none { s with heap := h', toks := tk }) :
    wpAny (model prog w) A (getAttr? (.ref a) "keys") Q E s := by
  obtain ⟨hp, g, d, tk, os⟩ := s
  have hT : ∀ tk', (⟨hp, g, d, tk', os⟩ : Shared).TypeIs (.ref a) "list" := fun _ => ⟨_, hx, rfl⟩
  have g1 := sub_AttributeError
  have g3 := F.slot_list_getattribute.lookup
  have g4 := F.slot_list_getattribute.bind (.ref a)
  have g5 := am_list_getattr_none
  unfold getAttr? getAttrBy? getAttrBy
  repeat (any_goals (first | assumption | exact hT _ | ((with_reducible show wpAny _ _ (call (Value.builtin "list.__getattribute__") _ _) _ _ _); refine call_meets F.slot_list_getattribute (hT _) am_entry_list_getattribute (F.args_list_getattribute_2 _ _) (meets_getattribute_miss_list a xs n _ "keys" _ list_keys_miss (by decide +kernel) (by size_fits)) ⟨hx, hA, fun h' tk' e hx => ?_⟩) | wp_step))
  obtain ⟨t', u', he⟩ := hx.there
  show wpAny (model prog w) A (getattributeRaised _ _ _ _ _ _ _) _ _ _
  have hTe : ∀ tk', (⟨h', g, d, tk', os⟩ : Shared).TypeIs (.ref e) "AttributeError" := fun _ => ⟨_, he, rfl⟩
  unfold getattributeRaised
  repeat (any_goals (first | assumption | exact hTe _ | wp_step))
  exact h _ _ hx.keeps
end PySem

namespace PySem
open Sem (wp)
theorem entry_pairs_loop : entryFor table "dict.update.loop" = some Builtin.«dict.update.loop» := entryFor_of_tree (by kernel_rfl)
theorem plain_pairs_loop : plainId "dict.update.loop" = true := by decide +kernel
section
variable {prog : Program} {w : World} {K : Type} [DecidableEq K] {knd : KeyKind prog w K} {A : Around} {R : Result → Shared → Prop}
/-- the pairs, put in one behind another -/
def putAll (ps : List (K × Value)) : List (K × Value) := ps.foldl (fun acc p => stored acc p.1 p.2) []
theorem stored_few (kvs : List (K × Value)) (k : K) (v : Value) : (stored kvs k v).length ≤ kvs.length + 1 := by
  unfold stored
  split
  · rw [List.length_map]; exact Nat.le_succ _
  · rw [List.length_append]; exact Nat.le_refl _
theorem putAll_snoc (ps : List (K × Value)) (p : K × Value) : putAll (ps ++ [p]) = stored (putAll ps) p.1 p.2 := by
  unfold putAll
  rw [List.foldl_append]
  rfl
theorem foldl_few : ∀ (ps acc : List (K × Value)), (ps.foldl (fun acc p => stored acc p.1 p.2) acc).length ≤ acc.length + ps.length
  | [], _ => Nat.le_refl _
  | p :: r, acc => by
    have h1 := foldl_few r (stored acc p.1 p.2)
    have h2 := stored_few acc p.1 p.2
    rw [List.foldl_cons, List.length_cons]
    omega
theorem pairs_loop {h₀ : Heap} {l it D : Addr} {items : Array Value} {ps : List (K × Value)} (hA : A.handled = none) (hl : h₀.IsList l items) (nit : h₀.get? it = none) (nD : h₀.get? D = none) (ne : it ≠ D)
    (hn : items.size = ps.length) (hi : ∀ (i : Nat) p, ps[i]? = some p → ∃ t key, items[i]? = some (.ref t) ∧ knd.is p.1 key = true ∧ h₀.IsTuple t #[key, p.2]) (hz : ps.length ≤ sizeLine) :
    ∀ (k i : Nat) (s : Shared) (tk : Tok), ps.length - i = k → i ≤ ps.length → s.heap.IsListIter it l i → (∀ b o, h₀.get? b = some o → s.heap.get? b = some o) → s.heap.DictOf knd D (putAll (ps.take i)) →
      (∀ h' tk', (∀ b o, b ≠ it → b ≠ D → s.heap.get? b = some o → h'.get? b = some o) → h'.DictOf knd D (putAll ps) → R (.ok (.ret .none)) { s with heap := h', toks := tk' }) →
      codeAny (model prog w) A (.builtin "dict.update.loop" ⟨[.ref D, .ref it, .int i tk, .none], []⟩) R s := by
  intro k
  induction k with
  | zero =>
    intro i s tk hk hi' hit kp hD hR
    have e : i = ps.length := by omega
    subst e
    refine codeAny_builtin entry_pairs_loop ?_
    rw [Around.under_plainId plain_pairs_loop _]
    show wpAny _ A.in1 (pyNext (.ref it) >>= _) _ _ s
    refine wpAny_bind (wpAny_pyNext_list_end (i := ps.length) (items := items) hA hit ?_ ?_ fun h' hx => ?_)
    · exact let ⟨o, ho, r⟩ := hl; ⟨o, kp _ _ ho, r⟩
    · exact Array.getElem?_eq_none (by omega)
    · show wpAny _ A.in1 (Builtin.Dict.addKeywords D [] >>= fun _ => ret Value.none) _ _ _
      refine wpAny_bind (wpAny_pure (wpAny_pure (hR h' s.toks (fun b o nb _ e => hx b o nb e) ?_)))
      rw [List.take_length] at hD
      exact hD.extBut hx (Ne.symm ne)
  | succ k ih =>
    intro i s tk hk hi' hit kp hD hR
    obtain ⟨p, hp⟩ : ∃ p, ps[i]? = some p := ⟨_, List.getElem?_eq_getElem (by omega)⟩
    obtain ⟨t, key, ht, hkey, htup⟩ := hi i p hp
    refine codeAny_builtin entry_pairs_loop ?_
    rw [Around.under_plainId plain_pairs_loop _]
    show wpAny _ A.in1 (pyNext (.ref it) >>= _) _ _ s
    refine wpAny_bind (wpAny_pyNext_list_item (i := i) (items := items) hit (let ⟨o, ho, r⟩ := hl; ⟨o, kp _ _ ho, r⟩) ht fun h' hit' hs => ?_)
    have kp' : ∀ b o, h₀.get? b = some o → h'.get? b = some o := fun b o e => (hs.2 b (fun z => by rw [z, nit] at e; cases e)).trans (kp b o e)
    obtain ⟨ot, hot, hct, nt, hdt⟩ := htup
    have hot' := kp' _ _ hot
    have hT : (⟨h', s.gens, s.drawn, s.toks, s.os⟩ : Shared).TypeIs (.ref t) "tuple" := ⟨_, hot', hct⟩
    have tk1 : ps.take (i + 1) = ps.take i ++ [p] := by rw [List.take_add_one, hp]; rfl
    have pz : (putAll (ps.take i)).length ≤ sizeLine := by
      have h1 := foldl_few (ps.take i) []
      rw [List.length_take] at h1
      unfold putAll
      simp only [List.length_nil] at h1
      omega
    show wpAny _ A.in1 (holding [Value.ref t] _ >>= _) _ _ _
    refine wpAny_bind (wpAny_holding ?_)
    refine wpAny_bind (wpAny_tryCatch ?_)
    unfold Builtin.Dict.pairItems
    refine wpAny_bind (wpAny_typeOf hT ?_)
    rw [if_pos (by decide)]
    refine wpAny_bind (wpAny_seqItems hot' hdt (wpAny_pure ?_))
    show wpAny _ A.in1 (holding [key, p.2] (dictSet D key p.2)) _ _ _
    refine wpAny_holding ?_
    have hD' : Heap.DictOf knd h' D (putAll (ps.take i)) := hD.sameBut hs (Ne.symm ne)
    refine wpAny_dictSet_pairs (s := ⟨h', s.gens, s.drawn, s.toks, s.os⟩) (hsz := pz) hkey hD' fun h2 hD2 hs2 => ?_
    rw [← putAll_snoc, ← tk1] at hD2
    refine wpAny_pure ⟨plainId_quiet plain_pairs_loop _, ?_⟩
    have hit2 : h2.IsListIter it l (i + 1) := let ⟨o, ho, r⟩ := hit'; ⟨o, (hs2.2 it ne).trans ho, r⟩
    refine ih (i + 1) ⟨h2, s.gens, s.drawn, s.toks + 1, s.os⟩ 0 (by omega) (by omega) hit2 (fun b o e => (hs2.2 b (fun z => by rw [z, nD] at e; cases e)).trans (kp' b o e)) hD2 fun h3 tk3 k3 hD3 => ?_
    exact hR h3 tk3 (fun b o n1 n2 e => k3 b o n1 n2 ((hs2.2 b n2).trans ((hs.2 b n1).trans e))) hD3
theorem dict_of_pairs {E : Value → Shared → Prop} {s : Shared} {l : Addr} {items : Array Value} {n : Nat} {ps : List (K × Value)} {Q : Value → Shared → Prop} (hA : A.handled = none) (hx : s.heap.get? l = some { cls := .type "list", dict := none, data := .seq items n })
    (hn : items.size = ps.length) (hi : ∀ (i : Nat) p, ps[i]? = some p → ∃ t key, items[i]? = some (.ref t) ∧ knd.is p.1 key = true ∧ s.heap.IsTuple t #[key, p.2]) (hz : ps.length ≤ sizeLine)
    (h : ∀ h' tk, (∀ b o, s.heap.get? b = some o → h'.get? b = some o) → h'.DictOf knd s.heap.objs.size (putAll ps) → Q (.ref s.heap.objs.size) { s with heap := h', toks := tk }) :
    wpAny (model prog w) A (call (.type "dict") [.ref l]) Q E s := by
  refine callType_codes (Q₁ := fun obj s₁ => obj = .ref s.heap.objs.size ∧ s₁ = { s with heap := s.heap.push { cls := .type "dict", data := .dict #[] } }) F.kt_called_dict (F.kt_typeCall_dict_1 _) F.entry_dict_init (kt_code_dict_new _ ⟨rfl, rfl⟩) ?_
  rintro obj s₁ ⟨rfl, rfl⟩
  have hnew : (s.heap.push { cls := .type "dict", data := .dict #[] }).DictOf knd s.heap.objs.size [] := Heap.DictOf.new s.heap
  have hx' : (s.heap.push { cls := .type "dict", data := .dict #[] }).get? l = some { cls := .type "list", dict := none, data := .seq items n } := Heap.get?_push_of_some _ hx
  refine ⟨hnew.typeIs, F.args_dict_init_2 _ _, ?_⟩
  unfold Builtin.«dict.__init__»
  refine wpAny_bind ?_
  unfold Builtin.Dict.selfAndRest
  refine wpAny_bind (wpAny_notOrdered_dict hnew.typeIs ?_)
  show wpAny _ _ (pure (s.heap.objs.size, [Value.ref l])) _ _ _
  refine wpAny_pure ?_
  show wpAny _ _ (Builtin.Dict.updateFrom "dict.__init__" s.heap.objs.size (.ref l) [] .none) _ _ _
  unfold Builtin.Dict.updateFrom
  refine wpAny_bind (wpAny_typeOf (T := "list") ⟨_, hx', rfl⟩ ?_)
  rw [if_pos (by decide)]
  refine wpAny_bind (noKeys_list hx' hA fun h1 tk1 k1 => ?_)
  simp only [Option.isNone_none, if_true]
  refine wpAny_bind (wpAny_rule (wpAny_bind (wpAny_pyIter_list (items := items) ⟨_, k1 _ _ hx', rfl, n, rfl⟩ ?_)))
  have hsz : s.heap.objs.size < h1.objs.size := by
    obtain ⟨o, _, _, ho, _⟩ := hnew
    exact Heap.lt_size (k1 _ _ ho)
  refine wpAny_pure ⟨plainId_quiet plain_pairs_loop _, ?_⟩
  have keep : ∀ b o, s.heap.get? b = some o → (h1.push { cls := .type "list_iterator", data := .fields #[.ref l, .int 0 0] }).get? b = some o := fun b o e => Heap.get?_push_of_some _ (k1 _ _ (Heap.get?_push_of_some _ e))
  refine pairs_loop (A := A.in1) (R := wants (fun r s₂ => r = Value.none ∧ Q (Value.ref s.heap.objs.size) s₂) E) (h₀ := s.heap) (l := l) (items := items) (ps := ps) hA ⟨_, hx, rfl, n, rfl⟩ (Heap.get?_none_of_le (Nat.le_of_lt hsz)) (Heap.get?_none_of_le (Nat.le_refl _)) (Ne.symm (Nat.ne_of_lt hsz)) hn hi hz ps.length 0 ⟨h1.push { cls := .type "list_iterator", data := .fields #[.ref l, .int 0 0] }, s.gens, s.drawn, tk1, s.os⟩ 0 (Nat.sub_zero _) (Nat.zero_le _) ⟨_, Heap.get?_push_size _ rfl, rfl, rfl⟩ keep ?_ fun h' tk' k' hD' => ?_
  · obtain ⟨o, es, ep, ho, r⟩ := hnew
    exact ⟨o, es, ep, Heap.get?_push_of_some _ (k1 _ _ ho), r⟩
  · refine ⟨rfl, h h' tk' (fun b o e => k' b o ?_ ?_ (keep b o e)) hD'⟩
    · intro z
      exact absurd (Heap.lt_size e) (by rw [z]; exact Nat.not_lt.mpr (Nat.le_of_lt hsz))
    · intro z
      exact absurd (Heap.lt_size e) (by rw [z]; exact Nat.lt_irrefl _)
end
end PySem
namespace L2
open PySem PySem.Spec PyProof.Rows
theorem kv_mk : ∀ {kvs : List (Key × V)} {us : List Value}, (kvs.map (·.2)).length = us.length → (∀ (i : Nat) q u, kvs[i]? = some q → us[i]? = some u → RelV q.2 u) → ∃ vs : List (Key × Value), KV kvs vs ∧ vs.map (·.1) = kvs.map (·.1) ∧ vs.map (·.2) = us
  | [], [], _, _ => ⟨[], .nil, rfl, rfl⟩
  | q :: r, u :: us, e, h => by
    obtain ⟨vs, h1, h2, h3⟩ := kv_mk (kvs := r) (us := us) (Nat.succ.inj e) fun i q u e1 e2 => h (i + 1) q u e1 e2
    exact ⟨(q.1, u) :: vs, .cons ⟨rfl, h 0 q u rfl rfl⟩ h1, by rw [List.map_cons, List.map_cons, h2], by rw [List.map_cons, h3]⟩
  | [], _ :: _, e, _ => nomatch e
  | _ :: _, [], e, _ => nomatch e
def rDictPairs (K : PySem.W.Frag) : List V → Hp → VK → Prop := fun xs H Q => ∃ p ts kvs, xs = [.ref p] ∧ H p = some (.lst ts) ∧ ts.length = kvs.length ∧ (∀ (i : Nat) y (q : Key × V), ts[i]? = some y → kvs[i]? = some q → ∃ t, y = .ref t ∧ SqT K H t [kV q.1, q.2]) ∧ (kvs.map (·.1)).Nodup ∧
  ∀ d, H d = none → Q (.ref d) (upd H d (.dK kvs))
theorem call_dict_pairs {X : Cx} (hc : X.calm = true) : CallR X (.type "dict") (rDictPairs X.K) := by
  intro pins s σ H xs us Q I r h
  obtain ⟨p, ts, kvs, rfl, hp, lt, ht, nd, q⟩ := h
  obtain ⟨u, rfl, rx⟩ := vals1 r
  cases rx
  obtain ⟨hz, its, n, rv, e⟩ := Rd.ok (u := .lst ts) (.inl hp) I.hok
  have li := rv.length
  have at1 : ∀ (i : Nat) q, kvs[i]? = some q → ∃ t key w', its[i]? = some (.ref t) ∧ RelV (kV q.1) key ∧ RelV q.2 w' ∧ s.heap.IsTuple t #[key, w'] := fun i q eq => by
    have hi : i < kvs.length := (List.getElem?_eq_some_iff.mp eq).1
    obtain ⟨y, ey⟩ : ∃ y, ts[i]? = some y := ⟨_, List.getElem?_eq_getElem (by omega)⟩
    obtain ⟨t, rfl, hq⟩ := ht i y q ey eq
    obtain ⟨u, eu, ru⟩ := Vals.get rv ey
    cases ru
    obtain ⟨jt, rj, tj, _⟩ := I.tuple hq
    cases rj with
    | cons r1 rr =>
      cases rr with
      | cons r2 rr =>
        cases rr
        exact ⟨t, _, _, eu, r1, r2, tj⟩
  obtain ⟨ws, lw, gw⟩ : ∃ ws : List Value, ws.length = kvs.length ∧ ∀ (i : Nat) q u, kvs[i]? = some q → ws[i]? = some u → RelV q.2 u ∧ ∃ t key, its[i]? = some (.ref t) ∧ RelV (kV q.1) key ∧ s.heap.IsTuple t #[key, u] := by
    have ch : ∀ i : Fin kvs.length, ∃ w', RelV (kvs[i]).2 w' ∧ ∃ t key, its[i.1]? = some (.ref t) ∧ RelV (kV (kvs[i]).1) key ∧ s.heap.IsTuple t #[key, w'] := fun i => by
      obtain ⟨t, key, w', h1, h2, h3, h4⟩ := at1 i.1 kvs[i] (List.getElem?_eq_getElem i.2)
      exact ⟨w', h3, t, key, h1, h2, h4⟩
    refine ⟨List.ofFn fun i => Classical.choose (ch i), List.length_ofFn, fun i q u e1 e2 => ?_⟩
    obtain ⟨hi, rfl⟩ := List.getElem?_eq_some_iff.mp e1
    rw [List.getElem?_ofFn, dif_pos hi] at e2
    obtain rfl := Option.some.inj e2
    exact Classical.choose_spec (ch ⟨i, hi⟩)
  obtain ⟨vs, kv, k1, k2⟩ := kv_mk (kvs := kvs) (us := ws) (by rw [List.length_map, lw]) fun i q u e1 e2 => (gw i q u e1 e2).1
  have lv : vs.length = kvs.length := by rw [← List.length_map (f := (·.1)), k1, List.length_map]
  refine dict_of_pairs (knd := mixKind X.prog X.w) (ps := vs) (I.ok.hd hc) e (by rw [List.size_toArray]; omega) (fun i p ep => ?_) (by omega) fun h' tk keep hd => ?_
  · have hi : i < vs.length := (List.getElem?_eq_some_iff.mp ep).1
    have e1 : kvs[i]? = some kvs[i] := List.getElem?_eq_getElem (by omega)
    have e2 : ws[i]? = some p.2 := by rw [← k2, List.getElem?_map, ep]; rfl
    have e3 : kvs[i].1 = p.1 := by
      have h1 : (vs.map (·.1))[i]? = some p.1 := by rw [List.getElem?_map, ep]; rfl
      rw [k1, List.getElem?_map, e1] at h1
      exact Option.some.inj h1
    obtain ⟨_, t, key, h1, h2, h3⟩ := gw i _ _ e1 e2
    refine ⟨t, key, by rw [List.getElem?_toArray]; exact h1, ?_, h3⟩
    rw [← e3]
    exact kV_is h2
  · rw [show putAll vs = vs from merged_nil_of_nodup vs (by rw [k1]; exact nd)] at hd
    refine ⟨.ref s.heap.objs.size, _, I.laid (t' := tk) keep (Nat.le_refl _) (dk_new (by omega) (beq_eq_false_iff_ne.mpr (Ne.symm (Nat.ne_of_lt I.big))) kv hd), rfl, q _ (I.hok.fresh (Nat.le_refl _))⟩
def rDictOf : List V → Hp → VK → Prop := fun xs H Q => ∃ a kvs, xs = [.ref a] ∧ Rd H a (.dK kvs) ∧ ∀ d, H d = none → Q (.ref d) (upd H d (.dK kvs))
theorem call_dict_copy {X : Cx} : CallR X (.type "dict") rDictOf := by
  intro pins s σ H xs us Q I r h
  obtain ⟨a, kvs, rfl, e, q⟩ := h
  obtain ⟨u, rfl, rx⟩ := vals1 r
  cases rx
  exact d_copyOf I e fun p s' hp I' => ⟨.ref p, _, I', rfl, q p hp⟩
theorem bt_dict : bootBuiltins "dict" = some (.type "dict") := by decide +kernel
end L2

namespace L2
open PySem PyProof.Rows PySem.Spec PySem.Calls
/-! ### xs[i] op= v -/
section
variable {X : Cx}
def rGetL : V → V → Hp → VK → Prop := fun o i H Q => ∃ p xs k, o = .ref p ∧ i = .int k ∧ H p = some (.lst xs) ∧ 0 ≤ k ∧ k < ((xs.length : Nat) : Int) ∧ ∀ v, xs[k.toNat]? = some v → Q v H
/-! ### tuples of flat things, as long as each other: == and != -/
def rEqT (K : PySem.W.Frag) (neg : Bool) : R2 := fun x y H Q => ∃ p q xs ys, x = .ref p ∧ y = .ref q ∧ SqT K H p xs ∧ SqT K H q ys ∧ xs.length = ys.length ∧ xs.all flatV = true ∧ ys.all flatV = true ∧ Q (.bl (if neg then !eqVs xs ys else eqVs xs ys)) H
end
end L2

namespace L2
open PySem PySem.Spec PyProof.Rows
/-! ### except X: without a name -/
section
variable {X : Cx}
def tPl (K : PySem.W.Frag) (B : Addr) (ts : TS) (tr : TH) : TH := fun D σ H C ea => PySem.W.excMk K C = true ∧ PySem.W.excMk K B = true ∧ ∃ b, PySem.W.mroHas K C (.ref B) = b ∧ if b = true then ts D σ H else tr D σ H C ea
end
end L2

namespace L2
open PySem PyProof.Rows PySem.Spec PySem.Calls
/-! ### a list or a tuple is no string -/
section
variable {X : Cx}
def rNeS (K : PySem.W.Frag) : R2 := fun x y H Q => (∃ a i xs, x = .ref a ∧ y = .str i ∧ (SqL K H a xs ∨ SqT K H a xs) ∧ Q (.bl true) H) ∨ rNe x y H Q
/-! ### the smaller of a pair -/
end
end L2

namespace L2
open PySem PySem.Spec PyProof.Rows
/-! ### a comprehension with a condition whose items are new things -/
theorem compB_mkf {J : It} {tc : TT} {te : TE} {σf : Option V → St} {H1 : Hp} {Q : VK} {xs : List V} (S : Seq J H1 xs) (p : V → Bool) (G : V → V → Hp → Prop) (hz : xs.length < sizeLine)
    (hc : ∀ x ∈ xs, ∀ (H' : Hp) (R : Bool → Hp → Prop), Same H1 H' → (∀ H'', Same H' H'' → R (p x) H'') → tc (σf (some x)) H' R)
    (he : ∀ x ∈ xs, ∀ (H' : Hp) (R : VK), Same H1 H' → p x = true → (∀ y H'', Same H' H'' → New H' H'' (G x y) → R y H'') → te (σf (some x)) H' R)
    (q : ∀ D H' ys, Same H1 H' → H1 D = none → H' D = some (.lst ys) → ys.length = (xs.filter p).length → (∀ (i : Nat) x y, (xs.filter p)[i]? = some x → ys[i]? = some y → G x y H') → Q (.ref D) H') : CompB J tc te σf H1 Q := by
  intro D hD
  refine ⟨fun i m ys H2 => m = xs.length - i ∧ i ≤ xs.length ∧ Same H1 H2 ∧ H2 D = some (.lst ys) ∧ ys.length = ((xs.take i).filter p).length ∧ ∀ (k : Nat) x y, ((xs.take i).filter p)[k]? = some x → ys[k]? = some y → ∃ Z : Addr → Prop, (∀ b, Z b → b ≠ D ∧ ∃ o, H2 b = some o) ∧ ∀ H3, (∀ b, Z b → H3 b = H2 b) → G x y H3,
    ⟨xs.length, rfl, Nat.zero_le _, same_new hD _, upd_same, rfl, fun k x y _ e => by simp at e⟩, ?_⟩
  rintro i m ys H2 ⟨rfl, hi, sm, hD2, hl, hg⟩
  refine ⟨hD2, ?_⟩
  by_cases hlt : i < xs.length
  · refine .inr ⟨S.go i H2 sm hlt, ?_, fun x H3 y => ?_⟩
    · rw [hl]
      refine Nat.lt_of_le_of_lt (List.length_filter_le _ _) ?_
      rw [List.length_take]
      omega
    obtain ⟨e, hx⟩ := S.yld i H2 x H3 sm hlt y
    subst e
    have mem : x ∈ xs := List.mem_of_getElem? hx
    refine hc x mem _ _ sm fun H4 s4 => ?_
    cases hp : p x with
    | false =>
      have ef : (xs.take (i + 1)).filter p = (xs.take i).filter p := by
        rw [take_more hx, List.filter_append, List.filter_cons_of_neg (by rw [hp]; decide), List.filter_nil, List.append_nil]
      refine iteF ⟨xs.length - (i + 1), by omega, rfl, hlt, sm.trans s4, s4 _ _ hD2, by rw [ef]; exact hl, fun k x' y' ex ey => ?_⟩
      rw [ef] at ex
      obtain ⟨Z, z1, z2⟩ := hg k x' y' ex ey
      refine ⟨Z, fun b hb => ?_, fun H6 h6 => z2 H6 fun b hb => ?_⟩
      · obtain ⟨nb, o, ho⟩ := z1 b hb
        exact ⟨nb, o, s4 _ _ ho⟩
      · obtain ⟨nb, o, ho⟩ := z1 b hb
        rw [h6 b hb, s4 _ _ ho, ho]
    | true =>
      have ef : (xs.take (i + 1)).filter p = (xs.take i).filter p ++ [x] := by
        rw [take_more hx, List.filter_append, List.filter_cons_of_pos hp, List.filter_nil]
      have hD4 := s4 _ _ hD2
      refine iteT (he x mem _ _ (sm.trans s4) hp fun yv H5 s5 ny => ⟨s5 _ _ hD4, xs.length - (i + 1), by omega, rfl, hlt, same_on hD ((sm.trans s4).trans s5) _, upd_same, by rw [ef, List.length_append, List.length_append, hl]; rfl, fun k x' y' ex ey => ?_⟩)
      rw [ef] at ex
      by_cases hk : k < ((xs.take i).filter p).length
      · rw [List.getElem?_append_left (by omega)] at ey
        rw [List.getElem?_append_left hk] at ex
        obtain ⟨Z, z1, z2⟩ := hg k x' y' ex ey
        refine ⟨Z, fun b hb => ?_, fun H6 h6 => z2 H6 fun b hb => ?_⟩
        · obtain ⟨nb, o, ho⟩ := z1 b hb
          exact ⟨nb, o, by rw [upd_ne nb]; exact s5 _ _ (s4 _ _ ho)⟩
        · obtain ⟨nb, o, ho⟩ := z1 b hb
          rw [h6 b hb, upd_ne nb, s5 _ _ (s4 _ _ ho), ho]
      · have ek : k = ((xs.take i).filter p).length := by
          have := (List.getElem?_eq_some_iff.mp ey).1
          rw [List.length_append, hl] at this
          have : k < ((xs.take i).filter p).length + 1 := this
          omega
        subst ek
        rw [List.getElem?_append_right (by omega), hl, Nat.sub_self] at ey
        rw [List.getElem?_append_right (by omega), Nat.sub_self] at ex
        obtain rfl : yv = y' := Option.some.inj ey
        obtain rfl : x = x' := Option.some.inj ex
        obtain ⟨Z, z1, z2⟩ := ny
        have nD : ∀ b, Z b → b ≠ D := fun b hb e => by
          have := (z1 b hb).1
          rw [e, hD4] at this
          cases this
        refine ⟨Z, fun b hb => ?_, fun H6 h6 => z2 H6 fun b hb => ?_⟩
        · obtain ⟨_, o, ho⟩ := z1 b hb
          exact ⟨nD b hb, o, by rw [upd_ne (nD b hb)]; exact ho⟩
        · rw [h6 b hb, upd_ne (nD b hb)]
  · have e : i = xs.length := by omega
    subst e
    refine .inl ⟨S.stop H2 sm, q D H2 ys sm hD hD2 ?_ fun k x y ex ey => ?_⟩
    · rw [hl, List.take_of_length_le (Nat.le_refl _)]
    · rw [← List.take_of_length_le (Nat.le_refl xs.length)] at ex
      obtain ⟨Z, _, z2⟩ := hg k x y ex ey
      exact z2 H2 fun _ _ => rfl
end L2

namespace L2
open PySem PySem.Spec PyProof.Rows
/-! ### list(d): the keys of a dict -/
section
variable {X : Cx}
def rListDict : List V → Hp → VK → Prop := fun xs H Q => ∃ p kvs, xs = [.ref p] ∧ H p = some (.dK kvs) ∧ ∀ l, H l = none → Q (.ref l) (upd H l (.lst (kvs.map fun q => kV q.1)))
end
end L2

namespace L2
open PySem PySem.Spec PyProof.Rows
/-! ### sorted() of texts: a list of them, or the keys of a dict -/
section
variable {X : Cx}
def rSortedL (K : PySem.W.Frag) : List V → Hp → VK → Prop := fun xs H Q => ∃ p ss, xs = [.ref p] ∧ SqL K H p (ss.map V.str) ∧ ss.length < 64 ∧ ∀ l ss', H l = none → List.Perm ss' ss → sortedS ss' = true → Q (.ref l) (upd H l (.lst (ss'.map V.str)))
end
end L2
namespace L2
open PySem PySem.Calls PyProof.Rows PyProof.V PySem.Spec PySem.W
end L2
namespace L2
open PySem PySem.Spec PyProof.Rows
section
variable {X : Cx}
/-- the n times that a list holds a flat thing -/
def rCount : V → List V → Hp → VK → Prop := fun x vs H Q => ∃ l xs y, x = .ref l ∧ vs = [y] ∧ H l = some (.lst xs) ∧ xs.all flatV = true ∧ flatV y = true ∧ Q (.int ((xs.countP fun z => eqV z y : Nat) : Int)) H
/-- sorted() of a dict whose keys are texts -/
def rSortedD : List V → Hp → VK → Prop := fun xs H Q => ∃ p kvs ss, xs = [.ref p] ∧ H p = some (.dK kvs) ∧ kvs.map (fun q => kV q.1) = ss.map V.str ∧ ss.length < 64 ∧ ∀ l ss', H l = none → List.Perm ss' ss → sortedS ss' = true → Q (.ref l) (upd H l (.lst (ss'.map V.str)))
end
end L2
namespace L2
open PySem PySem.Spec PyProof.Rows
section
variable {X : Cx}
/-- z.index(y), where y stands in z -/
def rSIndex : V → List V → Hp → VK → Prop := fun x vs H Q => ∃ z y i rest, x = .str z ∧ vs = [.str y] ∧ Builtin.Str.occurrences z y 0 z.length 1 = i :: rest ∧ Q (.int ((i : Nat) : Int)) H
end
end L2
namespace L2
open PySem PyProof.Rows PySem.Spec PySem.Calls
section
variable {X : Cx}
/-! ### d.setdefault(k, v) -/
def rSetD : V → List V → Hp → VK → Prop := fun x vs H Q => ∃ d kvs k y, x = .ref d ∧ vs = [kV k, y] ∧ H d = some (.dK kvs) ∧ kvs.length < 1000 ∧ (∀ u, valV kvs k = some u → Q u H) ∧ (valV kvs k = none → Q y (upd H d (.dK (kvs ++ [(k, y)]))))
/-! ### dicts of flat values compared -/
def hasD (kb : List (Key × V)) (p : Key × V) : Bool := match valV kb p.1 with
  | some y => eqV p.2 y
  | none => false
def eqD (ka kb : List (Key × V)) : Bool := ka.length == kb.length && ka.all (hasD kb)
def rEqDk (neg : Bool) : R2 := fun x y H Q => ∃ a b ka kb, x = .ref a ∧ y = .ref b ∧ H a = some (.dK ka) ∧ H b = some (.dK kb) ∧ (∀ p ∈ ka, flatV p.2 = true) ∧ (∀ p ∈ kb, flatV p.2 = true) ∧ Q (.bl (if neg then !eqD ka kb else eqD ka kb)) H
/-! ### slices with a step -/
def pickV (xs : List V) (lo hi st : Option Int) : List V := (sliceRange (sliceBounds lo hi st xs.length).1 (sliceBounds lo hi st xs.length).2.1 (sliceBounds lo hi st xs.length).2.2).filterMap (xs[·]?)
def tSl3 (K : PySem.W.Frag) (te : TE) (tl th ts : TO) : TE := fun σ H Q => te σ H fun x H1 => tl σ H1 fun l H2 => th σ H2 fun u H3 => ts σ H3 fun c H4 => ∃ a xs, x = .ref a ∧ SqL K H4 a xs ∧ c ≠ some 0 ∧ ∀ p, H4 p = none → Q (.ref p) (upd H4 p (.lst (pickV xs l u c)))
def thirds (n : Nat) : List Nat := (List.range n).filter fun k => k % 3 == 1
/-! ### a comprehension with a pair as target and a condition -/
theorem compB2_seq {J : It} {tc : TT} {te : TE} {K : PySem.W.Frag} {σf : Option V → Option V → St} {H1 : Hp} {Q : VK} {xs : List V} (S : Seq J H1 xs) (p : V → Bool) (g : V → V) (hz : xs.length < sizeLine)
    (he : ∀ x ∈ xs, ∃ (a : Addr) (u v : V), x = .ref a ∧ H1 a = some (.tup [u, v]) ∧ (∀ (H' : Hp) (R : Bool → Hp → Prop), Same H1 H' → R (p x) H' → tc (σf (some u) (some v)) H' R) ∧
      ∀ (H' : Hp) (R : VK), Same H1 H' → p x = true → R (g x) H' → te (σf (some u) (some v)) H' R)
    (q : ∀ D H', Same H1 H' → H1 D = none → H' D = some (.lst ((xs.filter p).map g)) → Q (.ref D) H') : CompB2 K J tc te σf H1 Q := by
  intro D hD
  refine ⟨fun i m ys H2 => m = xs.length - i ∧ i ≤ xs.length ∧ Same H1 H2 ∧ H2 D = some (.lst ys) ∧ ys = ((xs.take i).filter p).map g, ⟨xs.length, rfl, Nat.zero_le _, same_new hD _, upd_same, rfl⟩, ?_⟩
  rintro i m ys H2 ⟨rfl, hi, sm, hD2, rfl⟩
  refine ⟨hD2, ?_⟩
  by_cases hlt : i < xs.length
  · refine .inr ⟨S.go i H2 sm hlt, ?_, fun x H3 y => ?_⟩
    · rw [List.length_map]
      refine Nat.lt_of_le_of_lt (List.length_filter_le _ _) ?_
      rw [List.length_take]
      omega
    · obtain ⟨e, hx⟩ := S.yld i H2 x H3 sm hlt y
      subst e
      have mem : x ∈ xs := List.mem_of_getElem? hx
      obtain ⟨pa, pu, pv', ea, ha, hc, he⟩ := he x mem
      refine ⟨pa, pu, pv', ea, SqT.of (sm _ _ ha), ?_⟩
      refine hc _ _ sm ?_
      cases hp : p x with
      | false =>
        refine iteF ⟨xs.length - (i + 1), by omega, rfl, hlt, sm, hD2, ?_⟩
        rw [take_more hx, List.filter_append, List.filter_cons_of_neg (by rw [hp]; decide), List.filter_nil, List.append_nil]
      | true =>
        refine iteT (he _ _ sm hp ⟨hD2, xs.length - (i + 1), by omega, rfl, hlt, same_on hD sm _, upd_same, ?_⟩)
        rw [take_more hx, List.filter_append, List.filter_cons_of_pos hp, List.filter_nil, List.map_append]
        rfl
  · have e : i = xs.length := by omega
    subst e
    refine .inl ⟨S.stop H2 sm, q D H2 sm hD ?_⟩
    rw [hD2, List.take_of_length_le (Nat.le_refl _)]
/-! ### a comprehension whose items are new things, told by their kinds -/
theorem compB_off {J : It} {tc : TT} {te : TE} {σf : Option V → St} {H1 : Hp} {Q : VK} {xs : List V} (S : Seq J H1 xs) (G : Addr → V → V → Hp → Prop) (hz : xs.length < sizeLine)
    (hc : ∀ x ∈ xs, ∀ (H' : Hp) (R : Bool → Hp → Prop), Same H1 H' → R true H' → tc (σf (some x)) H' R)
    (mono : ∀ D x y (H H' : Hp) ys, H D = some (.lst ys) → (∀ b o, b ≠ D → H b = some o → H' b = some o) → G D x y H → G D x y H')
    (he : ∀ D x, x ∈ xs → ∀ (H' : Hp) (R : VK) ys, Same H1 H' → H' D = some (.lst ys) → (∀ y H'', Same H' H'' → G D x y H'' → R y H'') → te (σf (some x)) H' R)
    (q : ∀ D H' ys, Same H1 H' → H1 D = none → H' D = some (.lst ys) → ys.length = xs.length → (∀ (i : Nat) x y, xs[i]? = some x → ys[i]? = some y → G D x y H') → Q (.ref D) H') : CompB J tc te σf H1 Q := by
  intro D hD
  refine ⟨fun i m ys H2 => m = xs.length - i ∧ i ≤ xs.length ∧ Same H1 H2 ∧ H2 D = some (.lst ys) ∧ ys.length = i ∧ ∀ (k : Nat) x y, xs[k]? = some x → ys[k]? = some y → G D x y H2,
    ⟨xs.length, rfl, Nat.zero_le _, same_new hD _, upd_same, rfl, fun k x y _ e => by simp at e⟩, ?_⟩
  rintro i m ys H2 ⟨rfl, hi, sm, hD2, hl, hg⟩
  refine ⟨hD2, ?_⟩
  by_cases hlt : i < xs.length
  · refine .inr ⟨S.go i H2 sm hlt, by omega, fun x H3 y => ?_⟩
    obtain ⟨e, hx⟩ := S.yld i H2 x H3 sm hlt y
    subst e
    have mem : x ∈ xs := List.mem_of_getElem? hx
    refine hc x mem _ _ sm (iteT (he D x mem _ _ ys sm hD2 fun yv H5 s5 ny => ⟨s5 _ _ hD2, xs.length - (i + 1), by omega, rfl, hlt, same_on hD (sm.trans s5) _, upd_same, by rw [List.length_append, hl]; rfl, fun k x' y' ex ey => ?_⟩))
    have off : ∀ b o, b ≠ D → H5 b = some o → upd H5 D (.lst (ys ++ [yv])) b = some o := fun b o nb e => by rw [upd_ne nb]; exact e
    refine mono D x' y' H5 _ ys (s5 _ _ hD2) off ?_
    by_cases hk : k < i
    · rw [List.getElem?_append_left (by omega)] at ey
      exact mono D x' y' _ _ ys hD2 (fun b o _ e => s5 _ _ e) (hg k x' y' ex ey)
    · have ek : k = i := by
        have := (List.getElem?_eq_some_iff.mp ey).1
        rw [List.length_append, hl] at this
        have : k < i + 1 := this
        omega
      subst ek
      rw [List.getElem?_append_right (by omega), hl, Nat.sub_self] at ey
      obtain rfl : yv = y' := Option.some.inj ey
      obtain rfl : x = x' := Option.some.inj (hx.symm.trans ex)
      exact ny
  · have e : i = xs.length := by omega
    subst e
    exact .inl ⟨S.stop H2 sm, q D H2 ys sm hD hD2 hl hg⟩
/-! ### a comprehension of which just some items are known to stand -/
theorem compB_any {J : It} {tc : TT} {te : TE} {σf : Option V → St} {H1 : Hp} {Q : VK} {xs : List V} (S : Seq J H1 xs) (g : V → V → Prop) (hz : xs.length < sizeLine)
    (hc : ∀ x ∈ xs, ∀ (H' : Hp) (R : Bool → Hp → Prop), Same H1 H' → (∀ b H'', Same H' H'' → R b H'') → tc (σf (some x)) H' R)
    (he : ∀ x ∈ xs, ∀ (H' : Hp) (R : VK), Same H1 H' → (∀ y H'', Same H' H'' → g x y → R y H'') → te (σf (some x)) H' R)
    (q : ∀ D H' zs ys, Same H1 H' → H1 D = none → H' D = some (.lst ys) → List.Sublist zs xs → ys.length = zs.length → (∀ (i : Nat) x y, zs[i]? = some x → ys[i]? = some y → g x y) → Q (.ref D) H') : CompB J tc te σf H1 Q := by
  intro D hD
  refine ⟨fun i m ys H2 => m = xs.length - i ∧ i ≤ xs.length ∧ Same H1 H2 ∧ H2 D = some (.lst ys) ∧ ∃ zs, List.Sublist zs (xs.take i) ∧ ys.length = zs.length ∧ ∀ (k : Nat) x y, zs[k]? = some x → ys[k]? = some y → g x y,
    ⟨xs.length, rfl, Nat.zero_le _, same_new hD _, upd_same, [], List.Sublist.slnil, rfl, fun k x y _ e => by simp at e⟩, ?_⟩
  rintro i m ys H2 ⟨rfl, hi, sm, hD2, zs, hs, hl, hg⟩
  refine ⟨hD2, ?_⟩
  by_cases hlt : i < xs.length
  · refine .inr ⟨S.go i H2 sm hlt, ?_, fun x H3 y => ?_⟩
    · have := hs.length_le
      rw [List.length_take] at this
      omega
    obtain ⟨e, hx⟩ := S.yld i H2 x H3 sm hlt y
    subst e
    have mem : x ∈ xs := List.mem_of_getElem? hx
    have tk := take_more hx
    refine hc x mem _ _ sm fun b H4 s4 => ?_
    cases b with
    | false => exact iteF ⟨xs.length - (i + 1), by omega, rfl, hlt, sm.trans s4, s4 _ _ hD2, zs, by rw [tk]; exact hs.trans (List.sublist_append_left _ _), hl, hg⟩
    | true =>
      refine iteT (he x mem _ _ (sm.trans s4) fun yv H5 s5 gy => ⟨s5 _ _ (s4 _ _ hD2), xs.length - (i + 1), by omega, rfl, hlt, same_on hD (sm.trans (s4.trans s5)) _, upd_same, zs ++ [x], by rw [tk]; exact hs.append (List.Sublist.refl _), by rw [List.length_append, List.length_append, hl]; rfl, fun k x' y' ex ey => ?_⟩)
      by_cases hk : k < zs.length
      · rw [List.getElem?_append_left hk] at ex
        rw [List.getElem?_append_left (by omega)] at ey
        exact hg k x' y' ex ey
      · have ek : k = zs.length := by
          have := (List.getElem?_eq_some_iff.mp ex).1
          rw [List.length_append] at this
          have : k < zs.length + 1 := this
          omega
        subst ek
        rw [List.getElem?_append_right (Nat.le_refl _), Nat.sub_self] at ex
        rw [List.getElem?_append_right (by omega), hl, Nat.sub_self] at ey
        obtain rfl : x = x' := Option.some.inj ex
        obtain rfl : yv = y' := Option.some.inj ey
        exact gy
  · have e : i = xs.length := by omega
    subst e
    rw [List.take_of_length_le (Nat.le_refl _)] at hs
    exact .inl ⟨S.stop H2 sm, q D H2 zs ys sm hD hD2 hs hl hg⟩
end
end L2

namespace My
open PySem L2
/-- figures, by their codes; what is a number, what it writes -/
def fig : List Nat := List.range' 48 10
def isnum (z : Str) : Bool := decide ((1 : Int) ≤ (z.length : Nat)) && decide (((z.length : Nat) : Int) ≤ 9) && (z.cps.toList.all fun c => decide (c ∈ fig)) && (decide (z = ⟨#[48]⟩) || !decide (z.cps.toList.headD 0 = 48))
def val (z : Str) : Int := ((NumText.digitsVal z.cps.toList : Nat) : Int)
def wr (z : Str) : V := if isnum z = true then .int (val z) else .non
def inNum (z : Str) (lo hi : Int) : V := if (isnum z && decide (lo ≤ val z) && decide (val z ≤ hi)) = true then .int (val z) else .non
/-- small letters, figures, by their codes -/
def low : List Nat := List.range' 97 26
def good (z : Str) : Bool := decide ((1 : Int) ≤ (z.length : Nat)) && decide (((z.length : Nat) : Int) ≤ 12) && decide (z.cps.toList.headD 0 ∈ low) && z.cps.toList.all fun c => decide (c ∈ low ++ fig)
/-- what is_layout tells of a text -/
def lay (z : Str) : Bool := decide (z = Str.ofString "both") || (Txt.startswith z (Str.ofString "up:") && decide (¬ inNum (Txt.slice z (some 3) none) 2 16 = V.non))
/-- the fifteen texts behind both -/
def goods : List V := (((List.range 15).map fun i => V.int (2 + ((i : Nat) : Int))).filter fun _ => true).map fun v => match v with | .int n => V.str (Str.ofString "up:" ++ Str.ofString (toString n)) | _ => .non
def goodTexts : List Str := (List.range 15).map fun i => Str.ofString "up:" ++ Str.ofString (toString (2 + ((i : Nat) : Int)))
theorem in_strs (z : Str) : ∀ as : List Str, inV (.str z) (as.map V.str) = decide (z ∈ as)
  | [] => rfl
  | y :: r => by
    have ih := in_strs z r
    unfold inV at ih ⊢
    rw [List.map_cons, List.any_cons, ih]
    show ((y == z) || decide (z ∈ r)) = _
    by_cases e : y = z
    · subst e
      simp
    · have e' : ¬ z = y := fun q => e q.symm
      simp [e, e']
end My

namespace My
open PySem L2
open Blk (sg sg_inj sg_app)
/-! ### parts between a sign c -/
def Jc (c : Nat) : List (List Nat) → List Nat
  | [] => []
  | [x] => x
  | x :: y :: r => x ++ c :: Jc c (y :: r)
def Cc (c : Nat) : List Nat → List (List Nat)
  | [] => [[]]
  | d :: r => if d = c then [] :: Cc c r else match Cc c r with
    | [] => [[d]]
    | p :: ps => (d :: p) :: ps
/-! ### beginnings -/
theorem sw_iff (z y : Str) : Txt.startswith z y = true ↔ ∃ n : Str, z = y ++ n := by
  unfold Txt.startswith
  rw [Bool.and_eq_true]
  constructor
  · rintro ⟨h1, h2⟩
    have h1' : 0 + y.length ≤ z.length := of_decide_eq_true h1
    unfold Builtin.Str.subAt at h2
    have h3 : z.cps.extract 0 (0 + y.length) = y.cps := eq_of_beq h2
    have h4 : sg y = (sg z).take y.length := by
      unfold Blk.sg
      rw [← h3]
      simp
    refine ⟨⟨((sg z).drop y.length).toArray⟩, sg_inj ?_⟩
    rw [sg_app, h4]
    show sg z = (sg z).take y.length ++ (sg z).drop y.length
    exact (List.take_append_drop _ _).symm
  · rintro ⟨n, rfl⟩
    have hl : (y ++ n).length = y.length + n.length := len_app y n
    refine ⟨decide_eq_true (by rw [hl]; omega), ?_⟩
    unfold Builtin.Str.subAt
    refine beq_iff_eq.mpr ?_
    apply Array.toList_inj.mp
    show ((y.cps ++ n.cps).extract 0 (0 + y.cps.size)).toList = y.cps.toList
    simp
theorem sw_app (p n : Str) : Txt.startswith (p ++ n) p = true := (sw_iff _ _).mpr ⟨n, rfl⟩
theorem sg_len (z : Str) : (sg z).length = z.length := len_toList z
/-- the beginning of a text that is long enough decides -/
theorem sw_pre {p n q : Str} (h : q.length ≤ p.length) : Txt.startswith (p ++ n) q = Txt.startswith p q := by
  rw [Bool.eq_iff_iff, sw_iff, sw_iff]
  constructor
  · rintro ⟨m, e⟩
    have e2 := congrArg sg e
    rw [sg_app, sg_app] at e2
    have e3 := congrArg (List.take (sg q).length) e2
    rw [List.take_left, List.take_append_of_le_length (by rw [sg_len, sg_len]; exact h)] at e3
    refine ⟨⟨((sg p).drop (sg q).length).toArray⟩, sg_inj ?_⟩
    rw [sg_app]
    show sg p = sg q ++ (sg p).drop (sg q).length
    conv => rhs; rw [← e3]
    rw [List.length_take, Nat.min_eq_left (by rw [sg_len, sg_len]; exact h), List.take_append_drop]
  · rintro ⟨m, rfl⟩
    exact ⟨m ++ n, sg_inj (by rw [sg_app, sg_app, sg_app, sg_app, List.append_assoc])⟩
theorem slice_pre (p n : Str) : Txt.slice (p ++ n) (some ((p.length : Nat) : Int)) none = n := by
  have hl : (p ++ n).length = p.length + n.length := len_app p n
  rw [PyProof.Rows.slice_from_eq (x := p ++ n) (i := ((p.length : Nat) : Int)) (b := (((p ++ n).length : Nat) : Int)) (by omega) (by omega) rfl]
  refine sg_inj ?_
  show ((sg (p ++ n)).drop (((p.length : Nat) : Int)).toNat).take ((((p ++ n).length : Nat) : Int) - ((p.length : Nat) : Int)).toNat = sg n
  have e1 : (((p.length : Nat) : Int)).toNat = (sg p).length := by rw [sg_len]; omega
  rw [sg_app, e1, List.drop_left]
  exact List.take_of_length_le (by rw [sg_len]; omega)
/-! ### numbers written -/
def tn (n : Int) : Str := Str.ofString (toString n)
end My

namespace My
open PySem L2
open Blk (sg sg_inj sg_app)
/-- what a word tells: a plain value, or a pair of pages -/
inductive VO where
  | v (x : V) | pair (a b : Int)
  deriving DecidableEq
def non : VO := .v .non
abbrev cX : Str := Str.ofString "x"
abbrev cCol : Str := Str.ofString "colour:"
abbrev cPap : Str := Str.ofString "paper:"
abbrev cCov : Str := Str.ofString "cover:"
abbrev cAft : Str := Str.ofString "after:"
abbrev cSta : Str := Str.ofString "staple"
abbrev cLay : Str := Str.ofString "layout"
abbrev cOne : Str := Str.ofString "one"
abbrev cPla : Str := Str.ofString "plain"
abbrev cDash : Str := Str.ofString "-"
abbrev cBlank : Str := Str.ofString " "
/-- the rest of a text behind a beginning -/
def rst (z p : Str) : Str := Txt.slice z (some ((p.length : Nat) : Int)) none
def readCol (span : Str) (pages : Int) : VO := match Txt.split span cDash with
  | [a, b] => (match inNum a 1 pages with
    | .int f => (match inNum b f pages with
      | .int l => .pair f l
      | _ => non)
    | _ => non)
  | _ => non
def three : List Str := [cPap, cCov, cAft]
def four : List Str := [cX, cCol, cPap, cCov]
def valueOf (z : Str) (pages : Int) : VO :=
  if z = cSta then .v (.bl true) else if lay z = true then .v (.str z) else if Txt.startswith z cX = true then .v (inNum (rst z cX) 1 99) else if Txt.startswith z cCol = true then readCol (rst z cCol) pages
  else match three.find? (fun p => Txt.startswith z p && good (rst z p)) with
    | some p => .v (.str (rst z p))
    | none => non
def sortOf (z : Str) : Str := if lay z = true then cLay else (four.find? fun p => Txt.startswith z p).getD z
def readTail (pages : Int) : List Str → Nat → List (Str × VO) → Except Nat (List (Str × VO))
  | [], _, t => .ok t
  | w :: r, p, t => if valueOf w pages = non ∨ sortOf w ∈ t.map (·.1) then .error p else readTail pages r (p + 1) (t ++ [(sortOf w, valueOf w pages)])
def toldV (t : List (Str × VO)) (k : Str) : Option VO := (t.find? fun p => decide (p.1 = k)).map (·.2)
/-- a job as it is read -/
structure JF where
  name : Str
  asker : Str
  pages : Int
  copies : VO
  layout : VO
  paper : VO
  cover : VO
  colour : VO
  staple : VO
  after : List VO
def readHead (ws : List Str) : Except Nat Int :=
  if good (ws.getD 0 cBlank) = false then .error 0 else if ws.length < 2 then .error ws.length else if good (ws.getD 1 cBlank) = false then .error 1 else if ws.length < 3 then .error ws.length else
  match inNum (ws.getD 2 cBlank) 1 999 with
  | .int n => .ok n
  | _ => .error 2
def toldJob (ws : List Str) (pages : Int) (t : List (Str × VO)) : JF :=
  { name := ws.getD 0 cBlank, asker := ws.getD 1 cBlank, pages := pages, copies := (toldV t cX).getD (.v (.int 1)), layout := (toldV t cLay).getD (.v (.str cOne)), paper := (toldV t cPap).getD (.v (.str cPla)), cover := (toldV t cCov).getD non, colour := (toldV t cCol).getD non,
    staple := (toldV t cSta).getD (.v (.bl false)), after := (t.filter fun p => Txt.startswith p.1 cAft).map (·.2) }
def readJ (z : Str) : Except Nat JF := match readHead (Txt.split z cBlank) with
  | .error p => .error p
  | .ok n => match readTail n ((Txt.split z cBlank).drop 3) 3 [] with
    | .error p => .error p
    | .ok t => .ok (toldJob (Txt.split z cBlank) n t)
/-! ### a job's own values -/
structure Jb where
  name : Str
  asker : Str
  pages : Int
  copies : Int
  layout : Str
  paper : Str
  cover : Option Str
  colour : Option (Int × Int)
  staple : Bool
  after : List Str
structure Jb.Ok (j : Jb) : Prop where
  name : good j.name = true
  asker : good j.asker = true
  p0 : 1 ≤ j.pages
  p1 : j.pages ≤ 999
  c0 : 1 ≤ j.copies
  c1 : j.copies ≤ 99
  lay : j.layout ∈ cOne :: Str.ofString "both" :: goodTexts
  paper : good j.paper = true
  cover : ∀ z, j.cover = some z → good z = true
  colour : ∀ a b, j.colour = some (a, b) → 1 ≤ a ∧ a ≤ b ∧ b ≤ j.pages
  after : ∀ z ∈ j.after, good z = true
  nd : j.after.Nodup
  few : j.after.length ≤ 3
def Jb.jf (j : Jb) : JF := { name := j.name, asker := j.asker, pages := j.pages, copies := .v (.int j.copies), layout := .v (.str j.layout), paper := .v (.str j.paper), cover := (match j.cover with | some z => .v (.str z) | none => non), colour := (match j.colour with | some (a, b) => .pair a b | none => non), staple := .v (.bl j.staple), after := j.after.map fun z => .v (.str z) }
/-- the words that may be told: is it, the word, its sort, what it tells -/
def Jb.ents (j : Jb) (told : Bool) : List (Bool × Str × Str × VO) :=
  [(!decide (j.copies = 1) || told, cX ++ tn j.copies, cX, .v (.int j.copies)), (!decide (j.layout = cOne), j.layout, cLay, .v (.str j.layout)),
   (j.colour.isSome, cCol ++ tn (j.colour.getD (1, 1)).1 ++ cDash ++ tn (j.colour.getD (1, 1)).2, cCol, .pair (j.colour.getD (1, 1)).1 (j.colour.getD (1, 1)).2),
   (!decide (j.paper = cPla) || told, cPap ++ j.paper, cPap, .v (.str j.paper)), (j.cover.isSome, cCov ++ j.cover.getD cPla, cCov, .v (.str (j.cover.getD cPla))), (j.staple, cSta, cSta, .v (.bl true))]
def Jb.words (j : Jb) (told : Bool) : List Str := ((j.ents told).filter (·.1)).map (·.2.1)
def Jb.afts (j : Jb) : List Str := j.after.map fun n => cAft ++ n
/-! ### what each word is worth -/
end My

namespace My
open PySem L2
open Blk (sg sg_inj sg_app)
def sorts : List Str := [cX, cLay, cCol, cPap, cCov, cSta]
def told (pages : Int) (M : List Str) : List (Str × VO) := M.map fun w => (sortOf w, valueOf w pages)
/-- the words behind the head, mixed: those of the sorts in any order, those after which it comes in theirs -/
structure Mix (ws as M : List Str) : Prop where
  perm : M.Perm (ws ++ as)
  afts : (M.filter fun w => Txt.startswith w cAft) = as
def Jb.head (j : Jb) : List Str := [j.name, j.asker, tn j.pages]
end My

namespace My
open PySem L2
open Blk (sg sg_inj sg_app)
/-! ### what stands for a word's worth on the heap -/
def HoldsV (H : Hp) (x : V) : VO → Prop
  | .v y => x = y
  | .pair a b => ∃ p, x = .ref p ∧ H p = some (.tup [.int a, .int b])
theorem HoldsV.same {H H' : Hp} {x : V} {o : VO} (h : HoldsV H x o) (e : Same H H') : HoldsV H' x o := by
  cases o with
  | v y => exact h
  | pair a b => obtain ⟨p, h1, h2⟩ := h; exact ⟨p, h1, e _ _ h2⟩
theorem HoldsV.upd {H : Hp} {x : V} {o : VO} {D : Addr} {kvs : List (Key × V)} {u : HO} (h : HoldsV H x o) (hD : H D = some (.dK kvs)) : HoldsV (L2.upd H D u) x o := by
  cases o with
  | v y => exact h
  | pair a b =>
    obtain ⟨p, h1, h2⟩ := h
    exact ⟨p, h1, by rw [upd_ne (ne_of h2 hD (by intro z; cases z))]; exact h2⟩
/-- the dict of what was told -/
def TR (H : Hp) (q : Key × V) (p : Str × VO) : Prop := q.1 = Sum.inr p.1 ∧ HoldsV H q.2 p.2
structure Told (H : Hp) (D : Addr) (kvs : List (Key × V)) (t : List (Str × VO)) : Prop where
  at_ : H D = some (.dK kvs)
  rel : Paired (TR H) kvs t
  nd : (t.map (·.1)).Nodup
theorem Told.look {H : Hp} {D : Addr} {kvs : List (Key × V)} {t : List (Str × VO)} (T : Told H D kvs t) (k : Str) : match valV kvs (Sum.inr k : Key), toldV t k with | some x, some o => HoldsV H x o | none, none => True | _, _ => False := by
  have key : ∀ {kvs : List (Key × V)} {t : List (Str × VO)}, Paired (TR H) kvs t → match valV kvs (Sum.inr k : Key), toldV t k with | some x, some o => HoldsV H x o | none, none => True | _, _ => False := by
    intro kvs t r
    induction r with
    | nil => trivial
    | @cons q p kvs t h r ih =>
      obtain ⟨h1, h2⟩ := h
      by_cases e : p.1 = k
      · rw [valV_pos (by rw [h1, e])]
        unfold toldV
        rw [List.find?_cons_of_pos (h := by exact decide_eq_true e)]
        exact h2
      · rw [valV_neg (by rw [h1]; intro z; injection z with z; exact e z)]
        unfold toldV
        rw [List.find?_cons_of_neg (h := by rw [decide_eq_false e]; decide)]
        exact ih
  exact key T.rel
theorem Told.has {H : Hp} {D : Addr} {kvs : List (Key × V)} {t : List (Str × VO)} (T : Told H D kvs t) (k : Str) : (valV kvs (Sum.inr k : Key)).isSome = decide (k ∈ t.map (·.1)) := by
  have q := T.look k
  cases e2 : toldV t k with
  | none =>
    have nm : k ∉ t.map (·.1) := fun m => by
      obtain ⟨p, hp, rfl⟩ := List.mem_map.mp m
      unfold toldV at e2
      rw [Option.map_eq_none_iff] at e2
      have := List.find?_eq_none.mp e2 p hp
      exact this (decide_eq_true rfl)
    rw [decide_eq_false nm]
    cases e1 : valV kvs (Sum.inr k : Key) with
    | none => rfl
    | some x => rw [e1, e2] at q; exact q.elim
  | some o =>
    have m : k ∈ t.map (·.1) := by
      unfold toldV at e2
      obtain ⟨p, hp, _⟩ := Option.map_eq_some_iff.mp e2
      exact List.mem_map.mpr ⟨p, List.mem_of_find?_eq_some hp, by have q := List.find?_some hp; exact of_decide_eq_true q⟩
    rw [decide_eq_true m]
    cases e1 : valV kvs (Sum.inr k : Key) with
    | none => rw [e1, e2] at q; exact q.elim
    | some x => rfl
theorem Told.same {H H' : Hp} {D : Addr} {kvs : List (Key × V)} {t : List (Str × VO)} (T : Told H D kvs t) (e : Same H H') : Told H' D kvs t := ⟨e _ _ T.at_, Paired.mapP T.rel fun _ _ h => ⟨h.1, h.2.same e⟩, T.nd⟩
theorem paired_snoc {α β : Type} {R : α → β → Prop} : ∀ {xs : List α} {ys : List β} {x : α} {y : β}, Paired R xs ys → R x y → Paired R (xs ++ [x]) (ys ++ [y])
  | _, _, _, _, .nil, h => .cons h .nil
  | _, _, _, _, .cons a b, h => .cons a (paired_snoc b h)
theorem Told.put {H : Hp} {D : Addr} {kvs : List (Key × V)} {t : List (Str × VO)} (T : Told H D kvs t) {k : Str} {x : V} {o : VO} (hx : HoldsV H x o) (hn : valV kvs (Sum.inr k : Key) = none) :
    Told (upd H D (.dK (putK kvs (Sum.inr k) x))) D (kvs ++ [(Sum.inr k, x)]) (t ++ [(k, o)]) := by
  have hk : k ∉ t.map (·.1) := fun m => by
    have q := T.has k
    rw [hn, decide_eq_true m] at q
    cases q
  refine ⟨?_, ?_, by rw [List.map_append]; exact nd_snoc T.nd hk⟩
  · rw [upd_same, putK_new x hn]
  · exact paired_snoc (Paired.mapP T.rel fun _ _ h => ⟨h.1, h.2.upd T.at_⟩) ⟨rfl, hx.upd T.at_⟩
theorem Told.keys {H : Hp} {kvs : List (Key × V)} {t : List (Str × VO)} (r : Paired (TR H) kvs t) : kvs.map (·.1) = (t.map (·.1)).map Sum.inr := by
  induction r with
  | nil => rfl
  | cons h r ih => rw [List.map_cons, List.map_cons, List.map_cons, ih, h.1]
def luV (kvs : List (Key × V)) : V → V
  | .str s => (valV kvs (Sum.inr s : Key)).getD .non
  | _ => .non
def afterP : V → Bool
  | .str x => Txt.startswith x cAft
  | _ => false
theorem Told.after {H : Hp} {D : Addr} {kvs : List (Key × V)} {t : List (Str × VO)} (T : Told H D kvs t) (g : V → V) (hg : ∀ q ∈ kvs, g (kV q.1) = q.2) :
    Paired (fun a o => HoldsV H a o) (((kvs.map fun p => kV p.1).filter afterP).map g) ((t.filter fun p => Txt.startswith p.1 cAft).map (·.2)) := by
  rw [List.filter_map, List.map_map]
  have e : (kvs.filter (afterP ∘ fun p => kV p.1)).map (g ∘ fun p => kV p.1) = (kvs.filter (afterP ∘ fun p => kV p.1)).map (·.2) := List.map_congr_left fun q hq => hg q (List.mem_filter.mp hq).1
  rw [e]
  clear e hg
  have key : ∀ {kvs : List (Key × V)} {t : List (Str × VO)}, Paired (TR H) kvs t → Paired (fun a o => HoldsV H a o) ((kvs.filter (afterP ∘ fun p => kV p.1)).map (·.2)) ((t.filter fun p => Txt.startswith p.1 cAft).map (·.2)) := by
    intro kvs t r
    induction r with
    | nil => exact .nil
    | @cons q p kvs t h r ih =>
      obtain ⟨h1, h2⟩ := h
      have e1 : (afterP ∘ fun p : Key × V => kV p.1) q = Txt.startswith p.1 cAft := by
        show afterP (kV q.1) = _
        rw [h1]
        rfl
      cases hs : Txt.startswith p.1 cAft with
      | true =>
        rw [List.filter_cons_of_pos (by rw [e1, hs]), List.filter_cons_of_pos (by exact hs)]
        exact .cons h2 ih
      | false =>
        rw [List.filter_cons_of_neg (by rw [e1, hs]; decide), List.filter_cons_of_neg (by rw [hs]; decide)]
        exact ih
  exact key T.rel
theorem Told.len {H : Hp} {D : Addr} {kvs : List (Key × V)} {t : List (Str × VO)} (T : Told H D kvs t) : kvs.length = t.length := Paired.length T.rel
/-! ### a job on the heap -/
def jobF (a b c d e f g h i j : V) : List (Str × V) := [("name", a), ("asker", b), ("pages", c), ("copies", d), ("layout", e), ("paper", f), ("cover", g), ("colour", h), ("staple", i), ("after", j)]
theorem putF_new {f : Str} {v : V} : ∀ {fs : List (Str × V)}, ¬ f ∈ fs.map (·.1) → putF f v fs = fs ++ [(f, v)]
  | [], _ => rfl
  | (g, u) :: r, h => by
    have h1 : ¬ g = f := fun e => h (by rw [← e]; exact List.mem_cons_self)
    show (if g = f then _ else (g, u) :: putF f v r) = _
    rw [if_neg h1, putF_new fun m => h (List.mem_cons_of_mem _ m)]
    rfl
structure JobAt (C : Addr) (H : Hp) (x : Addr) (f : JF) : Prop where
  ex : ∃ (dx pa : Addr) (d e p g h i : V) (as : List V), H x = some (.ins C dx (jobF (.str f.name) (.str f.asker) (.int f.pages) d e p g h i (.ref pa))) ∧ HoldsV H d f.copies ∧ HoldsV H e f.layout ∧ HoldsV H p f.paper ∧ HoldsV H g f.cover ∧ HoldsV H h f.colour ∧ HoldsV H i f.staple ∧
    H pa = some (.tup as) ∧ Paired (fun a o => HoldsV H a o) as f.after
theorem JobAt.same {C : Addr} {H H' : Hp} {x : Addr} {f : JF} (J : JobAt C H x f) (e : Same H H') : JobAt C H' x f := by
  obtain ⟨dx, pa, v1, v2, v3, v4, v5, v6, as, h0, h1, h2, h3, h4, h5, h6, h7, h8⟩ := J.ex
  exact ⟨dx, pa, v1, v2, v3, v4, v5, v6, as, e _ _ h0, h1.same e, h2.same e, h3.same e, h4.same e, h5.same e, h6.same e, e _ _ h7, Paired.mapP h8 fun _ _ h => h.same e⟩
end My

namespace My
open PySem L2
open Blk (sg sg_inj sg_app)
/-! ### names that differ at one place -/
def nmC (f r : Nat) (size place l : Nat) : List Nat := (f :: List.replicate (size - 1) r).set place l
def nm (f r : Nat) (size place l : Nat) : Str := ⟨(nmC f r size place l).toArray⟩
def ltr (s : Nat) (j : Nat) : Nat := 97 + (s + 5 * j) % 26
def nms (f r size place s : Nat) (m : Nat) : List Str := (List.range m).map fun j => nm f r size place (ltr s j)
structure NamesOk (ns : List Str) (m : Nat) : Prop where
  len : ns.length = m
  good : ∀ z ∈ ns, good z = true
  nd : ns.Nodup
def six : List Str := [Str.ofString "x2", Str.ofString "staple", Str.ofString "both", Str.ofString "up2", Str.ofString "plain", Str.ofString "after"]
def one (c : Nat) : Str := ⟨#[c]⟩
/-! ### the values that are due, on the heap -/
def optV : Option Str → V
  | some z => .str z
  | none => .non
structure Due (H : Hp) (t : Addr) (j : Jb) : Prop where
  ex : ∃ (vc : V) (pa : Addr), H t = some (.tup [.str j.name, .str j.asker, .int j.pages, .int j.copies, .str j.layout, .str j.paper, optV j.cover, vc, .bl j.staple, .ref pa]) ∧ HoldsV H vc j.jf.colour ∧ H pa = some (.tup (j.after.map V.str))
theorem Due.same {H H' : Hp} {t : Addr} {j : Jb} (D : Due H t j) (e : Same H H') : Due H' t j := by
  obtain ⟨vc, pa, h1, h2, h3⟩ := D.ex
  exact ⟨vc, pa, e _ _ h1, h2.same e, e _ _ h3⟩
end My

namespace My
open PySem L2
open Blk (sg sg_inj sg_app)
/-! ### words put in at drawn places -/
theorem ins_perm {α : Type} (M : List α) (i : Nat) (y : α) : (M.take i ++ y :: M.drop i).Perm (M ++ [y]) := by
  have a : (M.take i ++ y :: M.drop i).Perm (y :: (M.take i ++ M.drop i)) := List.perm_middle
  rw [List.take_append_drop] at a
  exact a.trans (List.perm_append_singleton y M).symm
structure Mid (ws as : List Str) (A : Nat) (M : List Str) : Prop where
  perm : M.Perm (ws ++ as)
  le : A ≤ M.length
  pre : ((M.take A).filter fun w => Txt.startswith w cAft) = as
  post : ((M.drop A).filter fun w => Txt.startswith w cAft) = []
theorem Mid.start {ws M : List Str} (p : M.Perm ws) (h : ∀ w ∈ ws, Txt.startswith w cAft = false) : Mid ws [] 0 M := by
  refine ⟨by rw [List.append_nil]; exact p, Nat.zero_le _, by simp, ?_⟩
  rw [List.drop_zero]
  exact List.filter_eq_nil_iff.mpr fun w hw => by rw [h w (p.mem_iff.mp hw)]; decide
theorem Mid.put {ws as M : List Str} {A B : Nat} {y : Str} (m : Mid ws as A M) (h1 : A ≤ B) (h2 : B ≤ M.length) (hy : Txt.startswith y cAft = true) : Mid ws (as ++ [y]) (B + 1) (M.take B ++ y :: M.drop B) := by
  have hl : (M.take B).length = B := by rw [List.length_take]; omega
  refine ⟨?_, ?_, ?_, ?_⟩
  · exact (ins_perm M B y).trans (by rw [← List.append_assoc]; exact m.perm.append_right [y])
  · rw [List.length_append, List.length_cons, hl, List.length_drop]
    omega
  · have e : (M.take B ++ y :: M.drop B).take (B + 1) = M.take B ++ [y] := by
      rw [List.take_append, hl, List.take_of_length_le (by omega), show B + 1 - B = 1 by omega]
      rfl
    rw [e, List.filter_append]
    have e2 : ((M.take B).filter fun w => Txt.startswith w cAft) = as := by
      have e3 : M.take B = M.take A ++ (M.drop A).take (B - A) := by
        rw [← List.take_append_drop A (M.take B), List.take_take, Nat.min_eq_left h1, List.drop_take]
      rw [e3, List.filter_append, m.pre]
      have e4 : (((M.drop A).take (B - A)).filter fun w => Txt.startswith w cAft) = [] := by
        refine List.filter_eq_nil_iff.mpr fun w hw => ?_
        exact List.filter_eq_nil_iff.mp m.post w (List.mem_of_mem_take hw)
      rw [e4, List.append_nil]
    rw [e2]
    simp [hy]
  · have e : (M.take B ++ y :: M.drop B).drop (B + 1) = M.drop B := by
      rw [List.drop_append, hl, List.drop_of_length_le (by omega), show B + 1 - B = 1 by omega]
      rfl
    rw [e]
    refine List.filter_eq_nil_iff.mpr fun w hw => ?_
    have : w ∈ M.drop A := by
      have e3 : M.drop B = (M.drop A).drop (B - A) := by rw [List.drop_drop]; congr 1; omega
      rw [e3] at hw
      exact List.mem_of_mem_drop hw
    exact List.filter_eq_nil_iff.mp m.post w this
theorem Mid.done {ws as M : List Str} {A : Nat} (m : Mid ws as A M) : Mix ws as M := by
  refine ⟨m.perm, ?_⟩
  rw [← List.take_append_drop A M, List.filter_append, m.pre, m.post, List.append_nil]
end My

namespace My
open PySem L2
def top (i : Nat) : Stmt := PySem.Challenge.pw_spoolhall_k48_fitting_or_refused.main.body.getD i (.Pass ⟨0, 0, 0, 0⟩)
abbrev s_own_copy : Stmt := top 2
abbrev s_Unknown_init : Stmt := inClass (top 5) 0
abbrev s_TooMuch_init : Stmt := inClass (top 6) 0
abbrev s_NoPrinter_init : Stmt := inClass (top 8) 0
abbrev s_Job_init : Stmt := inClass (top 15) 0
abbrev s_needs : Stmt := top 19
abbrev s_lacks : Stmt := top 20
abbrev s_has : Stmt := top 21
abbrev s_fitting : Stmt := top 22
abbrev s_State_init : Stmt := inClass (top 25) 0
abbrev s_Ready_init : Stmt := inClass (top 26) 0
abbrev s_Stock_init : Stmt := inClass (top 28) 0
abbrev s_Stock_held : Stmt := inClass (top 28) 1
abbrev s_Stock_room : Stmt := inClass (top 28) 2
abbrev s_Stock_know : Stmt := inClass (top 28) 3
abbrev s_Stock_know_all : Stmt := inClass (top 28) 4
abbrev s_Stock_put : Stmt := inClass (top 28) 5
abbrev s_Stock_put_all : Stmt := inClass (top 28) 6
abbrev s_Printer_init : Stmt := inClass (top 32) 0
abbrev s_Printer_papers : Stmt := inClass (top 32) 2
abbrev s_Printer_paper_left : Stmt := inClass (top 32) 3
abbrev s_Printer_load : Stmt := inClass (top 32) 6
abbrev s__law_cell_at : Stmt := top 34
abbrev s__law_mix : Stmt := top 35
abbrev s__law_word : Stmt := top 36
abbrev s__law_needs : Stmt := top 37
abbrev s__law_lacking : Stmt := top 38
abbrev s__law_shapes : Stmt := top 39
abbrev s__law_printer : Stmt := top 40
abbrev s__law_asked : Stmt := top 41
abbrev s__law_rows : Stmt := top 42
abbrev s_law : Stmt := top 43
structure Txt (K : PySem.W.Frag) (mg : Str → Option Value) (cJob cState cReady cStock cPrinter cBadLine cUnknown cTooMuch cBusy cNoPrinter cNoWay cHallError : Addr) : Prop where
  len : mg "len" = none
  range : mg "range" = none
  int : mg "int" = none
  tuple : mg "tuple" = none
  list : mg "list" = none
  isinstance : mg "isinstance" = none
  dict : mg "dict" = none
  ValueError : mg "ValueError" = none
  PAPER : GS mg "PAPER" (Str.ofString "paper:")
  COVER : GS mg "COVER" (Str.ofString "cover:")
  STAPLE : GS mg "STAPLE" (Str.ofString "staple")
  ONE_LAYOUT : GS mg "ONE_LAYOUT" (Str.ofString "one")
  BOTH_SIDES : GS mg "BOTH_SIDES" (Str.ofString "both")
  COLOURED : GS mg "COLOURED" (Str.ofString "colour")
  READY : GS mg "READY" (Str.ofString "ready")
  BLACK : GS mg "BLACK" (Str.ofString "black")
  COLOUR : GS mg "COLOUR" (Str.ofString "colour")
  cl_Job : Cls K cJob
  mg_Job : mg "Job" = some (.ref cJob)
  n_Job_name : NoAttr K cJob "name"
  n_Job_asker : NoAttr K cJob "asker"
  n_Job_pages : NoAttr K cJob "pages"
  n_Job_copies : NoAttr K cJob "copies"
  n_Job_layout : NoAttr K cJob "layout"
  n_Job_paper : NoAttr K cJob "paper"
  n_Job_cover : NoAttr K cJob "cover"
  n_Job_colour : NoAttr K cJob "colour"
  n_Job_staple : NoAttr K cJob "staple"
  n_Job_after : NoAttr K cJob "after"
  cl_State : Cls K cState
  mg_State : mg "State" = some (.ref cState)
  n_State_word : NoAttr K cState "word"
  cl_Ready : Cls K cReady
  mg_Ready : mg "Ready" = some (.ref cReady)
  n_Ready_word : NoAttr K cReady "word"
  cl_Stock : Cls K cStock
  mg_Stock : mg "Stock" = some (.ref cStock)
  n_Stock_rooms : NoAttr K cStock "rooms"
  n_Stock_amounts : NoAttr K cStock "amounts"
  cl_Printer : Cls K cPrinter
  mg_Printer : mg "Printer" = some (.ref cPrinter)
  n_Printer_name : NoAttr K cPrinter "name"
  n_Printer_can : NoAttr K cPrinter "can"
  n_Printer_path : NoAttr K cPrinter "path"
  n_Printer_rooms : NoAttr K cPrinter "rooms"
  n_Printer_trays : NoAttr K cPrinter "trays"
  n_Printer_inks : NoAttr K cPrinter "inks"
  n_Printer_state : NoAttr K cPrinter "state"
  n_Printer_inside : NoAttr K cPrinter "inside"
  xq_HallError : PySem.W.excMk K cHallError = true
  mh_NoPrinter_NoPrinter : PySem.W.mroHas K cNoPrinter (.ref cNoPrinter) = true
  x_BadLine : XCl K cBadLine ["place"]
  mg_BadLine : mg "BadLine" = some (.ref cBadLine)
  x_Unknown : XCl K cUnknown ["name"]
  mg_Unknown : mg "Unknown" = some (.ref cUnknown)
  x_TooMuch : XCl K cTooMuch ["name"]
  mg_TooMuch : mg "TooMuch" = some (.ref cTooMuch)
  x_Busy : XCl K cBusy ["job"]
  mg_Busy : mg "Busy" = some (.ref cBusy)
  x_NoPrinter : XCl K cNoPrinter ["job", "lacks"]
  mg_NoPrinter : mg "NoPrinter" = some (.ref cNoPrinter)
  x_NoWay : XCl K cNoWay ["place"]
  mg_NoWay : mg "NoWay" = some (.ref cNoWay)
  in_HallError : InX K cHallError
  mg_HallError : mg "HallError" = some (.ref cHallError)
  kit : kitTab K [cBadLine, cUnknown, cTooMuch, cBusy, cNoPrinter, cNoWay] cHallError = true
end My

seal L2.PE L2.PS L2.PSs L2.PT L2.PW L2.PA L2.PI L2.PG L2.PGs L2.PSet L2.PIfs L2.PO L2.PK L2.CallR L2.OpR L2.IxR L2.SlR L2.UnR
namespace My
open PySem L2
open Blk (sg sg_inj sg_app)
section
variable {P : Program} {w : World} {K : PySem.W.Frag} {mg : Str → Option Value} {base : Heap}
/-- the script stands at a -/
structure Scr (K : PySem.W.Frag) (H : Hp) (a : Addr) : Prop where
  ex : ∃ ns : List Int, SqL K H a (ns.map V.int) ∧ ns.length ≤ 63
theorem Scr.same {K : PySem.W.Frag} {H H' : Hp} {a : Addr} (s : Scr K H a) (e : Same H H') : Scr K H' a := by
  obtain ⟨ns, h, l⟩ := s.ex
  exact ⟨ns, e.seq h, l⟩

end
end My

namespace My
open PySem L2
open Blk (sg sg_inj sg_app)
section
variable {P : Program} {w : World} {K : PySem.W.Frag} {mg : Str → Option Value} {base : Heap}
/-! the refusals' makes -/
def KeptBut (x : Addr) (H H' : Hp) : Prop := ∀ b o, b ≠ x → H b = some o → H' b = some o
def sp_one (C : Addr) (f : Str) : Sp := fun vs H Q _ => ∃ (x : Addr) (y : V), vs = [.ref x, y] ∧ H x = some (XO x C none) ∧ ∀ H', KeptBut x H H' → XF H' x C [(f, y)] → Q .non H'
theorem kept_set {H : Hp} {x dx : Addr} {o u : HO} (hd : H dx = none) : KeptBut x H (upd (upd H dx o) x u) := fun b v hb e => by
  rw [upd_ne hb, upd_ne (ne_of_none e hd)]; exact e
theorem xf_set {H : Hp} {x dx C : Addr} {fs : List (Str × V)} (hx : dx ≠ x) : XF (upd (upd H dx (XD dx fs)) x (XO x C (some dx))) x C fs := ⟨dx, upd_same, by rw [upd_ne hx, upd_same], hx⟩
theorem same_made {H H' : Hp} {x : Addr} {o : HO} (hx : H x = none) (k : KeptBut x (upd H x o) H') : Same H H' := fun b v e => by
  have hb : b ≠ x := ne_of_none e hx
  exact k b v hb (by rw [upd_ne hb]; exact e)
theorem raise_one {K : PySem.W.Frag} {C : Addr} {f : Str} {y : V} {H : Hp} {E : XK} (mk : PySem.W.excMk K C = true) (h : ∀ ea H', Same H H' → H ea = none → XG H' ea C [(f, y)] → E (.ref C) (some ea) H') :
    ∀ x, H x = none → sp_one C f (.ref x :: [y]) (upd H x (XO x C none)) (fun v H2 => v = .non ∧ ∃ ea C' d, V.ref x = .ref ea ∧ H2 ea = some (XO ea C' d) ∧ PySem.W.excMk K C' = true ∧ E (.ref C') (some ea) (upd H2 ea (XC ea C' d))) E0 := by
  intro x nx
  refine ⟨x, y, rfl, upd_same, fun H' kb xf => ⟨rfl, ?_⟩⟩
  obtain ⟨dx, a, g⟩ := xf.raised
  exact ⟨x, C, some dx, rfl, a, mk, h x _ (same_on nx (same_made nx kb) _) nx g⟩
theorem iteNN {c A B : Prop} [Decidable c] (hc : ¬ c) (h : A) : if (!decide c) = true then A else B := by
  rw [decide_eq_false hc]
  exact h

end
end My

namespace My
open PySem L2
open Blk (sg sg_inj sg_app)
section
variable {P : Program} {w : World} {K : PySem.W.Frag} {mg : Str → Option Value} {base : Heap}
theorem sc_Unknown_init : FnScope ["self", "name"] ["self", "name"] (defScope s_Unknown_init) := ⟨rfl, rfl, rfl, by decide +kernel, rfl, by decide +kernel, by decide +kernel⟩
theorem ok_Unknown_init {fa cJob cState cReady cStock cPrinter cBadLine cUnknown cTooMuch cBusy cNoPrinter cNoWay cHallError : Addr} {fd : FuncData} (F : Fun K "__init__" "Unknown.__init__" s_Unknown_init fa fd) (T : Txt K mg cJob cState cReady cStock cPrinter cBadLine cUnknown cTooMuch cBusy cNoPrinter cNoWay cHallError)  :
    FnOk P w K mg base CX0 1 fa fd ["self", "name"] (sp_one cUnknown "name") := by
  refine F.ok sc_Unknown_init (fun vs H Q E h => ?_) (fun cdv A outer s H vs Q E hr h => ?_)
  · obtain ⟨x, y, rfl, _⟩ := h
    rfl
  obtain ⟨x, y, rfl, hx, q⟩ := h
  refine ⟨_, (pss_cons (ps_expr (pe_initX T.in_HallError rfl T.mg_HallError (pa_cons (pv 0) (pa_cons (pv 1) pa_nil))))
  (pss_one (ps_fldX (pv 0) (pv 1) rfl))), ?_⟩
  refine ⟨_, rfl, _, rfl, x, _, none, [y], rfl, (by simp), hx, T.x_Unknown.m, ?_⟩
  refine ⟨_, rfl, _, rfl, .inl ⟨x, _, rfl, hx, T.x_Unknown.i.c, T.x_Unknown.n _ (.head _), fun dx nd ne => ?_⟩⟩
  exact q _ (kept_set nd) (xf_set ne)

theorem sc_TooMuch_init : FnScope ["self", "name"] ["self", "name"] (defScope s_TooMuch_init) := ⟨rfl, rfl, rfl, by decide +kernel, rfl, by decide +kernel, by decide +kernel⟩
theorem ok_TooMuch_init {fa cJob cState cReady cStock cPrinter cBadLine cUnknown cTooMuch cBusy cNoPrinter cNoWay cHallError : Addr} {fd : FuncData} (F : Fun K "__init__" "TooMuch.__init__" s_TooMuch_init fa fd) (T : Txt K mg cJob cState cReady cStock cPrinter cBadLine cUnknown cTooMuch cBusy cNoPrinter cNoWay cHallError)  :
    FnOk P w K mg base CX0 1 fa fd ["self", "name"] (sp_one cTooMuch "name") := by
  refine F.ok sc_TooMuch_init (fun vs H Q E h => ?_) (fun cdv A outer s H vs Q E hr h => ?_)
  · obtain ⟨x, y, rfl, _⟩ := h
    rfl
  obtain ⟨x, y, rfl, hx, q⟩ := h
  refine ⟨_, (pss_cons (ps_expr (pe_initX T.in_HallError rfl T.mg_HallError (pa_cons (pv 0) (pa_cons (pv 1) pa_nil))))
  (pss_one (ps_fldX (pv 0) (pv 1) rfl))), ?_⟩
  refine ⟨_, rfl, _, rfl, x, _, none, [y], rfl, (by simp), hx, T.x_TooMuch.m, ?_⟩
  refine ⟨_, rfl, _, rfl, .inl ⟨x, _, rfl, hx, T.x_TooMuch.i.c, T.x_TooMuch.n _ (.head _), fun dx nd ne => ?_⟩⟩
  exact q _ (kept_set nd) (xf_set ne)

/-! ### stocks -/
theorem putF_add {f : Str} {v : V} : ∀ {fs : List (Str × V)}, ¬ f ∈ fs.map (·.1) → putF f v fs = fs ++ [(f, v)]
  | [], _ => rfl
  | (g, u) :: r, h => by
    have h1 : ¬ g = f := fun e => h (by rw [← e]; exact List.mem_cons_self)
    show (if g = f then _ else (g, u) :: putF f v r) = _
    rw [if_neg h1, putF_add fun m => h (List.mem_cons_of_mem _ m)]
    rfl
def dI (ps : List (Str × Int)) : List (Key × V) := ps.map fun p => (Sum.inr p.1, V.int p.2)
theorem nodup_map_inr {l : List Str} (h : l.Nodup) : (l.map (Sum.inr : Str → Key)).Nodup := by
  induction l with
  | nil => exact List.nodup_nil
  | cons a r ih =>
    rw [List.nodup_cons] at h
    rw [List.map_cons, List.nodup_cons]
    refine ⟨fun m => ?_, ih h.2⟩
    obtain ⟨b, hb, e⟩ := List.mem_map.mp m
    cases e
    exact h.1 hb
def sp_Stock_init (C : Addr) : Sp := fun vs H Q _ => ∃ (x dx a : Addr) (rs : List (Str × Int)), vs = [.ref x, .ref a] ∧ H x = some (.ins C dx []) ∧ H a = some (.dK (dI rs)) ∧ (rs.map (·.1)).Nodup ∧ rs.length ≤ 1000 ∧
  ∀ r m H', (∀ b u, b ≠ x → H b = some u → H' b = some u) → H r = none → H m = none → r ≠ m → H' x = some (.ins C dx [("rooms", .ref r), ("amounts", .ref m)]) → H' r = some (.dK (dI rs)) → H' m = some (.dK (dI (rs.map fun p => (p.1, 0)))) → Q .non H'
theorem sc_Stock_init : FnScope ["self", "rooms"] ["self", "rooms"] (defScope s_Stock_init) := ⟨rfl, rfl, rfl, by decide +kernel, rfl, by decide +kernel, by decide +kernel⟩
theorem ok_Stock_init {fa cJob cState cReady cStock cPrinter cBadLine cUnknown cTooMuch cBusy cNoPrinter cNoWay cHallError : Addr} {fd : FuncData} (F : Fun K "__init__" "Stock.__init__" s_Stock_init fa fd) (T : Txt K mg cJob cState cReady cStock cPrinter cBadLine cUnknown cTooMuch cBusy cNoPrinter cNoWay cHallError)  :
    FnOk P w K mg base CX0 1 fa fd ["self", "rooms"] (sp_Stock_init cStock) := by
  refine F.ok sc_Stock_init (fun vs H Q E h => ?_) (fun cdv A outer s H vs Q E hr h => ?_)
  · obtain ⟨x, dx, a, rs, rfl, _⟩ := h
    rfl
  obtain ⟨x, dx, a, rs, rfl, hx, ha, nd, l1, q⟩ := h
  refine ⟨_, (pss_cons (ps_fld (pv 0) (pe_callTy call_dict_copy rfl T.dict bt_dict (pa_cons (pv 1) pa_nil)) rfl)
  (pss_one (ps_fld (pv 0) (pe_frz (pe_callTy (call_dict_pairs rfl) rfl T.dict bt_dict (pa_cons (pe_comp (frees := []) ⟨by decide +kernel, rfl, rfl, by decide +kernel, trivial, by decide +kernel, cellsFor_at rfl, rfl⟩ rfl (pi_dict (pv 1)) (fun _ _ _ _ => pifs_nil) (fun _ _ _ _ => by exact (pe_tup (pa_cons (pv 0) (pa_cons pe_int pa_nil))))) pa_nil))) rfl))), ?_⟩
  have z2 : 2 ≤ sizeLine := small (by decide)
  refine ⟨_, rfl, a, _, rfl, .inl ha, fun r nr => ?_⟩
  have nrx : x ≠ r := ne_of_none hx nr
  have nra : a ≠ r := ne_of_none ha nr
  have nax : a ≠ x := ne_of ha hx (by intro z; cases z)
  refine ⟨_, rfl, x, cStock, dx, _, rfl, (by rw [upd_ne nrx]; exact hx), T.cl_Stock, T.n_Stock_rooms, (by show 0 < 1000; decide), ?_⟩
  rw [putF_add (by show ¬ ("rooms" : Str) ∈ ([] : List Str); decide +kernel), List.nil_append]
  have k1 : ∀ b u, b ≠ x → H b = some u → upd (upd H r (.dK (dI rs))) x (.ins cStock dx [("rooms", .ref r)]) b = some u := fun b u nb e => by rw [upd_ne nb, upd_ne (ne_of_none e nr)]; exact e
  have hr1 : upd (upd H r (.dK (dI rs))) x (.ins cStock dx [("rooms", .ref r)]) r = some (.dK (dI rs)) := by rw [upd_ne (Ne.symm nrx), upd_same]
  have hx1 : upd (upd H r (.dK (dI rs))) x (.ins cStock dx [("rooms", .ref r)]) x = some (.ins cStock dx [("rooms", .ref r)]) := upd_same
  generalize upd (upd H r (.dK (dI rs))) x (.ins cStock dx [("rooms", .ref r)]) = H1 at k1 hr1 hx1 ⊢
  refine ⟨a, dI rs, k1 _ _ nax ha, fun o => ?_⟩
  refine ⟨_, rfl, a, o, dI rs, rfl, upd_same, ?_⟩
  have zr : ((dI rs).map fun p => kV p.1).length = rs.length := by unfold dI; rw [List.length_map, List.length_map]
  refine compB_mk (seq_dict upd_same) (fun n y H' => ∃ t, y = .ref t ∧ H' t = some (.tup [n, .int 0])) (by rw [zr]; exact small1000 l1) (fun x _ H' R _ rr => rr) (fun n _ H' R _ rr => ⟨_, rfl, z2, fun t nt => rr _ _ (same_new nt _) ⟨fun z => z = t, fun b hb => by subst hb; exact ⟨nt, _, upd_same⟩, fun H3 h3 => ⟨t, rfl, by rw [h3 t rfl]; exact upd_same⟩⟩⟩) (fun D H2 ys s2 nD hD ly gy => ?_)
  have k2 : ∀ b u, b ≠ a → H1 b = some u → H2 b = some u := fun b u nb e => s2 b u (by rw [upd_ne nb]; exact e)
  have ha2 := s2 _ _ (upd_same (H := H1) (a := a) (o := .frz o (.dK (dI rs))))
  have nd' : ((dI (rs.map fun p => (p.1, 0))).map (·.1)).Nodup := by
    have e : (dI (rs.map fun p => (p.1, (0 : Int)))).map (·.1) = (rs.map (·.1)).map (Sum.inr : Str → Key) := by
      unfold dI
      rw [List.map_map, List.map_map, List.map_map]
      rfl
    rw [e]
    exact nodup_map_inr nd
  refine ⟨D, ys, dI (rs.map fun p => (p.1, 0)), rfl, hD, ?_, fun i y kv e1 e2 => ?_, nd', fun m nm => ⟨?_, ?_⟩⟩
  · rw [ly, zr]
    unfold dI
    rw [List.length_map, List.length_map]
  · unfold dI at e2
    rw [List.map_map, List.getElem?_map] at e2
    obtain ⟨p, ep, rfl⟩ := Option.map_eq_some_iff.mp e2
    have ex : ((dI rs).map fun p => kV p.1)[i]? = some (.str p.1) := by
      unfold dI
      rw [List.map_map, List.getElem?_map, ep]
      rfl
    obtain ⟨t, rfl, ht⟩ := gy i _ y ex e1
    exact ⟨t, rfl, SqT.of ht⟩
  · rw [upd_ne (ne_of_none ha2 nm)]
    exact ha2
  have nma : a ≠ m := ne_of_none ha2 nm
  have hx2 := k2 _ _ (Ne.symm nax) hx1
  have nmx : x ≠ m := ne_of_none hx2 nm
  have hr2 := k2 _ _ (Ne.symm nra) hr1
  have nmr : r ≠ m := ne_of_none hr2 nm
  refine ⟨_, rfl, x, cStock, dx, _, rfl, (by rw [upd_ne (Ne.symm nax), upd_ne nmx]; exact hx2), T.cl_Stock, T.n_Stock_amounts, (by show 1 < 1000; decide), ?_⟩
  rw [putF_add (by show ¬ ("amounts" : Str) ∈ (["rooms"] : List Str); decide +kernel)]
  have nm1 : H m = none := by
    cases e : H m with
    | none => rfl
    | some u =>
      have : H2 m = some u := k2 m u (Ne.symm nma) (k1 m u (Ne.symm nmx) e)
      rw [nm] at this
      cases this
  refine q r m _ (fun b u nb e => ?_) nr nm1 nmr upd_same ?_ ?_
  · rw [upd_ne nb]
    by_cases hb : b = a
    · subst hb
      rw [upd_same]
      rw [ha] at e
      exact e
    · have e2 := k2 b u hb (k1 b u nb e)
      rw [upd_ne hb, upd_ne (ne_of_none e2 nm)]
      exact e2
  · rw [upd_ne (Ne.symm nrx), upd_ne (Ne.symm nra), upd_ne nmr]
    exact hr2
  · rw [upd_ne (Ne.symm nmx), upd_ne (Ne.symm nma), upd_same]
theorem val_dI {rs : List (Str × Int)} {n : Str} : valV (dI rs) (Sum.inr n : Key) = (rs.lookup n).map V.int := by
  induction rs with
  | nil => rfl
  | cons p r ih =>
    obtain ⟨k, v⟩ := p
    show ((((Sum.inr k : Key), V.int v) :: dI r).find? fun kv => decide (kv.1 = Sum.inr n)).map (·.2) = _
    rw [List.find?_cons, List.lookup_cons]
    by_cases h : k = n
    · subst h
      rw [decide_eq_true rfl, beq_self_eq_true]
      rfl
    · rw [decide_eq_false (show ¬ (((Sum.inr k : Key), V.int v).1 = Sum.inr n) from fun z => h (Sum.inr.inj z)), beq_eq_false_iff_ne.mpr (Ne.symm h)]
      exact ih
theorem dget_dI {H : Hp} {m : Addr} {am : List (Str × Int)} {n : Str} {v : Int} (e : H m = some (.dK (dI am))) (l : am.lookup n = some v) : DGet H m (.str n) (some (.int v)) := by
  have := DGet.k (k := Sum.inr n) e
  rw [val_dI, l] at this
  exact this
theorem look_some {rs : List (Str × Int)} {n : Str} {v : Int} (h : rs.lookup n = some v) : n ∈ rs.map (·.1) := List.mem_map.mpr ⟨(n, v), PySem.mem_of_lookup h, rfl⟩
theorem look_none {rs : List (Str × Int)} {n : Str} (h : rs.lookup n = none) : ¬ n ∈ rs.map (·.1) := by
  intro m
  obtain ⟨p, hp, e⟩ := List.mem_map.mp m
  rw [List.lookup_eq_none_iff] at h
  have := h p hp
  rw [e] at this
  simp at this
theorem look_in {rs : List (Str × Int)} {n : Str} (h : n ∈ rs.map (·.1)) : (rs.lookup n).isNone = false := by
  cases e : rs.lookup n with
  | none => exact absurd h (look_none e)
  | some v => rfl
theorem look_out {rs : List (Str × Int)} {n : Str} (h : ¬ n ∈ rs.map (·.1)) : (rs.lookup n).isNone = true := by
  cases e : rs.lookup n with
  | none => rfl
  | some v => exact absurd (look_some e) h
def StockAt (C : Addr) (H : Hp) (x : Addr) (rs am : List (Str × Int)) : Prop := ∃ dx r m, H x = some (.ins C dx [("rooms", .ref r), ("amounts", .ref m)]) ∧ H r = some (.dK (dI rs)) ∧ H m = some (.dK (dI am)) ∧ r ≠ m
theorem StockAt.same {C : Addr} {H H' : Hp} {x : Addr} {rs am : List (Str × Int)} (h : StockAt C H x rs am) (k : Same H H') : StockAt C H' x rs am := let ⟨dx, r, m, e1, e2, e3, n⟩ := h; ⟨dx, r, m, k _ _ e1, k _ _ e2, k _ _ e3, n⟩
def OutU (cU : Addr) (n : Str) (H : Hp) (E : XK) : Prop := ∀ ea H', Same H H' → XG H' ea cU [("name", .str n)] → E (.ref cU) (some ea) H'
def sp_know (C cU : Addr) : Sp := fun vs H Q E => ∃ x rs am n, vs = [.ref x, .str n] ∧ StockAt C H x rs am ∧ (n ∈ rs.map (·.1) → Q .non H) ∧ (¬ n ∈ rs.map (·.1) → OutU cU n H E)
theorem sc_Stock_know : FnScope ["self", "name"] ["self", "name"] (defScope s_Stock_know) := ⟨rfl, rfl, rfl, by decide +kernel, rfl, by decide +kernel, by decide +kernel⟩
theorem ok_Stock_know {fa cJob cState cReady cStock cPrinter cBadLine cUnknown cTooMuch cBusy cNoPrinter cNoWay cHallError : Addr} {fd : FuncData} (F : Fun K "know" "Stock.know" s_Stock_know fa fd) (T : Txt K mg cJob cState cReady cStock cPrinter cBadLine cUnknown cTooMuch cBusy cNoPrinter cNoWay cHallError) (X_Unknown : MkXD P w K mg base 1 "Unknown" cUnknown ["self", "name"] (sp_one cUnknown "name")) :
    FnOk P w K mg base (CXe P w) 3 fa fd ["self", "name"] (sp_know cStock cUnknown) := by
  refine F.okE sc_Stock_know (fun vs H Q E h => ?_) (fun cdv A outer s H vs Q E hr h => ?_)
  · obtain ⟨x, rs, am, n, rfl, _⟩ := h
    rfl
  obtain ⟨x, rs, am, n, rfl, ⟨dx, r, m, hx, hr', hm, ne⟩, q1, q2⟩ := h
  have hu := hu_n hr 0 (by decide)
  refine ⟨_, (pss_one (ps_if (pt_cmp (pc_dnotin hu (pv 1) (pe_fld (pv 0) rfl))) (pss_one (ps_raise raise_def rfl (pe_makeXD X_Unknown (hr.mono (by decide)) rfl (pa_cons (pv 1) pa_nil)))) pss_nil)), ?_⟩
  refine ⟨_, rfl, _, rfl, x, cStock, dx, _, _, rfl, hx, T.cl_Stock, T.n_Stock_rooms, rfl, r, _, rfl, DGet.k (k := Sum.inr n) hr', _, rfl, ?_⟩
  rw [val_dI]
  cases e : rs.lookup n with
  | some v => exact iteF (q1 (look_some e))
  | none => exact iteT ⟨_, rfl, raise_one T.x_Unknown.m fun ea H' sm _ g => q2 (look_none e) ea H' sm g⟩
def sp_held (C cU : Addr) : Sp := fun vs H Q E => ∃ x rs am n, vs = [.ref x, .str n] ∧ StockAt C H x rs am ∧ (∀ v, n ∈ rs.map (·.1) → am.lookup n = some v → Q (.int v) H) ∧ (n ∈ rs.map (·.1) → ∃ v, am.lookup n = some v) ∧ (¬ n ∈ rs.map (·.1) → OutU cU n H E)
def sp_room (C cU : Addr) : Sp := fun vs H Q E => ∃ x rs am n, vs = [.ref x, .str n] ∧ StockAt C H x rs am ∧ (∀ v, rs.lookup n = some v → Q (.int v) H) ∧ (¬ n ∈ rs.map (·.1) → OutU cU n H E)
theorem sc_Stock_held : FnScope ["self", "name"] ["self", "name"] (defScope s_Stock_held) := ⟨rfl, rfl, rfl, by decide +kernel, rfl, by decide +kernel, by decide +kernel⟩
theorem ok_Stock_held {fa cJob cState cReady cStock cPrinter cBadLine cUnknown cTooMuch cBusy cNoPrinter cNoWay cHallError : Addr} {fd : FuncData} (F : Fun K "held" "Stock.held" s_Stock_held fa fd) (T : Txt K mg cJob cState cReady cStock cPrinter cBadLine cUnknown cTooMuch cBusy cNoPrinter cNoWay cHallError) (D_Stock_know : MtE P w K mg base 3 "know" cStock ["self", "name"] (sp_know cStock cUnknown)) :
    FnOk P w K mg base (CXe P w) 4 fa fd ["self", "name"] (sp_held cStock cUnknown) := by
  refine F.okE sc_Stock_held (fun vs H Q E h => ?_) (fun cdv A outer s H vs Q E hr h => ?_)
  · obtain ⟨x, rs, am, n, rfl, _⟩ := h
    rfl
  obtain ⟨x, rs, am, n, rfl, S, q1, q0, q2⟩ := h
  have hu := hu_n hr 0 (by decide)
  obtain ⟨dx, r, m, hx, hr', hm, ne⟩ := id S
  refine ⟨_, (pss_cons (ps_expr (pe_methE 3 pass_def (hr.mono (by decide)) (pv 0) (pa_cons (pv 1) pa_nil)))
  (pss_one (ps_ret (pe_dget hu (pe_fld (pv 0) rfl) (pv 1) (fun _ _ => rfl))))), ?_⟩
  refine ⟨_, rfl, x, _, dx, _, _, _, rfl, hx, rfl, T.cl_Stock, D_Stock_know, _, rfl, x, rs, am, n, rfl, S, fun hn => ?_, q2⟩
  obtain ⟨v, ev⟩ := q0 hn
  exact ⟨_, rfl, x, cStock, dx, _, _, rfl, hx, T.cl_Stock, T.n_Stock_amounts, rfl, _, rfl, m, _, rfl, dget_dI hm ev, q1 v hn ev⟩
/-! ### all that is given, all that is wanted -/
def GiftAt (H : Hp) (y : V) (g : Str × Int) : Prop := ∃ t, y = .ref t ∧ H t = some (.tup [.str g.1, .int g.2])
def GiftsAt (H : Hp) (p : Addr) (ws : List (Str × Int)) : Prop := ∃ ts, H p = some (.lst ts) ∧ ts.length = ws.length ∧ ∀ (i : Nat) y g, ts[i]? = some y → ws[i]? = some g → GiftAt H y g
theorem GiftAt.same {H H' : Hp} {y : V} {g : Str × Int} (h : GiftAt H y g) (k : Same H H') : GiftAt H' y g := let ⟨t, e, e1⟩ := h; ⟨t, e, k _ _ e1⟩
theorem GiftsAt.same {H H' : Hp} {p : Addr} {ws : List (Str × Int)} (h : GiftsAt H p ws) (k : Same H H') : GiftsAt H' p ws := let ⟨ts, e, l, g⟩ := h; ⟨ts, k _ _ e, l, fun i y s e1 e2 => (g i y s e1 e2).same k⟩
/-- the first name that it does not know -/
def strange (rs ws : List (Str × Int)) : Option Str := (ws.find? fun g => (rs.lookup g.1).isNone).map (·.1)
theorem find_first {α : Type} {f : α → Bool} : ∀ {l : List α} {i : Nat} {a : α}, l[i]? = some a → (∀ j b, j < i → l[j]? = some b → f b = false) → f a = true → l.find? f = some a
  | [], _, _, h, _, _ => by simp at h
  | b :: r, 0, a, h, _, k => by
    obtain rfl : b = a := Option.some.inj h
    rw [List.find?_cons, k]
  | b :: r, i + 1, a, h, g, k => by
    have hb : f b = false := g 0 b (Nat.succ_pos _) rfl
    rw [List.find?_cons, hb]
    exact find_first (i := i) h (fun j c hj e => g (j + 1) c (Nat.succ_lt_succ hj) e) k
theorem find_no {α : Type} {f : α → Bool} {l : List α} (h : ∀ (j : Nat) b, l[j]? = some b → f b = false) : l.find? f = none := by
  rw [List.find?_eq_none]
  intro x hx
  obtain ⟨j, hj⟩ := List.mem_iff_getElem?.mp hx
  rw [h j x hj]
  decide
def sp_know_all (C cU : Addr) : Sp := fun vs H Q E => ∃ x p rs am ws, vs = [.ref x, .ref p] ∧ StockAt C H x rs am ∧ GiftsAt H p ws ∧ (strange rs ws = none → Q .non H) ∧ (∀ n, strange rs ws = some n → OutU cU n H E)
theorem sc_Stock_know_all : FnScope ["self", "rows", "row"] ["self", "rows"] (defScope s_Stock_know_all) := ⟨rfl, rfl, rfl, by decide +kernel, rfl, by decide +kernel, by decide +kernel⟩
theorem ok_Stock_know_all {fa cJob cState cReady cStock cPrinter cBadLine cUnknown cTooMuch cBusy cNoPrinter cNoWay cHallError : Addr} {fd : FuncData} (F : Fun K "know_all" "Stock.know_all" s_Stock_know_all fa fd) (T : Txt K mg cJob cState cReady cStock cPrinter cBadLine cUnknown cTooMuch cBusy cNoPrinter cNoWay cHallError) (D_Stock_know : MtE P w K mg base 3 "know" cStock ["self", "name"] (sp_know cStock cUnknown)) :
    FnOk P w K mg base (CXe P w) 4 fa fd ["self", "rows"] (sp_know_all cStock cUnknown) := by
  refine F.okE sc_Stock_know_all (fun vs H Q E h => ?_) (fun cdv A outer s H vs Q E hr h => ?_)
  · obtain ⟨x, p, rs, am, ws, rfl, _⟩ := h
    rfl
  obtain ⟨x, p, rs, am, ws, rfl, S, ⟨ts, hp, lt, gt⟩, q1, q2⟩ := h
  have hu := hu_n hr 0 (by decide)
  obtain ⟨dx, r, m, hx, hr', hm, ne⟩ := id S
  refine ⟨_, (pss_one (ps_for own_def rfl (pi_list (pv 1)) (pg_name (i := 2) sc_Stock_know_all.nd rfl (by first | exact Or.inl rfl | exact Or.inr rfl))
  (pss_one (ps_expr (pe_methE 3 pass_def (hr.mono (by decide)) (pv 0) (pa_cons (pe_ix ix_tup (pv 2) pe_int (fun _ _ => rfl)) pa_nil)))))), ?_⟩
  refine ⟨_, rfl, p, rfl, ⟨_, SqL.of hp⟩, for_list (K := K) (a := p) (xs := ts) (fun i σ H' => H' = H ∧ (∀ (j : Nat) g, j < i → ws[j]? = some g → (rs.lookup g.1).isNone = false) ∧ ∃ v, σ = [some (.ref x), some (.ref p), v]) ⟨rfl, fun j g hj => absurd hj (Nat.not_lt_zero j), _, rfl⟩ (fun i σ H' _ z => by rw [z.1]; exact SqL.of hp) (fun i y σ H' hy z => ?_) (fun σ H' z => ?_)⟩
  · obtain ⟨rfl, kn, v, rfl⟩ := z
    obtain ⟨g, eg⟩ : ∃ g, ws[i]? = some g := ⟨_, List.getElem?_eq_getElem (by rw [← lt]; exact (List.getElem?_eq_some_iff.mp hy).1)⟩
    obtain ⟨t, rfl, ht⟩ := gt i y g hy eg
    refine ⟨_, rfl, x, _, dx, _, _, _, rfl, hx, rfl, T.cl_Stock, D_Stock_know, ?_⟩
    refine ⟨_, rfl, t, _, _, _, rfl, rfl, SqT.of ht, atI_nat (j := 0) rfl, x, rs, am, g.1, rfl, S, fun hn => ⟨rfl, fun j g' hj e => ?_, _, rfl⟩, fun hn => q2 g.1 ?_⟩
    · by_cases hji : j < i
      · exact kn j g' hji e
      · have : j = i := by omega
        subst this
        rw [eg] at e
        obtain rfl := Option.some.inj e
        exact look_in hn
    · unfold strange
      rw [find_first eg (fun j b hj e => kn j b hj e) (look_out hn)]
      rfl
  · obtain ⟨rfl, kn, v, rfl⟩ := z
    refine q1 ?_
    unfold strange
    rw [find_no fun j g e => kn j g (by rw [lt]; exact (List.getElem?_eq_some_iff.mp e).1) e]
    rfl
def StockM (C : Addr) (H : Hp) (x r m : Addr) (rs am : List (Str × Int)) : Prop := (∃ dx, H x = some (.ins C dx [("rooms", .ref r), ("amounts", .ref m)])) ∧ H r = some (.dK (dI rs)) ∧ H m = some (.dK (dI am)) ∧ r ≠ m
theorem StockM.at {C : Addr} {H : Hp} {x r m : Addr} {rs am : List (Str × Int)} (h : StockM C H x r m rs am) : StockAt C H x rs am := let ⟨⟨dx, e1⟩, e2, e3, n⟩ := h; ⟨dx, r, m, e1, e2, e3, n⟩
/-- an amount, written anew -/
def setA (am : List (Str × Int)) (n : Str) (v : Int) : List (Str × Int) := am.map fun p => if p.1 = n then (p.1, v) else p
def addAll (s : Int) (am ws : List (Str × Int)) : List (Str × Int) := ws.foldl (fun am g => setA am g.1 ((am.lookup g.1).getD 0 + s * g.2)) am
theorem keys_setA (am : List (Str × Int)) (n : Str) (v : Int) : (setA am n v).map (·.1) = am.map (·.1) := by
  unfold setA
  rw [List.map_map]
  refine List.map_congr_left fun p _ => ?_
  show (if p.1 = n then (p.1, v) else p).1 = p.1
  split <;> rfl
theorem put_dI {am : List (Str × Int)} {n : Str} {v : Int} (h : n ∈ am.map (·.1)) : putK (dI am) (Sum.inr n : Key) (.int v) = dI (setA am n v) := by
  have hany : ((dI am).any fun kv => decide (kv.1 = (Sum.inr n : Key))) = true := by
    obtain ⟨p, hp, e⟩ := List.mem_map.mp h
    refine List.any_eq_true.mpr ⟨(Sum.inr p.1, V.int p.2), List.mem_map.mpr ⟨p, hp, rfl⟩, decide_eq_true ?_⟩
    rw [e]
  unfold putK
  rw [if_pos hany]
  unfold dI setA
  rw [List.map_map, List.map_map]
  refine List.map_congr_left fun p _ => ?_
  show (if (Sum.inr p.1 : Key) = Sum.inr n then ((Sum.inr p.1 : Key), V.int v) else (Sum.inr p.1, V.int p.2)) = (Sum.inr (if p.1 = n then (p.1, v) else p).1, V.int (if p.1 = n then (p.1, v) else p).2)
  by_cases e : p.1 = n
  · rw [if_pos (by rw [e]), if_pos e]
  · rw [if_neg (fun z => e (Sum.inr.inj z)), if_neg e]
/-- the first name of which there would be too much -/
def tooMuch (rs am ws : List (Str × Int)) : Option Str := (ws.find? fun g => decide ((rs.lookup g.1).getD 0 < (am.lookup g.1).getD 0 + g.2)).map (·.1)
def tooFew (am ws : List (Str × Int)) : Option Str := (ws.find? fun g => decide ((am.lookup g.1).getD 0 < g.2)).map (·.1)
def sp_all (C cU cN : Addr) (s : Int) (bad : List (Str × Int) → List (Str × Int) → List (Str × Int) → Option Str) : Sp := fun vs H Q E => ∃ x r m p rs am ws, vs = [.ref x, .ref p] ∧ StockM C H x r m rs am ∧ am.map (·.1) = rs.map (·.1) ∧ am.length ≤ 1000 ∧ p ≠ m ∧ GiftsAt H p ws ∧
  (∀ n, strange rs ws = some n → OutU cU n H E) ∧ (∀ n, strange rs ws = none → bad rs am ws = some n → OutU cN n H E) ∧
  (strange rs ws = none → bad rs am ws = none → ∀ H', (∀ b u, b ≠ m → H b = some u → H' b = some u) → StockM C H' x r m rs (addAll s am ws) → Q .non H')
theorem keys_addAll (s : Int) : ∀ (ws am : List (Str × Int)), (addAll s am ws).map (·.1) = am.map (·.1)
  | [], _ => rfl
  | g :: r, am => by
    show (addAll s (setA am g.1 ((am.lookup g.1).getD 0 + s * g.2)) r).map (·.1) = _
    rw [keys_addAll s r, keys_setA]
theorem addAll_snoc (s : Int) (am ws : List (Str × Int)) (g : Str × Int) : addAll s am (ws ++ [g]) = setA (addAll s am ws) g.1 (((addAll s am ws).lookup g.1).getD 0 + s * g.2) := by
  unfold addAll
  rw [List.foldl_append]
  rfl
theorem look_keys {rs am : List (Str × Int)} {n : Str} {v : Int} (e : am.map (·.1) = rs.map (·.1)) (h : rs.lookup n = some v) : ∃ w, am.lookup n = some w := by
  cases l : am.lookup n with
  | some w => exact ⟨w, rfl⟩
  | none => exact absurd (e ▸ look_some h) (look_none l)
theorem strange_none {rs ws : List (Str × Int)} (h : strange rs ws = none) {j : Nat} {g : Str × Int} (e : ws[j]? = some g) : ∃ v, rs.lookup g.1 = some v := by
  unfold strange at h
  have h1 := List.find?_eq_none.mp (Option.map_eq_none_iff.mp h) g (List.mem_of_getElem? e)
  cases l : rs.lookup g.1 with
  | some v => exact ⟨v, rfl⟩
  | none => rw [l] at h1; exact absurd rfl h1
theorem sc_Stock_put_all : FnScope ["self", "gifts", "name", "many"] ["self", "gifts"] (defScope s_Stock_put_all) := ⟨rfl, rfl, rfl, by decide +kernel, rfl, by decide +kernel, by decide +kernel⟩
theorem ok_Stock_put_all {fa cJob cState cReady cStock cPrinter cBadLine cUnknown cTooMuch cBusy cNoPrinter cNoWay cHallError : Addr} {fd : FuncData} (F : Fun K "put_all" "Stock.put_all" s_Stock_put_all fa fd) (T : Txt K mg cJob cState cReady cStock cPrinter cBadLine cUnknown cTooMuch cBusy cNoPrinter cNoWay cHallError) (X_TooMuch : MkXD P w K mg base 1 "TooMuch" cTooMuch ["self", "name"] (sp_one cTooMuch "name")) (D_Stock_know_all : MtE P w K mg base 4 "know_all" cStock ["self", "rows"] (sp_know_all cStock cUnknown)) :
    FnOk P w K mg base (CXe P w) 5 fa fd ["self", "gifts"] (sp_all cStock cUnknown cTooMuch 1 tooMuch) := by
  refine F.okE sc_Stock_put_all (fun vs H Q E h => ?_) (fun cdv A outer s H vs Q E hr h => ?_)
  · obtain ⟨x, r, m, p, rs, am, ws, rfl, _⟩ := h
    rfl
  obtain ⟨x, r, m, p, rs, am, ws, rfl, S, ek, la, npm, G, q1, q2, q3⟩ := h
  have hu := hu_n hr 0 (by decide)
  obtain ⟨⟨dx, hx⟩, hr', hm, ne⟩ := id S
  obtain ⟨ts, hp, lt, gt⟩ := id G
  have nxm : x ≠ m := ne_of hx hm (by intro z; cases z)
  refine ⟨_, (pss_cons (ps_expr (pe_methE 4 pass_def (hr.mono (by decide)) (pv 0) (pa_cons (pv 1) pa_nil)))
  (pss_cons (ps_for own_def rfl (pi_list (pv 1)) (pg_tup rfl (pgs_cons (pg_name (i := 2) sc_Stock_put_all.nd rfl (by first | exact Or.inl rfl | exact Or.inr rfl)) (pgs_cons (pg_name (i := 3) sc_Stock_put_all.nd rfl (by first | exact Or.inl rfl | exact Or.inr rfl)) pgs_nil)))
  (pss_one (ps_if (pt_cmpR op_gt (pe_op op_add (pe_dget hu (pe_fld (pv 0) rfl) (pv 2) (fun _ _ => rfl)) (pv 3)) (pe_dget hu (pe_fld (pv 0) rfl) (pv 2) (fun _ _ => rfl)) (nomark _)) (pss_one (ps_raise raise_def rfl (pe_makeXD X_TooMuch (hr.mono (by decide)) rfl (pa_cons (pv 2) pa_nil)))) pss_nil)))
  (pss_one (ps_for own_def rfl (pi_list (pv 1)) (pg_tup rfl (pgs_cons (pg_name (i := 2) sc_Stock_put_all.nd rfl (by first | exact Or.inl rfl | exact Or.inr rfl)) (pgs_cons (pg_name (i := 3) sc_Stock_put_all.nd rfl (by first | exact Or.inl rfl | exact Or.inr rfl)) pgs_nil)))
  (pss_one (ps_daug hu (pe_fld (pv 0) rfl) (pv 2) (pv 3) in_add (fun _ _ _ => rfl))))))), ?_⟩
  refine ⟨_, rfl, x, _, dx, _, _, _, rfl, hx, rfl, T.cl_Stock, D_Stock_know_all, _, rfl, x, p, rs, am, ws, rfl, S.at, G, fun kn => ?_, q1⟩
  refine ⟨_, rfl, p, rfl, ⟨_, SqL.of hp⟩, for_list (K := K) (a := p) (xs := ts) (fun i σ H' => H' = H ∧ (∀ (j : Nat) g, j < i → ws[j]? = some g → decide ((rs.lookup g.1).getD 0 < (am.lookup g.1).getD 0 + g.2) = false) ∧ ∃ v2 v3, σ = [some (.ref x), some (.ref p), v2, v3]) ⟨rfl, fun j g hj => absurd hj (Nat.not_lt_zero j), _, _, rfl⟩ (fun i σ H' _ z => by rw [z.1]; exact SqL.of hp) (fun i y σ H' hy z => ?_) (fun σ H' z => ?_)⟩
  · obtain ⟨rfl, kb, v2, v3, rfl⟩ := z
    obtain ⟨g, eg⟩ : ∃ g, ws[i]? = some g := ⟨_, List.getElem?_eq_getElem (by rw [← lt]; exact (List.getElem?_eq_some_iff.mp hy).1)⟩
    obtain ⟨t, rfl, ht⟩ := gt i y g hy eg
    obtain ⟨vr, er⟩ := strange_none kn eg
    obtain ⟨va, ea⟩ := look_keys ek er
    refine ⟨t, [.str g.1, .int g.2], rfl, SqT.of ht, rfl, .str g.1, [.int g.2], rfl, .int g.2, [], rfl, rfl, ?_⟩
    refine ⟨_, rfl, x, cStock, dx, _, _, rfl, hx, T.cl_Stock, T.n_Stock_amounts, rfl, _, rfl, m, _, rfl, dget_dI hm ea, _, rfl, _, _, rfl, rfl, _, rfl, x, cStock, dx, _, _, rfl, hx, T.cl_Stock, T.n_Stock_rooms, rfl, _, rfl, r, _, rfl, dget_dI hr' er, _, _, rfl, rfl, decide (vr < va + g.2), rfl, ?_⟩
    have eb : (decide ((rs.lookup g.1).getD 0 < (am.lookup g.1).getD 0 + g.2)) = decide (vr < va + g.2) := by rw [ea, er]; rfl
    cases hd : decide (vr < va + g.2) with
    | false =>
      refine iteF ⟨rfl, fun j g' hj e => ?_, _, _, rfl⟩
      by_cases hji : j < i
      · exact kb j g' hji e
      · have : j = i := by omega
        subst this
        rw [eg] at e
        obtain rfl := Option.some.inj e
        rw [eb, hd]
    | true =>
      refine iteT ⟨_, rfl, raise_one T.x_TooMuch.m fun ea H2 sm _ gx => q2 g.1 kn ?_ ea H2 sm gx⟩
      unfold tooMuch
      rw [find_first eg (fun j b hj e => kb j b hj e) (by rw [eb, hd])]
      rfl
  · obtain ⟨rfl, kb, v2, v3, rfl⟩ := z
    have nb : tooMuch rs am ws = none := by
      unfold tooMuch
      rw [find_no fun j g e => kb j g (by rw [lt]; exact (List.getElem?_eq_some_iff.mp e).1) e]
      rfl
    refine ⟨_, rfl, p, rfl, ⟨_, SqL.of hp⟩, for_list (K := K) (a := p) (xs := ts) (fun i σ H2 => (∀ b u, b ≠ m → H' b = some u → H2 b = some u) ∧ H2 m = some (.dK (dI (addAll 1 am (ws.take i)))) ∧ ∃ v2 v3, σ = [some (.ref x), some (.ref p), v2, v3]) ⟨fun b u _ e => e, hm, _, _, rfl⟩ (fun i σ H2 _ z => SqL.of (z.1 _ _ npm hp)) (fun i y σ H2 hy z => ?_) (fun σ H2 z => ?_)⟩
    · obtain ⟨kp, hm2, v2, v3, rfl⟩ := z
      obtain ⟨g, eg⟩ : ∃ g, ws[i]? = some g := ⟨_, List.getElem?_eq_getElem (by rw [← lt]; exact (List.getElem?_eq_some_iff.mp hy).1)⟩
      obtain ⟨t, rfl, ht⟩ := gt i y g hy eg
      obtain ⟨vr, er⟩ := strange_none kn eg
      have ek2 : (addAll 1 am (ws.take i)).map (·.1) = rs.map (·.1) := by rw [keys_addAll, ek]
      obtain ⟨va, ea⟩ := look_keys ek2 er
      have tk : ws.take (i + 1) = ws.take i ++ [g] := by rw [List.take_add_one, eg]; rfl
      refine ⟨t, [.str g.1, .int g.2], rfl, SqT.of (kp _ _ (ne_of ht hm (by intro z; cases z)) ht), rfl, .str g.1, [.int g.2], rfl, .int g.2, [], rfl, rfl, ?_⟩
      have ln : (dI (addAll 1 am (ws.take i))).length < sizeLine := by
        unfold dI
        have := congrArg List.length (keys_addAll 1 (ws.take i) am)
        rw [List.length_map, List.length_map] at this
        rw [List.length_map, this]
        exact small1000 la
      refine ⟨_, rfl, x, cStock, dx, _, _, rfl, kp _ _ nxm hx, T.cl_Stock, T.n_Stock_amounts, rfl, _, rfl, m, _, rfl, dget_dI hm2 ea, _, rfl, _, _, rfl, rfl, _, DPut.k (k := Sum.inr g.1) hm2 ln, ?_⟩
      refine ⟨fun b u nb e => by rw [upd_ne nb]; exact kp b u nb e, ?_, _, _, rfl⟩
      rw [upd_same, put_dI (look_some ea), tk, addAll_snoc, ea, Option.getD_some]
      rw [Int.one_mul]
    · obtain ⟨kp, hm2, v2, v3, rfl⟩ := z
      rw [List.take_of_length_le (by omega)] at hm2
      exact q3 kn nb H2 kp ⟨⟨dx, kp _ _ nxm hx⟩, kp _ _ ne hr', hm2, ne⟩
def sp_put (C cU cT : Addr) : Sp := fun vs H Q E => ∃ x r m rs am n k, vs = [.ref x, .str n, .int k] ∧ StockM C H x r m rs am ∧ am.map (·.1) = rs.map (·.1) ∧ am.length ≤ 1000 ∧
  (∀ n', strange rs [(n, k)] = some n' → OutU cU n' H E) ∧ (∀ n', strange rs [(n, k)] = none → tooMuch rs am [(n, k)] = some n' → OutU cT n' H E) ∧
  (strange rs [(n, k)] = none → tooMuch rs am [(n, k)] = none → ∀ H', (∀ b u, b ≠ m → H b = some u → H' b = some u) → StockM C H' x r m rs (addAll 1 am [(n, k)]) → Q .non H')
theorem StockM.same {C : Addr} {H H' : Hp} {x r m : Addr} {rs am : List (Str × Int)} (h : StockM C H x r m rs am) (k : Same H H') : StockM C H' x r m rs am := let ⟨⟨dx, e1⟩, e2, e3, n⟩ := h; ⟨⟨dx, k _ _ e1⟩, k _ _ e2, k _ _ e3, n⟩
theorem sc_Stock_put : FnScope ["self", "name", "many"] ["self", "name", "many"] (defScope s_Stock_put) := ⟨rfl, rfl, rfl, by decide +kernel, rfl, by decide +kernel, by decide +kernel⟩
theorem ok_Stock_put {fa cJob cState cReady cStock cPrinter cBadLine cUnknown cTooMuch cBusy cNoPrinter cNoWay cHallError : Addr} {fd : FuncData} (F : Fun K "put" "Stock.put" s_Stock_put fa fd) (T : Txt K mg cJob cState cReady cStock cPrinter cBadLine cUnknown cTooMuch cBusy cNoPrinter cNoWay cHallError) (D_Stock_put_all : MtE P w K mg base 5 "put_all" cStock ["self", "gifts"] (sp_all cStock cUnknown cTooMuch 1 tooMuch)) :
    FnOk P w K mg base (CXe P w) 6 fa fd ["self", "name", "many"] (sp_put cStock cUnknown cTooMuch) := by
  refine F.okE sc_Stock_put (fun vs H Q E h => ?_) (fun cdv A outer s H vs Q E hr h => ?_)
  · obtain ⟨x, r, m, rs, am, n, k, rfl, _⟩ := h
    rfl
  obtain ⟨x, r, m, rs, am, n, k, rfl, S, ek, la, q1, q2, q3⟩ := h
  have z1 : 1 ≤ sizeLine := small (by decide)
  have z2 : 2 ≤ sizeLine := small (by decide)
  obtain ⟨⟨dx, hx⟩, hr', hm, ne⟩ := id S
  refine ⟨_, (pss_one (ps_expr (pe_methE 5 pass_def (hr.mono (by decide)) (pv 0) (pa_cons (pe_lst (pa_cons (pe_tup (pa_cons (pv 1) (pa_cons (pv 2) pa_nil))) pa_nil)) pa_nil)))), ?_⟩
  refine ⟨_, rfl, x, _, dx, _, _, _, rfl, hx, rfl, T.cl_Stock, D_Stock_put_all, _, rfl, _, rfl, z2, fun t nt => ⟨z1, fun p np => ?_⟩⟩
  have s1 := (same_new nt (.tup [.str n, .int k])).trans (same_new np (.lst [.ref t]))
  have ht := same_new np (.lst [.ref t]) _ _ (upd_same (H := H) (a := t) (o := .tup [.str n, .int k]))
  have hp := upd_same (H := upd H t (.tup [.str n, .int k])) (a := p) (o := .lst [.ref t])
  have npm : p ≠ m := fun e => by
    have := same_new nt (.tup [.str n, .int k]) _ _ hm
    rw [← e, np] at this
    cases this
  refine ⟨x, r, m, p, rs, am, [(n, k)], rfl, S.same s1, ek, la, npm, ⟨[.ref t], hp, rfl, fun i y g e1 e2 => ?_⟩, fun n' h ea H' sm gx => q1 n' h ea H' (s1.trans sm) gx, fun n' h h2 ea H' sm gx => q2 n' h h2 ea H' (s1.trans sm) gx, fun h1 h2 H' kp S' => q3 h1 h2 H' (fun b u nb e => kp b u nb (s1 _ _ e)) S'⟩
  match i, e1, e2 with
  | 0, e1, e2 =>
    obtain rfl : V.ref t = y := Option.some.inj e1
    obtain rfl : (n, k) = g := Option.some.inj e2
    exact ⟨t, rfl, ht⟩

end
end My

namespace My
open PySem L2
open Blk (sg sg_inj sg_app)
section
variable {P : Program} {w : World} {K : PySem.W.Frag} {mg : Str → Option Value} {base : Heap}
/-! ### the state that stands here -/
abbrev rdW : Str := Str.ofString "ready"
def sp_State_init (K : PySem.W.Frag) : Sp := fun vs H Q _ => ∃ x dx C y, vs = [.ref x, y] ∧ H x = some (.ins C dx []) ∧ Cls K C ∧ NoAttr K C "word" ∧ Q .non (upd H x (.ins C dx [("word", y)]))
def sp_Ready_init (C : Addr) : Sp := fun vs H Q _ => ∃ x dx, vs = [.ref x] ∧ H x = some (.ins C dx []) ∧ Q .non (upd H x (.ins C dx [("word", .str rdW)]))
def sp_called (C : Addr) : Sp := fun vs H Q _ => ∃ a dx, vs = [.ref a] ∧ H a = some (.ins C dx [("word", .str rdW)]) ∧ Q (.str rdW) H
theorem sc_State_init : FnScope ["self", "word"] ["self", "word"] (defScope s_State_init) := ⟨rfl, rfl, rfl, by decide +kernel, rfl, by decide +kernel, by decide +kernel⟩
theorem ok_State_init {fa cJob cState cReady cStock cPrinter cBadLine cUnknown cTooMuch cBusy cNoPrinter cNoWay cHallError : Addr} {fd : FuncData} (F : Fun K "__init__" "State.__init__" s_State_init fa fd) (T : Txt K mg cJob cState cReady cStock cPrinter cBadLine cUnknown cTooMuch cBusy cNoPrinter cNoWay cHallError)  :
    FnOk P w K mg base CX0 1 fa fd ["self", "word"] (sp_State_init K) := by
  refine F.ok sc_State_init (fun vs H Q E h => ?_) (fun cdv A outer s H vs Q E hr h => ?_)
  · obtain ⟨x, dx, C, y, rfl, _⟩ := h
    rfl
  obtain ⟨x, dx, C, y, rfl, hx, cl, n, q⟩ := h
  refine ⟨_, (pss_one (ps_fld (pv 0) (pv 1) rfl)), ?_⟩
  exact ⟨_, rfl, _, rfl, x, C, dx, _, rfl, hx, cl, n, (by decide), q⟩
theorem sc_Ready_init : FnScope ["self"] ["self"] (defScope s_Ready_init) := ⟨rfl, rfl, rfl, by decide +kernel, rfl, by decide +kernel, by decide +kernel⟩
theorem ok_Ready_init {fa cJob cState cReady cStock cPrinter cBadLine cUnknown cTooMuch cBusy cNoPrinter cNoWay cHallError : Addr} {fd : FuncData} (F : Fun K "__init__" "Ready.__init__" s_Ready_init fa fd) (T : Txt K mg cJob cState cReady cStock cPrinter cBadLine cUnknown cTooMuch cBusy cNoPrinter cNoWay cHallError) (I_State : InD P w K mg base 1 "State" cState ["self", "word"] (sp_State_init K)) :
    FnOk P w K mg base CX0 2 fa fd ["self"] (sp_Ready_init cReady) := by
  refine F.ok sc_Ready_init (fun vs H Q E h => ?_) (fun cdv A outer s H vs Q E hr h => ?_)
  · obtain ⟨x, dx, rfl, _⟩ := h
    rfl
  obtain ⟨x, dx, rfl, hx, q⟩ := h
  refine ⟨_, (pss_one (ps_expr (pe_initD I_State (hr.mono (by decide)) rfl (pa_cons (pv 0) (pa_cons (pe_gs T.READY rfl) pa_nil))))), ?_⟩
  exact ⟨_, rfl, x, dx, cReady, _, rfl, hx, T.cl_Ready, T.n_Ready_word, q⟩

end
end My

namespace My
open PySem L2
open Blk (sg sg_inj sg_app)
section
variable {P : Program} {w : World} {K : PySem.W.Frag} {mg : Str → Option Value} {base : Heap}
/-! ### printers -/
abbrev blW : Str := Str.ofString "black"
abbrev coW : Str := Str.ofString "colour"
def inkL (b c : Int) : List (Str × Int) := [(blW, b), (coW, c)]
structure PD where
  dx : Addr
  cn : Addr
  rm : Addr
  tr : Addr
  tr1 : Addr
  tr2 : Addr
  ik : Addr
  ik1 : Addr
  ik2 : Addr
  st : Addr
  dst : Addr
  ins : Addr
  name : Str
  path : Int
  rs : List (Str × Int)
  am : List (Str × Int)
  rb : Int
  rc : Int
  b : Int
  c : Int
  tags : List V
def PD.fs (d : PD) : List (Str × V) := [("name", .str d.name), ("can", .ref d.cn), ("path", .int d.path), ("rooms", .ref d.rm), ("trays", .ref d.tr), ("inks", .ref d.ik), ("state", .ref d.st), ("inside", .ref d.ins)]
structure PrAt (cP cS cR : Addr) (H : Hp) (x : Addr) (d : PD) : Prop where
  o : H x = some (.ins cP d.dx d.fs)
  T : StockM cS H d.tr d.tr1 d.tr2 d.rs d.am
  I : StockM cS H d.ik d.ik1 d.ik2 (inkL d.rb d.rc) (inkL d.b d.c)
  s : H d.st = some (.ins cR d.dst [("word", .str rdW)])
  n : H d.ins = some (.lst d.tags)
  ka : d.am.map (·.1) = d.rs.map (·.1)
  la : d.am.length ≤ 900
  lt : d.tags.length ≤ 900
  n22 : d.tr2 ≠ d.ik2
  n21 : d.tr2 ≠ d.ik1
  n12 : d.tr1 ≠ d.ik2
theorem PrAt.same {cP cS cR : Addr} {H H' : Hp} {x : Addr} {d : PD} (h : PrAt cP cS cR H x d) (k : Same H H') : PrAt cP cS cR H' x d :=
  { h with o := k _ _ h.o, T := h.T.same k, I := h.I.same k, s := k _ _ h.s, n := k _ _ h.n }
theorem in_rooms {rs am : List (Str × Int)} {n : Str} {v : Int} (e : am.map (·.1) = rs.map (·.1)) (h : am.lookup n = some v) : n ∈ rs.map (·.1) := e ▸ look_some h
theorem strange_two {rs : List (Str × Int)} {n : Str} {k v : Int} (h : rs.lookup n = some v) : strange rs [(n, k)] = none := by
  unfold strange
  rw [List.find?_cons, show ((rs.lookup (n, k).1).isNone) = false from by rw [show (n, k).1 = n from rfl, h]; rfl]
  rfl
theorem much_one {rs am : List (Str × Int)} {n : Str} {k v u : Int} (h : rs.lookup n = some v) (h' : am.lookup n = some u) : tooMuch rs am [(n, k)] = if v < u + k then some n else none := by
  unfold tooMuch
  rw [List.find?_cons, show (rs.lookup (n, k).1).getD 0 = v from by rw [show (n, k).1 = n from rfl, h]; rfl, show (am.lookup (n, k).1).getD 0 = u from by rw [show (n, k).1 = n from rfl, h']; rfl]
  by_cases c : v < u + k
  · rw [if_pos c, decide_eq_true (show v < u + (n, k).2 from c)]
    rfl
  · rw [if_neg c, decide_eq_false (show ¬ v < u + (n, k).2 from c)]
    rfl
theorem add_one {am : List (Str × Int)} {n : Str} {s k u : Int} (h : am.lookup n = some u) : addAll s am [(n, k)] = setA am n (u + s * k) := by
  show setA am n ((am.lookup n).getD 0 + s * k) = _
  rw [h]
  rfl
theorem PrAt.trays {cP cS cR : Addr} {H H' : Hp} {x : Addr} {d : PD} {am' : List (Str × Int)} (h : PrAt cP cS cR H x d) (kp : ∀ b o, b ≠ d.tr2 → H b = some o → H' b = some o) (S : StockM cS H' d.tr d.tr1 d.tr2 d.rs am') (k : am'.map (·.1) = d.rs.map (·.1)) (l : am'.length ≤ 900) : PrAt cP cS cR H' x { d with am := am' } := by
  obtain ⟨⟨di, hi⟩, h1, h2, n⟩ := id h.I
  have hm := h.T.2.2.1
  have off : ∀ b o, H b = some o → (∀ kv, o ≠ .dK kv) → H' b = some o := fun b o e n => kp b o (fun z => by rw [z, hm] at e; injection e with e; exact n _ e.symm) e
  exact { o := off _ _ h.o (by intro kv z; cases z), T := S, I := ⟨⟨di, off _ _ hi (by intro kv z; cases z)⟩, kp _ _ (Ne.symm h.n21) h1, kp _ _ (Ne.symm h.n22) h2, n⟩, s := off _ _ h.s (by intro kv z; cases z), n := off _ _ h.n (by intro kv z; cases z), ka := k, la := l, lt := h.lt, n22 := h.n22, n21 := h.n21, n12 := h.n12 }
def sp_Pr_load (cP cS cR : Addr) : Sp := fun vs H Q _ => ∃ x d n k R A, vs = [.ref x, .str n, .int k] ∧ PrAt cP cS cR H x d ∧ d.rs.lookup n = some R ∧ d.am.lookup n = some A ∧ A + k ≤ R ∧ ∀ H', (∀ b o, b ≠ d.tr2 → H b = some o → H' b = some o) → PrAt cP cS cR H' x { d with am := setA d.am n (A + k) } → Q .non H'
theorem sc_Printer_load : FnScope ["self", "kind", "many"] ["self", "kind", "many"] (defScope s_Printer_load) := ⟨rfl, rfl, rfl, by decide +kernel, rfl, by decide +kernel, by decide +kernel⟩
theorem ok_Printer_load {fa cJob cState cReady cStock cPrinter cBadLine cUnknown cTooMuch cBusy cNoPrinter cNoWay cHallError : Addr} {fd : FuncData} (F : Fun K "load" "Printer.load" s_Printer_load fa fd) (T : Txt K mg cJob cState cReady cStock cPrinter cBadLine cUnknown cTooMuch cBusy cNoPrinter cNoWay cHallError) (D_Stock_put : MtE P w K mg base 6 "put" cStock ["self", "name", "many"] (sp_put cStock cUnknown cTooMuch)) :
    FnOk P w K mg base (CXe P w) 7 fa fd ["self", "kind", "many"] (sp_Pr_load cPrinter cStock cReady) := by
  refine F.okE sc_Printer_load (fun vs H Q E h => ?_) (fun cdv A outer s H vs Q E hr h => ?_)
  · obtain ⟨x, d, n, k, R, A, rfl, _⟩ := h
    rfl
  obtain ⟨x, d, n, k, R, A, rfl, P, lr, la, le, q⟩ := h
  refine ⟨_, (pss_one (ps_expr (pe_methE 6 pass_def (hr.mono (by decide)) (pe_fld (pv 0) rfl) (pa_cons (pv 1) (pa_cons (pv 2) pa_nil))))), ?_⟩
  obtain ⟨⟨dt, ht⟩, _⟩ := id P.T
  refine ⟨_, rfl, x, cPrinter, d.dx, _, _, rfl, P.o, T.cl_Printer, T.n_Printer_trays, rfl, ?_⟩
  refine ⟨d.tr, _, dt, _, _, _, rfl, ht, rfl, T.cl_Stock, D_Stock_put, _, rfl, _, rfl, d.tr, d.tr1, d.tr2, d.rs, d.am, n, k, rfl, P.T, P.ka, by have := P.la; omega, fun n' h ea H1 sm g => ?_, fun n' h h2 ea H1 sm g => ?_, fun h h2 H1 kp S1 => ?_⟩
  · rw [strange_two lr] at h
    cases h
  · rw [much_one lr la, if_neg (by omega)] at h2
    cases h2
  · rw [add_one la, Int.one_mul] at S1
    exact q H1 kp (P.trays kp S1 (by rw [keys_setA]; exact P.ka) (by unfold setA; rw [List.length_map]; exact P.la))
def sp_Pr_paper_left (cP cS cR : Addr) : Sp := fun vs H Q _ => ∃ x d n v, vs = [.ref x, .str n] ∧ PrAt cP cS cR H x d ∧ d.am.lookup n = some v ∧ Q (.int v) H
theorem sc_Printer_paper_left : FnScope ["self", "kind"] ["self", "kind"] (defScope s_Printer_paper_left) := ⟨rfl, rfl, rfl, by decide +kernel, rfl, by decide +kernel, by decide +kernel⟩
theorem ok_Printer_paper_left {fa cJob cState cReady cStock cPrinter cBadLine cUnknown cTooMuch cBusy cNoPrinter cNoWay cHallError : Addr} {fd : FuncData} (F : Fun K "paper_left" "Printer.paper_left" s_Printer_paper_left fa fd) (T : Txt K mg cJob cState cReady cStock cPrinter cBadLine cUnknown cTooMuch cBusy cNoPrinter cNoWay cHallError) (D_Stock_held : MtE P w K mg base 4 "held" cStock ["self", "name"] (sp_held cStock cUnknown)) :
    FnOk P w K mg base (CXe P w) 5 fa fd ["self", "kind"] (sp_Pr_paper_left cPrinter cStock cReady) := by
  refine F.okE sc_Printer_paper_left (fun vs H Q E h => ?_) (fun cdv A outer s H vs Q E hr h => ?_)
  · obtain ⟨x, d, n, v, rfl, _⟩ := h
    rfl
  obtain ⟨x, d, n, v, rfl, P, l, q⟩ := h
  refine ⟨_, (pss_one (ps_ret (pe_methE 4 pass_def (hr.mono (by decide)) (pe_fld (pv 0) rfl) (pa_cons (pv 1) pa_nil)))), ?_⟩
  refine ⟨_, rfl, x, cPrinter, d.dx, _, _, rfl, P.o, T.cl_Printer, T.n_Printer_trays, rfl, ?_⟩
  obtain ⟨⟨dt, ht⟩, _⟩ := id P.T
  have mem := in_rooms P.ka l
  exact ⟨d.tr, _, dt, _, _, _, rfl, ht, rfl, T.cl_Stock, D_Stock_held, _, rfl, d.tr, d.rs, d.am, n, rfl, P.T.at, fun v' _ l' => by rw [l] at l'; obtain rfl := Option.some.inj l'; exact q, fun _ => ⟨v, l⟩, fun z => absurd mem z⟩

end
end My

namespace My
open PySem L2
open Blk (sg sg_inj sg_app)
section
variable {P : Program} {w : World} {K : PySem.W.Frag} {mg : Str → Option Value} {base : Heap}
def sp_Pr_init (cP cS cR : Addr) : Sp := fun vs H Q _ => ∃ (x dx cl pp : Addr) (nm : Str) (path rb rc : Int) (cs : List V) (rs : List (Str × Int)), vs = [.ref x, .str nm, .ref cl, .int path, .ref pp, .int rb, .int rc] ∧ H x = some (.ins cP dx []) ∧ H cl = some (.lst cs) ∧ H pp = some (.dK (dI rs)) ∧ (rs.map (·.1)).Nodup ∧ rs.length ≤ 900 ∧
  ∀ d H', (∀ b o, b ≠ x → H b = some o → H' b = some o) → PrAt cP cS cR H' x d → d.name = nm → d.path = path → d.rs = rs → d.am = rs.map (fun p => (p.1, 0)) → d.rb = rb → d.rc = rc → d.b = 0 → d.c = 0 → d.tags = [] → H d.tr1 = none → H d.tr2 = none → H d.ik1 = none → H d.ik2 = none → H d.ins = none → H' d.cn = some (.tup cs) → H' d.rm = some (.dK (dI rs)) → d.rm ≠ d.tr2 → Q .non H'
theorem sc_Printer_init : FnScope ["self", "name", "can", "path", "papers", "black", "colour"] ["self", "name", "can", "path", "papers", "black", "colour"] (defScope s_Printer_init) := ⟨rfl, rfl, rfl, by decide +kernel, rfl, by decide +kernel, by decide +kernel⟩
theorem ok_Printer_init {fa cJob cState cReady cStock cPrinter cBadLine cUnknown cTooMuch cBusy cNoPrinter cNoWay cHallError : Addr} {fd : FuncData} (F : Fun K "__init__" "Printer.__init__" s_Printer_init fa fd) (T : Txt K mg cJob cState cReady cStock cPrinter cBadLine cUnknown cTooMuch cBusy cNoPrinter cNoWay cHallError) (M_Stock : MkD P w K mg base 1 "Stock" cStock ["self", "rooms"] (sp_Stock_init cStock)) (M_Ready : MkD P w K mg base 2 "Ready" cReady ["self"] (sp_Ready_init cReady)) :
    FnOk P w K mg base CX0 4 fa fd ["self", "name", "can", "path", "papers", "black", "colour"] (sp_Pr_init cPrinter cStock cReady) := by
  refine F.ok sc_Printer_init (fun vs H Q E h => ?_) (fun cdv A outer s H vs Q E hr h => ?_)
  · obtain ⟨x, dx, cl, pp, nm, path, rb, rc, cs, rs, rfl, _⟩ := h
    rfl
  obtain ⟨x, dx, cl, pp, nm, path, rb, rc, cs, rs, rfl, hx, hcl, hpp, nd, lr, q⟩ := h
  refine ⟨_, (pss_cons (ps_fld (pv 0) (pv 1) rfl)
  (pss_cons (ps_fld (pv 0) (pe_callTy call_tuple_of rfl T.tuple bt_tuple (pa_cons (pv 2) pa_nil)) rfl)
  (pss_cons (ps_fld (pv 0) (pv 3) rfl)
  (pss_cons (ps_fld (pv 0) (pe_callTy call_dict_copy rfl T.dict bt_dict (pa_cons (pv 4) pa_nil)) rfl)
  (pss_cons (ps_fld (pv 0) (pe_makeD M_Stock (hr.mono (by decide)) rfl (pa_cons (pv 4) pa_nil)) rfl)
  (pss_cons (ps_fld (pv 0) (pe_makeD M_Stock (hr.mono (by decide)) rfl (pa_cons (pe_disp (pps_cons (pe_gs T.BLACK rfl) (pv 5) (pps_cons (pe_gs T.COLOUR rfl) (pv 6) pps_nil)) rfl rfl (by decide) (by decide)) pa_nil)) rfl)
  (pss_cons (ps_fld (pv 0) (pe_makeD0 M_Ready (hr.mono (by decide)) rfl) rfl)
  (pss_one (ps_fld (pv 0) (pe_lst pa_nil) rfl))))))))), ?_⟩
  have ncx : cl ≠ x := ne_of hcl hx (by intro z; cases z)
  have npx : pp ≠ x := ne_of hpp hx (by intro z; cases z)
  refine ⟨_, rfl, _, rfl, x, cPrinter, dx, _, rfl, hx, T.cl_Printer, T.n_Printer_name, (by show 0 < 1000; decide), ?_⟩
  rw [putF_add (by show ¬ ("name" : Str) ∈ ([] : List Str); decide +kernel), List.nil_append]
  have k1 : ∀ b o, b ≠ x → H b = some o → upd H x (.ins cPrinter dx [("name", V.str nm)]) b = some o := fun b o nb e => by rw [upd_ne nb]; exact e
  have hx1 : upd H x (.ins cPrinter dx [("name", V.str nm)]) x = some (.ins cPrinter dx [("name", V.str nm)]) := upd_same
  generalize upd H x (.ins cPrinter dx [("name", V.str nm)]) = H1 at k1 hx1 ⊢
  refine ⟨_, rfl, cl, _, rfl, .inl ⟨SqL.of (k1 _ _ ncx hcl), fun cn ncn => ?_⟩⟩
  have s2 := same_new ncn (.tup cs)
  have hcn2 : upd H1 cn (.tup cs) cn = some (.tup cs) := upd_same
  have ncnx : cn ≠ x := Ne.symm (ne_of_none hx1 ncn)
  generalize upd H1 cn (.tup cs) = H2 at s2 hcn2 ⊢
  refine ⟨_, rfl, x, cPrinter, dx, _, rfl, s2 _ _ hx1, T.cl_Printer, T.n_Printer_can, (by show 1 < 1000; decide), ?_⟩
  rw [putF_add (by show ¬ ("can" : Str) ∈ (["name"] : List Str); decide +kernel)]
  have k3 : ∀ b o, b ≠ x → H1 b = some o → upd H2 x (.ins cPrinter dx (([("name", V.str nm)] : List (Str × V)) ++ ([("can", V.ref cn)] : List (Str × V)))) b = some o := fun b o nb e => by rw [upd_ne nb]; exact s2 _ _ e
  have hx3 : upd H2 x (.ins cPrinter dx (([("name", V.str nm)] : List (Str × V)) ++ ([("can", V.ref cn)] : List (Str × V)))) x = some (.ins cPrinter dx [("name", V.str nm), ("can", V.ref cn)]) := upd_same
  have hcn3 : upd H2 x (.ins cPrinter dx (([("name", V.str nm)] : List (Str × V)) ++ ([("can", V.ref cn)] : List (Str × V)))) cn = some (.tup cs) := by rw [upd_ne ncnx]; exact hcn2
  generalize upd H2 x (.ins cPrinter dx (([("name", V.str nm)] : List (Str × V)) ++ ([("can", V.ref cn)] : List (Str × V)))) = H3 at k3 hx3 hcn3 ⊢
  refine ⟨_, rfl, _, rfl, x, cPrinter, dx, _, rfl, hx3, T.cl_Printer, T.n_Printer_path, (by show 2 < 1000; decide), ?_⟩
  rw [putF_add (by show ¬ ("path" : Str) ∈ (["name", "can"] : List Str); decide +kernel)]
  have k4 : ∀ b o, b ≠ x → H3 b = some o → upd H3 x (.ins cPrinter dx (([("name", V.str nm), ("can", V.ref cn)] : List (Str × V)) ++ ([("path", V.int path)] : List (Str × V)))) b = some o := fun b o nb e => by rw [upd_ne nb]; exact e
  have hx4 : upd H3 x (.ins cPrinter dx (([("name", V.str nm), ("can", V.ref cn)] : List (Str × V)) ++ ([("path", V.int path)] : List (Str × V)))) x = some (.ins cPrinter dx [("name", V.str nm), ("can", V.ref cn), ("path", V.int path)]) := upd_same
  generalize upd H3 x (.ins cPrinter dx (([("name", V.str nm), ("can", V.ref cn)] : List (Str × V)) ++ ([("path", V.int path)] : List (Str × V)))) = H4 at k4 hx4 ⊢
  have k04 : ∀ b o, b ≠ x → H b = some o → H4 b = some o := fun b o nb e => k4 b o nb (k3 b o nb (k1 b o nb e))
  have hpp4 := k04 _ _ npx hpp
  refine ⟨_, rfl, pp, _, rfl, .inl hpp4, fun rm nrm => ?_⟩
  have s5 := same_new nrm (.dK (dI rs))
  have hrm5 : upd H4 rm (.dK (dI rs)) rm = some (.dK (dI rs)) := upd_same
  have nrmx : rm ≠ x := Ne.symm (ne_of_none hx4 nrm)
  generalize upd H4 rm (.dK (dI rs)) = H5 at s5 hrm5 ⊢
  refine ⟨_, rfl, x, cPrinter, dx, _, rfl, s5 _ _ hx4, T.cl_Printer, T.n_Printer_rooms, (by show 3 < 1000; decide), ?_⟩
  rw [putF_add (by show ¬ ("rooms" : Str) ∈ (["name", "can", "path"] : List Str); decide +kernel)]
  have k6 : ∀ b o, b ≠ x → H4 b = some o → upd H5 x (.ins cPrinter dx (([("name", V.str nm), ("can", V.ref cn), ("path", V.int path)] : List (Str × V)) ++ ([("rooms", V.ref rm)] : List (Str × V)))) b = some o := fun b o nb e => by rw [upd_ne nb]; exact s5 _ _ e
  have hx6 : upd H5 x (.ins cPrinter dx (([("name", V.str nm), ("can", V.ref cn), ("path", V.int path)] : List (Str × V)) ++ ([("rooms", V.ref rm)] : List (Str × V)))) x = some (.ins cPrinter dx [("name", V.str nm), ("can", V.ref cn), ("path", V.int path), ("rooms", V.ref rm)]) := upd_same
  have hrm6 : upd H5 x (.ins cPrinter dx (([("name", V.str nm), ("can", V.ref cn), ("path", V.int path)] : List (Str × V)) ++ ([("rooms", V.ref rm)] : List (Str × V)))) rm = some (.dK (dI rs)) := by rw [upd_ne nrmx]; exact hrm5
  generalize upd H5 x (.ins cPrinter dx (([("name", V.str nm), ("can", V.ref cn), ("path", V.int path)] : List (Str × V)) ++ ([("rooms", V.ref rm)] : List (Str × V)))) = H6 at k6 hx6 hrm6 ⊢
  have k06 : ∀ b o, b ≠ x → H b = some o → H6 b = some o := fun b o nb e => k6 b o nb (k04 b o nb e)
  have free6 : ∀ b, H6 b = none → H b = none := fun b nb => by
    cases e : H b with
    | none => rfl
    | some o =>
      by_cases c : b = x
      · rw [c, hx6] at nb; cases nb
      · rw [k06 b o c e] at nb; cases nb
  refine ⟨_, rfl, fun tr dt ntr ndt nde => ?_⟩
  have ki : ∀ b o, H6 b = some o → b ≠ tr ∧ upd (upd H6 dt (.own tr)) tr (.ins cStock dt []) b = some o := fun b o e => by
    have b1 : b ≠ tr := ne_of_none e ntr
    exact ⟨b1, by rw [upd_ne b1, upd_ne (ne_of_none e ndt)]; exact e⟩
  refine ⟨tr, dt, pp, rs, rfl, upd_same, (ki _ _ (k06 _ _ npx hpp)).2, nd, by omega, fun tr1 tr2 H7 kp7 nr nm' n12 ht7 hr7 hm7 => ⟨rfl, ?_⟩⟩
  have s7 : Same H6 H7 := fun b o e => kp7 b o (ki b o e).1 (ki b o e).2
  have ntr1 : H6 tr1 = none := by
    cases e : H6 tr1 with
    | none => rfl
    | some o => rw [(ki _ _ e).2] at nr; cases nr
  have ntr2 : H6 tr2 = none := by
    cases e : H6 tr2 with
    | none => rfl
    | some o => rw [(ki _ _ e).2] at nm'; cases nm'
  refine ⟨_, rfl, x, cPrinter, dx, _, rfl, s7 _ _ hx6, T.cl_Printer, T.n_Printer_trays, (by show 4 < 1000; decide), ?_⟩
  rw [putF_add (by show ¬ ("trays" : Str) ∈ (["name", "can", "path", "rooms"] : List Str); decide +kernel)]
  have hx7 := s7 _ _ hx6
  have ntx : tr ≠ x := Ne.symm (ne_of_none hx6 ntr)
  have nt1x : tr1 ≠ x := Ne.symm (ne_of_none hx6 ntr1)
  have nt2x : tr2 ≠ x := Ne.symm (ne_of_none hx6 ntr2)
  have k8 : ∀ b o, b ≠ x → H7 b = some o → upd H7 x (.ins cPrinter dx (([("name", V.str nm), ("can", V.ref cn), ("path", V.int path), ("rooms", V.ref rm)] : List (Str × V)) ++ ([("trays", V.ref tr)] : List (Str × V)))) b = some o := fun b o nb e => by rw [upd_ne nb]; exact e
  have hx8 : upd H7 x (.ins cPrinter dx (([("name", V.str nm), ("can", V.ref cn), ("path", V.int path), ("rooms", V.ref rm)] : List (Str × V)) ++ ([("trays", V.ref tr)] : List (Str × V)))) x = some (.ins cPrinter dx [("name", V.str nm), ("can", V.ref cn), ("path", V.int path), ("rooms", V.ref rm), ("trays", V.ref tr)]) := upd_same
  generalize upd H7 x (.ins cPrinter dx (([("name", V.str nm), ("can", V.ref cn), ("path", V.int path), ("rooms", V.ref rm)] : List (Str × V)) ++ ([("trays", V.ref tr)] : List (Str × V)))) = H8 at k8 hx8 ⊢
  have ht8 := k8 _ _ ntx ht7
  have hr8 := k8 _ _ nt1x hr7
  have hm8 := k8 _ _ nt2x hm7
  have free8 : ∀ b, H8 b = none → H6 b = none := fun b nb => by
    cases e : H6 b with
    | none => rfl
    | some o =>
      by_cases c : b = x
      · rw [c, hx8] at nb; cases nb
      · rw [k8 b o c (s7 _ _ e)] at nb; cases nb
  refine fun ip nip => ?_
  have s9 := same_new nip (.dK [])
  have h9 : upd H8 ip (.dK []) ip = some (.dK []) := upd_same
  refine ⟨_, rfl, _, rfl, h9, [(Sum.inr blW, .int rb), (Sum.inr coW, .int rc)], rfl, (by show 2 ≤ 15; decide), ?_⟩
  rw [mergeK_new (ks := [Sum.inr blW, Sum.inr coW]) rfl (by decide +kernel)]
  have s10 : Same H8 (upd (upd H8 ip (.dK [])) ip (.dK ([] ++ [((Sum.inr blW : Key), V.int rb), (Sum.inr coW, V.int rc)]))) := same_on nip s9 _
  have h10 : upd (upd H8 ip (.dK [])) ip (.dK ([] ++ [((Sum.inr blW : Key), V.int rb), (Sum.inr coW, V.int rc)])) ip = some (.dK (dI (inkL rb rc))) := upd_same
  generalize upd (upd H8 ip (.dK [])) ip (.dK ([] ++ [((Sum.inr blW : Key), V.int rb), (Sum.inr coW, V.int rc)])) = H10 at s10 h10 ⊢
  refine fun ik di nik ndi ndie => ?_
  have kj : ∀ b o, H10 b = some o → b ≠ ik ∧ upd (upd H10 di (.own ik)) ik (.ins cStock di []) b = some o := fun b o e => by
    have b1 : b ≠ ik := ne_of_none e nik
    exact ⟨b1, by rw [upd_ne b1, upd_ne (ne_of_none e ndi)]; exact e⟩
  have ndk : ((inkL rb rc).map (·.1)).Nodup := by
    show [blW, coW].Nodup
    decide +kernel
  refine ⟨ik, di, ip, inkL rb rc, rfl, upd_same, (kj _ _ h10).2, ndk, by show 2 ≤ 1000; decide, fun ik1 ik2 H11 kp11 nr1 nm1 n12' hi11 hr11 hm11 => ⟨rfl, ?_⟩⟩
  have s11 : Same H10 H11 := fun b o e => kp11 b o (kj b o e).1 (kj b o e).2
  have nik1 : H10 ik1 = none := by
    cases e : H10 ik1 with
    | none => rfl
    | some o => rw [(kj _ _ e).2] at nr1; cases nr1
  have nik2 : H10 ik2 = none := by
    cases e : H10 ik2 with
    | none => rfl
    | some o => rw [(kj _ _ e).2] at nm1; cases nm1
  have s811 := s10.trans s11
  refine ⟨_, rfl, x, cPrinter, dx, _, rfl, s811 _ _ hx8, T.cl_Printer, T.n_Printer_inks, (by show 5 < 1000; decide), ?_⟩
  rw [putF_add (by show ¬ ("inks" : Str) ∈ (["name", "can", "path", "rooms", "trays"] : List Str); decide +kernel)]
  have k12 : ∀ b o, b ≠ x → H11 b = some o → upd H11 x (.ins cPrinter dx (([("name", V.str nm), ("can", V.ref cn), ("path", V.int path), ("rooms", V.ref rm), ("trays", V.ref tr)] : List (Str × V)) ++ ([("inks", V.ref ik)] : List (Str × V)))) b = some o := fun b o nb e => by rw [upd_ne nb]; exact e
  have hx12 : upd H11 x (.ins cPrinter dx (([("name", V.str nm), ("can", V.ref cn), ("path", V.int path), ("rooms", V.ref rm), ("trays", V.ref tr)] : List (Str × V)) ++ ([("inks", V.ref ik)] : List (Str × V)))) x = some (.ins cPrinter dx [("name", V.str nm), ("can", V.ref cn), ("path", V.int path), ("rooms", V.ref rm), ("trays", V.ref tr), ("inks", V.ref ik)]) := upd_same
  generalize upd H11 x (.ins cPrinter dx (([("name", V.str nm), ("can", V.ref cn), ("path", V.int path), ("rooms", V.ref rm), ("trays", V.ref tr)] : List (Str × V)) ++ ([("inks", V.ref ik)] : List (Str × V)))) = H12 at k12 hx12 ⊢
  have hx10 := s10 _ _ hx8
  have nikx : ik ≠ x := Ne.symm (ne_of_none hx10 nik)
  have nik1x : ik1 ≠ x := Ne.symm (ne_of_none hx10 nik1)
  have nik2x : ik2 ≠ x := Ne.symm (ne_of_none hx10 nik2)
  refine fun st ds nst nds ndse => ⟨st, ds, rfl, upd_same, ⟨rfl, ?_⟩⟩
  have s13 : Same H12 (upd (upd (upd H12 ds (.own st)) st (.ins cReady ds [])) st (.ins cReady ds [("word", .str rdW)])) := fun b o e => by
    have b1 : b ≠ st := ne_of_none e nst
    rw [upd_ne b1, upd_ne b1, upd_ne (ne_of_none e nds)]
    exact e
  have h13 : upd (upd (upd H12 ds (.own st)) st (.ins cReady ds [])) st (.ins cReady ds [("word", .str rdW)]) st = some (.ins cReady ds [("word", .str rdW)]) := upd_same
  generalize upd (upd (upd H12 ds (.own st)) st (.ins cReady ds [])) st (.ins cReady ds [("word", .str rdW)]) = H13 at s13 h13 ⊢
  refine ⟨_, rfl, x, cPrinter, dx, _, rfl, s13 _ _ hx12, T.cl_Printer, T.n_Printer_state, (by show 6 < 1000; decide), ?_⟩
  rw [putF_add (by show ¬ ("state" : Str) ∈ (["name", "can", "path", "rooms", "trays", "inks"] : List Str); decide +kernel)]
  have k14 : ∀ b o, b ≠ x → H13 b = some o → upd H13 x (.ins cPrinter dx (([("name", V.str nm), ("can", V.ref cn), ("path", V.int path), ("rooms", V.ref rm), ("trays", V.ref tr), ("inks", V.ref ik)] : List (Str × V)) ++ ([("state", V.ref st)] : List (Str × V)))) b = some o := fun b o nb e => by rw [upd_ne nb]; exact e
  have hx14 : upd H13 x (.ins cPrinter dx (([("name", V.str nm), ("can", V.ref cn), ("path", V.int path), ("rooms", V.ref rm), ("trays", V.ref tr), ("inks", V.ref ik)] : List (Str × V)) ++ ([("state", V.ref st)] : List (Str × V)))) x = some (.ins cPrinter dx [("name", V.str nm), ("can", V.ref cn), ("path", V.int path), ("rooms", V.ref rm), ("trays", V.ref tr), ("inks", V.ref ik), ("state", V.ref st)]) := upd_same
  generalize upd H13 x (.ins cPrinter dx (([("name", V.str nm), ("can", V.ref cn), ("path", V.int path), ("rooms", V.ref rm), ("trays", V.ref tr), ("inks", V.ref ik)] : List (Str × V)) ++ ([("state", V.ref st)] : List (Str × V)))) = H14 at k14 hx14 ⊢
  have nstx : st ≠ x := Ne.symm (ne_of_none hx12 nst)
  refine ⟨Nat.zero_le _, fun il nil' => ?_⟩
  have s15 := same_new nil' (.lst [])
  have h15 : upd H14 il (.lst []) il = some (.lst []) := upd_same
  generalize upd H14 il (.lst []) = H15 at s15 h15 ⊢
  have hx15 := s15 _ _ hx14
  refine ⟨_, rfl, x, cPrinter, dx, _, rfl, hx15, T.cl_Printer, T.n_Printer_inside, (by show 7 < 1000; decide), ?_⟩
  rw [putF_add (by show ¬ ("inside" : Str) ∈ (["name", "can", "path", "rooms", "trays", "inks", "state"] : List Str); decide +kernel)]
  have nilx : il ≠ x := Ne.symm (ne_of_none hx14 nil')
  have k16 : ∀ b o, b ≠ x → H15 b = some o → upd H15 x (.ins cPrinter dx (([("name", V.str nm), ("can", V.ref cn), ("path", V.int path), ("rooms", V.ref rm), ("trays", V.ref tr), ("inks", V.ref ik), ("state", V.ref st)] : List (Str × V)) ++ ([("inside", V.ref il)] : List (Str × V)))) b = some o := fun b o nb e => by rw [upd_ne nb]; exact e
  have hx16 : upd H15 x (.ins cPrinter dx (([("name", V.str nm), ("can", V.ref cn), ("path", V.int path), ("rooms", V.ref rm), ("trays", V.ref tr), ("inks", V.ref ik), ("state", V.ref st)] : List (Str × V)) ++ ([("inside", V.ref il)] : List (Str × V)))) x = some (.ins cPrinter dx [("name", V.str nm), ("can", V.ref cn), ("path", V.int path), ("rooms", V.ref rm), ("trays", V.ref tr), ("inks", V.ref ik), ("state", V.ref st), ("inside", V.ref il)]) := upd_same
  generalize upd H15 x (.ins cPrinter dx (([("name", V.str nm), ("can", V.ref cn), ("path", V.int path), ("rooms", V.ref rm), ("trays", V.ref tr), ("inks", V.ref ik), ("state", V.ref st)] : List (Str × V)) ++ ([("inside", V.ref il)] : List (Str × V)))) = H16 at k16 hx16 ⊢
  have e12 : ∀ b o, b ≠ x → H12 b = some o → H16 b = some o := fun b o nb e => k16 b o nb (s15 _ _ (k14 b o nb (s13 _ _ e)))
  have e8 : ∀ b o, b ≠ x → H8 b = some o → H16 b = some o := fun b o nb e => e12 b o nb (k12 b o nb (s811 _ _ e))
  have e6 : ∀ b o, b ≠ x → H6 b = some o → H16 b = some o := fun b o nb e => e8 b o nb (k8 b o nb (s7 _ _ e))
  have f10 : ∀ b, H10 b = none → H6 b = none := fun b nb => free8 b (s10.free nb)
  have f14 : ∀ b, H14 b = none → H6 b = none := fun b nb => by
    cases e : H6 b with
    | none => rfl
    | some o =>
      by_cases c : b = x
      · rw [c, hx14] at nb; cases nb
      · rw [k14 b o c (s13 _ _ (k12 b o c (s811 _ _ (k8 b o c (s7 _ _ e)))))] at nb; cases nb
  have hm10 := s10 _ _ hm8
  have hr10 := s10 _ _ hr8
  refine q ⟨dx, cn, rm, tr, tr1, tr2, ik, ik1, ik2, st, ds, il, nm, path, rs, rs.map fun p => (p.1, 0), rb, rc, 0, 0, []⟩ H16 (fun b o nb e => e6 b o nb (k06 b o nb e)) ?_ rfl rfl rfl rfl rfl rfl rfl rfl rfl (free6 _ ntr1) (free6 _ ntr2) (free6 _ (f10 _ nik1)) (free6 _ (f10 _ nik2)) (free6 _ (f14 _ nil')) (e6 _ _ ncnx (k6 _ _ ncnx (k4 _ _ ncnx hcn3))) (e6 _ _ nrmx hrm6) (ne_of_none hrm6 ntr2)
  exact { o := hx16, T := ⟨⟨dt, e8 _ _ ntx ht8⟩, e8 _ _ nt1x hr8, e8 _ _ nt2x hm8, n12⟩, I := ⟨⟨di, e12 _ _ nikx (k12 _ _ nikx hi11)⟩, e12 _ _ nik1x (k12 _ _ nik1x hr11), e12 _ _ nik2x (k12 _ _ nik2x hm11), n12'⟩, s := k16 _ _ nstx (s15 _ _ (k14 _ _ nstx h13)), n := k16 _ _ nilx h15, ka := by rw [List.map_map]; rfl, la := by rw [List.length_map]; exact lr, lt := Nat.zero_le _, n22 := ne_of_none hm10 nik2, n21 := ne_of_none hm10 nik1, n12 := ne_of_none hr10 nik2 }

end
end My

namespace My
open PySem L2
open Blk (sg sg_inj sg_app)
section
variable {P : Program} {w : World} {K : PySem.W.Frag} {mg : Str → Option Value} {base : Heap}
def sp_Job_init (C : Addr) : Sp := fun vs H Q _ => ∃ (x dx : Addr) (a b c d e f g h i j : V), vs = [.ref x, a, b, c, d, e, f, g, h, i, j] ∧ H x = some (.ins C dx []) ∧ Q .non (upd H x (.ins C dx (jobF a b c d e f g h i j)))
theorem jF4 (a b c d e f g h i j : V) : (jobF a b c d e f g h i j).lookup ("layout" : Str) = some e := rfl
theorem jF5 (a b c d e f g h i j : V) : (jobF a b c d e f g h i j).lookup ("paper" : Str) = some f := rfl
theorem jF6 (a b c d e f g h i j : V) : (jobF a b c d e f g h i j).lookup ("cover" : Str) = some g := rfl
theorem jF7 (a b c d e f g h i j : V) : (jobF a b c d e f g h i j).lookup ("colour" : Str) = some h := rfl
theorem jF8 (a b c d e f g h i j : V) : (jobF a b c d e f g h i j).lookup ("staple" : Str) = some i := rfl
theorem sc_Job_init : FnScope ["self", "name", "asker", "pages", "copies", "layout", "paper", "cover", "colour", "staple", "after"] ["self", "name", "asker", "pages", "copies", "layout", "paper", "cover", "colour", "staple", "after"] (defScope s_Job_init) := ⟨rfl, rfl, rfl, by decide +kernel, rfl, by decide +kernel, by decide +kernel⟩
theorem ok_Job_init {fa cJob cState cReady cStock cPrinter cBadLine cUnknown cTooMuch cBusy cNoPrinter cNoWay cHallError : Addr} {fd : FuncData} (F : Fun K "__init__" "Job.__init__" s_Job_init fa fd) (T : Txt K mg cJob cState cReady cStock cPrinter cBadLine cUnknown cTooMuch cBusy cNoPrinter cNoWay cHallError)  :
    FnOk P w K mg base CX0 1 fa fd ["self", "name", "asker", "pages", "copies", "layout", "paper", "cover", "colour", "staple", "after"] (sp_Job_init cJob) := by
  refine F.ok sc_Job_init (fun vs H Q E h => ?_) (fun cdv A outer s H vs Q E hr h => ?_)
  · obtain ⟨x, dx, a, b, c, d, e, f, g, h, i, j, rfl, _⟩ := h
    rfl
  obtain ⟨x, dx, a, b, c, d, e, f, g, h, i, j, rfl, hx, q⟩ := h
  refine ⟨_, (pss_cons (ps_fld (pv 0) (pv 1) rfl)
  (pss_cons (ps_fld (pv 0) (pv 2) rfl)
  (pss_cons (ps_fld (pv 0) (pv 3) rfl)
  (pss_cons (ps_fld (pv 0) (pv 4) rfl)
  (pss_cons (ps_fld (pv 0) (pv 5) rfl)
  (pss_cons (ps_fld (pv 0) (pv 6) rfl)
  (pss_cons (ps_fld (pv 0) (pv 7) rfl)
  (pss_cons (ps_fld (pv 0) (pv 8) rfl)
  (pss_cons (ps_fld (pv 0) (pv 9) rfl)
  (pss_one (ps_fld (pv 0) (pv 10) rfl))))))))))), ?_⟩
  refine ⟨_, rfl, _, rfl, x, cJob, dx, _, rfl, hx, T.cl_Job, T.n_Job_name, (by show 0 < 1000; decide), ?_⟩
  rw [putF_new (by show ¬ ("name" : Str) ∈ ([] : List Str); decide +kernel)]
  refine ⟨_, rfl, _, rfl, x, cJob, dx, _, rfl, upd_same, T.cl_Job, T.n_Job_asker, (by show 1 < 1000; decide), ?_⟩
  rw [upd_upd, putF_new (by show ¬ ("asker" : Str) ∈ (["name"] : List Str); decide +kernel)]
  refine ⟨_, rfl, _, rfl, x, cJob, dx, _, rfl, upd_same, T.cl_Job, T.n_Job_pages, (by show 2 < 1000; decide), ?_⟩
  rw [upd_upd, putF_new (by show ¬ ("pages" : Str) ∈ (["name", "asker"] : List Str); decide +kernel)]
  refine ⟨_, rfl, _, rfl, x, cJob, dx, _, rfl, upd_same, T.cl_Job, T.n_Job_copies, (by show 3 < 1000; decide), ?_⟩
  rw [upd_upd, putF_new (by show ¬ ("copies" : Str) ∈ (["name", "asker", "pages"] : List Str); decide +kernel)]
  refine ⟨_, rfl, _, rfl, x, cJob, dx, _, rfl, upd_same, T.cl_Job, T.n_Job_layout, (by show 4 < 1000; decide), ?_⟩
  rw [upd_upd, putF_new (by show ¬ ("layout" : Str) ∈ (["name", "asker", "pages", "copies"] : List Str); decide +kernel)]
  refine ⟨_, rfl, _, rfl, x, cJob, dx, _, rfl, upd_same, T.cl_Job, T.n_Job_paper, (by show 5 < 1000; decide), ?_⟩
  rw [upd_upd, putF_new (by show ¬ ("paper" : Str) ∈ (["name", "asker", "pages", "copies", "layout"] : List Str); decide +kernel)]
  refine ⟨_, rfl, _, rfl, x, cJob, dx, _, rfl, upd_same, T.cl_Job, T.n_Job_cover, (by show 6 < 1000; decide), ?_⟩
  rw [upd_upd, putF_new (by show ¬ ("cover" : Str) ∈ (["name", "asker", "pages", "copies", "layout", "paper"] : List Str); decide +kernel)]
  refine ⟨_, rfl, _, rfl, x, cJob, dx, _, rfl, upd_same, T.cl_Job, T.n_Job_colour, (by show 7 < 1000; decide), ?_⟩
  rw [upd_upd, putF_new (by show ¬ ("colour" : Str) ∈ (["name", "asker", "pages", "copies", "layout", "paper", "cover"] : List Str); decide +kernel)]
  refine ⟨_, rfl, _, rfl, x, cJob, dx, _, rfl, upd_same, T.cl_Job, T.n_Job_staple, (by show 8 < 1000; decide), ?_⟩
  rw [upd_upd, putF_new (by show ¬ ("staple" : Str) ∈ (["name", "asker", "pages", "copies", "layout", "paper", "cover", "colour"] : List Str); decide +kernel)]
  refine ⟨_, rfl, _, rfl, x, cJob, dx, _, rfl, upd_same, T.cl_Job, T.n_Job_after, (by show 9 < 1000; decide), ?_⟩
  rw [upd_upd, putF_new (by show ¬ ("after" : Str) ∈ (["name", "asker", "pages", "copies", "layout", "paper", "cover", "colour", "staple"] : List Str); decide +kernel)]
  exact q


end
end My

namespace My
open PySem L2
open Blk (sg sg_inj sg_app)
section
variable {P : Program} {w : World} {K : PySem.W.Frag} {mg : Str → Option Value} {base : Heap}
structure Pr47 (cP cS cR : Addr) (H : Hp) (x : Addr) (d : PD) (cs : List Str) : Prop where
  P : PrAt cP cS cR H x d
  cn : H d.cn = some (.tup (cs.map V.str))
  rm : H d.rm = some (.dK (dI d.rs))
  ne : d.rm ≠ d.tr2
theorem Pr47.same {cP cS cR : Addr} {H H' : Hp} {x : Addr} {d : PD} {cs : List Str} (h : Pr47 cP cS cR H x d cs) (k : Same H H') : Pr47 cP cS cR H' x d cs := ⟨h.P.same k, k _ _ h.cn, k _ _ h.rm, h.ne⟩
def sp_Pr_papers (cP cS cR : Addr) : Sp := fun vs H Q _ => ∃ x d cs, vs = [.ref x] ∧ Pr47 cP cS cR H x d cs ∧ ∀ p H', Same H H' → H p = none → H' p = some (.dK (dI d.rs)) → Q (.ref p) H'
theorem sc_Printer_papers : FnScope ["self"] ["self"] (defScope s_Printer_papers) := ⟨rfl, rfl, rfl, by decide +kernel, rfl, by decide +kernel, by decide +kernel⟩
theorem ok_Printer_papers {fa cJob cState cReady cStock cPrinter cBadLine cUnknown cTooMuch cBusy cNoPrinter cNoWay cHallError : Addr} {fd : FuncData} (F : Fun K "papers" "Printer.papers" s_Printer_papers fa fd) (T : Txt K mg cJob cState cReady cStock cPrinter cBadLine cUnknown cTooMuch cBusy cNoPrinter cNoWay cHallError)  :
    FnOk P w K mg base CX0 1 fa fd ["self"] (sp_Pr_papers cPrinter cStock cReady) := by
  refine F.ok sc_Printer_papers (fun vs H Q E h => ?_) (fun cdv A outer s H vs Q E hr h => ?_)
  · obtain ⟨x, d, cs, rfl, _⟩ := h
    rfl
  obtain ⟨x, d, cs, rfl, P, q⟩ := h
  refine ⟨_, (pss_one (ps_ret (pe_callTy call_dict_copy rfl T.dict bt_dict (pa_cons (pe_fld (pv 0) rfl) pa_nil)))), ?_⟩
  refine ⟨_, rfl, x, cPrinter, d.dx, _, _, rfl, P.P.o, T.cl_Printer, T.n_Printer_rooms, rfl, ?_⟩
  exact ⟨d.rm, _, rfl, .inl P.rm, fun l nl => q l _ (same_new nl _) nl upd_same⟩
inductive Nd where
  | pap (k : Str)
  | cov (k : Str)
  | bo
  | co
  | st
deriving DecidableEq
def Nd.s : Nd → Str
  | .pap k => cPap ++ k
  | .cov k => cCov ++ k
  | .bo => Str.ofString "both"
  | .co => Str.ofString "colour"
  | .st => Str.ofString "staple"
/-- whether a printer with these trays and this can has it -/
def Nd.ok (ts cs : List Str) : Nd → Bool
  | .pap k => decide (k ∈ ts)
  | .cov k => decide (k ∈ ts)
  | .bo => decide (Str.ofString "both" ∈ cs)
  | .co => decide (Str.ofString "colour" ∈ cs)
  | .st => decide (Str.ofString "staple" ∈ cs)
theorem sw_no (n : Nd) : Txt.startswith n.s cPap = (match n with | .pap _ => true | _ => false) ∧ Txt.startswith n.s cCov = (match n with | .cov _ => true | _ => false) := by
  cases n with
  | pap k => exact ⟨sw_app _ _, (sw_pre (by decide +kernel)).trans (by show Txt.startswith cPap cCov = false; decide +kernel)⟩
  | cov k => exact ⟨(sw_pre (by decide +kernel)).trans (by show Txt.startswith cCov cPap = false; decide +kernel), sw_app _ _⟩
  | bo => exact ⟨by decide +kernel, by decide +kernel⟩
  | co => exact ⟨by decide +kernel, by decide +kernel⟩
  | st => exact ⟨by decide +kernel, by decide +kernel⟩
theorem val_rs {rs : List (Str × Int)} {n : Str} : (valV (dI rs) (Sum.inr n : Key)).isSome = decide (n ∈ rs.map (·.1)) := by
  rw [val_dI, Option.isSome_map]
  cases e : rs.lookup n with
  | none => rw [decide_eq_false (look_none e)]; rfl
  | some v => rw [decide_eq_true (look_some e)]; rfl
theorem dget_rs {H : Hp} {a : Addr} {kvs : List (Key × V)} (h : H a = some (.dK kvs)) (n : Str) : DGet H a (.str n) (valV kvs (Sum.inr n)) := .inl ⟨kvs, Sum.inr n, .inl h, rfl, rfl⟩
theorem flat47 (c : List Str) : (c.map V.str).all flatV = true := by
  rw [List.all_map]
  exact List.all_eq_true.mpr fun x _ => rfl
def sp_has (cP cS cR : Addr) : Sp := fun vs H Q _ => ∃ (x : Addr) (d : PD) (cs : List Str) (n : Nd), vs = [.ref x, .str n.s] ∧ Pr47 cP cS cR H x d cs ∧ n.s.length ≤ 100 ∧ ∀ H', Same H H' → Q (.bl (n.ok (d.rs.map (·.1)) cs)) H'
theorem sc_has : FnScope ["printer", "need", "start"] ["printer", "need"] (defScope s_has) := ⟨rfl, rfl, rfl, by decide +kernel, rfl, by decide +kernel, by decide +kernel⟩
theorem ok_has {fa cJob cState cReady cStock cPrinter cBadLine cUnknown cTooMuch cBusy cNoPrinter cNoWay cHallError : Addr} {fd : FuncData} (F : Fun K "has" "has" s_has fa fd) (T : Txt K mg cJob cState cReady cStock cPrinter cBadLine cUnknown cTooMuch cBusy cNoPrinter cNoWay cHallError) (D_Printer_papers : MtE P w K mg base 1 "papers" cPrinter ["self"] (sp_Pr_papers cPrinter cStock cReady)) :
    FnOk P w K mg base CX0 2 fa fd ["printer", "need"] (sp_has cPrinter cStock cReady) := by
  refine F.ok sc_has (fun vs H Q E h => ?_) (fun cdv A outer s H vs Q E hr h => ?_)
  · obtain ⟨x, d, cs, n, rfl, _⟩ := h
    rfl
  obtain ⟨x, d, cs, n, rfl, P, ln, q⟩ := h
  have hu := hu_n hr 0 (by decide)
  refine ⟨_, (pss_cons (ps_for PassesOwn.never rfl (pi_tup (pe_tup (pa_cons (pe_gs T.PAPER rfl) (pa_cons (pe_gs T.COVER rfl) pa_nil)))) (pg_name (i := 2) sc_has.nd rfl (by first | exact Or.inl rfl | exact Or.inr rfl))
  (pss_one (ps_if (pt_truth (pe_bm PySem.F.plainAttrs_str PySem.F.slot_str_startswith PySem.F.type_str_startswith mt_startswith (pv 1) (pa_cons (pv 2) pa_nil)) (fun _ => rfl)) (pss_one (ps_ret (pe_cmp (pc_din hu (pe_slice sl_str (pv 1) (po_some (pe_callB call_len_str rfl T.len PySem.boot_len (pa_cons (pv 2) pa_nil))) po_none) (pe_methE0 1 passE0 (hr.mono (by decide)) (pv 0)))))) pss_nil)))
  (pss_one (ps_ret (pe_cmpR op_in_seq (pv 1) (pe_fld (pv 0) rfl) rfl)))), ?_⟩
  have z2 : 2 ≤ sizeLine := small (by decide)
  refine ⟨z2, fun tp ntp => ?_⟩
  have s1 := same_new ntp (.tup [V.str cPap, V.str cCov])
  have h1 : upd H tp (.tup [V.str cPap, V.str cCov]) tp = some (.tup [V.str cPap, V.str cCov]) := upd_same
  generalize upd H tp (.tup [V.str cPap, V.str cCov]) = H1 at s1 h1 ⊢
  obtain ⟨w1, w2⟩ := sw_no n
  refine ⟨tp, rfl, ⟨_, SqT.of h1⟩, ?_⟩
  refine for_tup (K := K) (a := tp) (xs := [V.str cPap, V.str cCov]) (fun i σ H' => H' = H1 ∧ (∃ v2, σ = [some (.ref x), some (.str n.s), v2]) ∧ (1 ≤ i → Txt.startswith n.s cPap = false) ∧ (2 ≤ i → Txt.startswith n.s cCov = false)) ⟨rfl, ⟨_, rfl⟩, fun z => absurd z (by decide), fun z => absurd z (by decide)⟩ (fun i σ H' _ z => by rw [z.1]; exact SqT.of h1) (fun i y σ H' hy z => ?_) (fun σ H' z => ?_)
  · obtain ⟨rfl, ⟨v2, rfl⟩, b1, b2⟩ := z
    have P1 := P.same s1
    match i, hy with
    | 0, hy =>
      obtain rfl := Option.some.inj hy
      refine ⟨_, rfl, rfl, _, rfl, _, _, rfl, rfl, _, rfl, ?_⟩
      rw [w1]
      cases n with
      | pap k =>
        refine iteT ⟨_, rfl, _, rfl, _, rfl, small (by decide +kernel), _, rfl, _, rfl, small (by omega), ?_⟩
        refine ⟨_, rfl, x, _, d.dx, _, _, _, rfl, P1.P.o, rfl, T.cl_Printer, D_Printer_papers, x, d, cs, rfl, P1, fun p H2 s2 np hp => ⟨p, _, rfl, dget_rs hp _, ?_⟩⟩
        rw [show Txt.slice (Nd.pap k).s (some ((cPap.length : Nat) : Int)) none = k from slice_pre cPap k, val_rs]
        exact q _ (s1.trans s2)
      | cov k => exact iteF ⟨rfl, ⟨_, rfl⟩, fun _ => rfl, fun z => absurd z (by decide)⟩
      | bo => exact iteF ⟨rfl, ⟨_, rfl⟩, fun _ => w1, fun z => absurd z (by decide)⟩
      | co => exact iteF ⟨rfl, ⟨_, rfl⟩, fun _ => w1, fun z => absurd z (by decide)⟩
      | st => exact iteF ⟨rfl, ⟨_, rfl⟩, fun _ => w1, fun z => absurd z (by decide)⟩
    | 1, hy =>
      obtain rfl := Option.some.inj hy
      refine ⟨_, rfl, rfl, _, rfl, _, _, rfl, rfl, _, rfl, ?_⟩
      rw [w2]
      cases n with
      | cov k =>
        refine iteT ⟨_, rfl, _, rfl, _, rfl, small (by decide +kernel), _, rfl, _, rfl, small (by omega), ?_⟩
        refine ⟨_, rfl, x, _, d.dx, _, _, _, rfl, P1.P.o, rfl, T.cl_Printer, D_Printer_papers, x, d, cs, rfl, P1, fun p H2 s2 np hp => ⟨p, _, rfl, dget_rs hp _, ?_⟩⟩
        rw [show Txt.slice (Nd.cov k).s (some ((cCov.length : Nat) : Int)) none = k from slice_pre cCov k, val_rs]
        exact q _ (s1.trans s2)
      | pap k => exact iteF ⟨rfl, ⟨_, rfl⟩, fun _ => b1 (by decide), fun _ => rfl⟩
      | bo => exact iteF ⟨rfl, ⟨_, rfl⟩, fun _ => w1, fun _ => w2⟩
      | co => exact iteF ⟨rfl, ⟨_, rfl⟩, fun _ => w1, fun _ => w2⟩
      | st => exact iteF ⟨rfl, ⟨_, rfl⟩, fun _ => w1, fun _ => w2⟩
  · obtain ⟨rfl, ⟨v2, rfl⟩, b1, b2⟩ := z
    have P1 := P.same s1
    have f1 := b1 (by show 1 ≤ 2; decide)
    have f2 := b2 (by show 2 ≤ 2; decide)
    refine ⟨_, rfl, _, rfl, x, cPrinter, d.dx, _, _, rfl, P1.P.o, T.cl_Printer, T.n_Printer_can, rfl, d.cn, _, rfl, .inr (SqT.of P1.cn), rfl, flat47 _, ?_⟩
    rw [if_neg (by decide), in_strs]
    cases n with
    | pap k => rw [w1] at f1; cases f1
    | cov k => rw [w2] at f2; cases f2
    | bo => exact q _ s1
    | co => exact q _ s1
    | st => exact q _ s1
/-- what a job asks of a printer -/
def needN (p : Str) (cv : Option Str) (one : Bool) (co : Bool) (st : Bool) : List Nd := [Nd.pap p] ++ (match cv with | some c => [Nd.cov c] | none => []) ++ (if one = true then [] else [.bo]) ++ (if co = true then [.co] else []) ++ (if st = true then [.st] else [])
def cvV : Option Str → V
  | some c => .str c
  | none => .non
structure Job47 (cJ : Addr) (H : Hp) (x : Addr) (p : Str) (cv : Option Str) (one co st : Bool) : Prop where
  ex : ∃ (dx : Addr) (a b c d e h j : V) (lay : Str), H x = some (.ins cJ dx (jobF a b c d (.str lay) (.str p) (cvV cv) h (.bl st) j)) ∧ decide (lay = Str.ofString "one") = one ∧ decide (h ≠ .non) = co
theorem Job47.same {cJ : Addr} {H H' : Hp} {x : Addr} {p : Str} {cv : Option Str} {one co st : Bool} (h : Job47 cJ H x p cv one co st) (k : Same H H') : Job47 cJ H' x p cv one co st := ⟨let ⟨dx, a, b, c, d, e, f, g, l, h1, h2⟩ := h.ex; ⟨dx, a, b, c, d, e, f, g, l, k _ _ h1, h2⟩⟩
def extN (cv : Option Str) (one co st : Bool) : Nat → List V
  | 1 => match cv with | some c => [V.str (Nd.cov c).s] | none => []
  | 2 => if one = true then [] else [V.str Nd.bo.s]
  | 3 => if co = true then [V.str Nd.co.s] else []
  | _ => if st = true then [V.str Nd.st.s] else []
def WN (cJ : Addr) (k : Nat) : TS := fun D σ H => ∃ (x l : Addr) (p : Str) (cv : Option Str) (one co st : Bool) (ys : List V), σ = [some (.ref x), some (.ref l)] ∧ Job47 cJ H x p cv one co st ∧ (∀ c, cv = some c → c.length ≤ 20) ∧ H l = some (.lst ys) ∧ ys.length ≤ 10 ∧ ∀ H', (∀ b o, b ≠ l → H b = some o → H' b = some o) → H' l = some (.lst (ys ++ extN cv one co st k)) → D.nx [some (.ref x), some (.ref l)] H'
theorem Job47.frame {cJ : Addr} {H H' : Hp} {x l : Addr} {p : Str} {cv : Option Str} {one co st : Bool} {ys : List V} (h : Job47 cJ H x p cv one co st) (hl : H l = some (.lst ys)) (k : ∀ b o, b ≠ l → H b = some o → H' b = some o) : Job47 cJ H' x p cv one co st := ⟨let ⟨dx, a, b, c, d, e, f, g, lay, h1, h2⟩ := h.ex; ⟨dx, a, b, c, d, e, f, g, lay, k _ _ (ne_of h1 hl (by intro z; cases z)) h1, h2⟩⟩
def sp_needs (cJ : Addr) : Sp := fun vs H Q _ => ∃ (x : Addr) (p : Str) (cv : Option Str) (one co st : Bool), vs = [.ref x] ∧ Job47 cJ H x p cv one co st ∧ p.length ≤ 20 ∧ (∀ c, cv = some c → c.length ≤ 20) ∧ ∀ l H', Same H H' → H l = none → H' l = some (.lst ((needN p cv one co st).map fun n => V.str n.s)) → Q (.ref l) H'
theorem sc_needs : FnScope ["job", "told"] ["job"] (defScope s_needs) := ⟨rfl, rfl, rfl, by decide +kernel, rfl, by decide +kernel, by decide +kernel⟩
theorem ok_needs {fa cJob cState cReady cStock cPrinter cBadLine cUnknown cTooMuch cBusy cNoPrinter cNoWay cHallError : Addr} {fd : FuncData} (F : Fun K "needs" "needs" s_needs fa fd) (T : Txt K mg cJob cState cReady cStock cPrinter cBadLine cUnknown cTooMuch cBusy cNoPrinter cNoWay cHallError)  :
    FnOk P w K mg base CX0 1 fa fd ["job"] (sp_needs cJob) := by
  refine F.ok sc_needs (fun vs H Q E h => ?_) (fun cdv A outer s H vs Q E hr h => ?_)
  · obtain ⟨x, p, cv, one, co, st, rfl, _⟩ := h
    rfl
  obtain ⟨x, p, cv, one, co, st, rfl, J, lp, lc, q⟩ := h
  have hu := hu_n hr 0 (by decide)
  have z1 : 1 ≤ sizeLine := small (by decide)
  refine ⟨_, (pss_cons (ps_set (i := 1) sc_needs.nd rfl (by first | exact Or.inl rfl | exact Or.inr rfl) (pe_lst (pa_cons (pe_op op_add_str (pe_gs T.PAPER rfl) (pe_fld (pv 0) rfl)) pa_nil)))
  (pss_cons (PS.weak (t' := WN cJob 1) (ps_if (pt_cmpR op_notN (pe_fld (pv 0) rfl) pe_non (nomark _)) (pss_one (ps_expr (pe_bm PySem.F.plainAttrs_list PySem.F.slot_list_append PySem.F.type_list_append mt_append (pv 1) (pa_cons (pe_op op_add_str (pe_gs T.COVER rfl) (pe_fld (pv 0) rfl)) pa_nil)))) pss_nil) ?w1)
  (pss_cons (PS.weak (t' := WN cJob 2) (ps_if (pt_cmpR op_ne (pe_fld (pv 0) rfl) (pe_gs T.ONE_LAYOUT rfl) (nomark _)) (pss_one (ps_expr (pe_bm PySem.F.plainAttrs_list PySem.F.slot_list_append PySem.F.type_list_append mt_append (pv 1) (pa_cons (pe_gs T.BOTH_SIDES rfl) pa_nil)))) pss_nil) ?w2)
  (pss_cons (PS.weak (t' := WN cJob 3) (ps_if (pt_cmpR op_notN (pe_fld (pv 0) rfl) pe_non (nomark _)) (pss_one (ps_expr (pe_bm PySem.F.plainAttrs_list PySem.F.slot_list_append PySem.F.type_list_append mt_append (pv 1) (pa_cons (pe_gs T.COLOURED rfl) pa_nil)))) pss_nil) ?w3)
  (pss_cons (PS.weak (t' := WN cJob 4) (ps_if (pt_truth (pe_fld (pv 0) rfl) (fun _ => rfl)) (pss_one (ps_expr (pe_bm PySem.F.plainAttrs_list PySem.F.slot_list_append PySem.F.type_list_append mt_append (pv 1) (pa_cons (pe_gs T.STAPLE rfl) pa_nil)))) pss_nil) ?w4)
  (pss_one (ps_ret (pv 1)))))))), ?_⟩
  case w1 =>
    rintro D σ H ⟨x, l, p, cv, one, co, st, ys, rfl, J, lc, hl, ly, q⟩
    obtain ⟨dx, a, b, c, d, e, h, j, lay, hx, e1, e2⟩ := J.ex
    refine ⟨_, rfl, x, cJob, dx, _, _, rfl, hx, T.cl_Job, T.n_Job_cover, jF6 _ _ _ _ _ _ _ _ _ _, rfl, _, rfl, ?_⟩
    cases cv with
    | none => exact iteNS rfl (q H (fun b o _ e => e) (by rw [show extN none one co st 1 = [] from rfl, List.append_nil]; exact hl))
    | some c' =>
      refine iteNN (by intro z; cases z) ⟨_, rfl, .inl ⟨rfl, _, SqL.of hl⟩, _, rfl, x, cJob, dx, _, _, rfl, hx, T.cl_Job, T.n_Job_cover, jF6 _ _ _ _ _ _ _ _ _ _, _, _, rfl, rfl, small (by have := lc c' rfl; have : (Str.ofString "cover:").length = 6 := (by decide +kernel); omega), l, _, _, rfl, rfl, hl, small1000 (by omega), q _ (fun b o nb e => by rw [upd_ne nb]; exact e) upd_same⟩
  case w2 =>
    rintro D σ H ⟨x, l, p, cv, one, co, st, ys, rfl, J, lc, hl, ly, q⟩
    obtain ⟨dx, a, b, c, d, e, h, j, lay, hx, e1, e2⟩ := J.ex
    refine ⟨_, rfl, x, cJob, dx, _, _, rfl, hx, T.cl_Job, T.n_Job_layout, jF4 _ _ _ _ _ _ _ _ _ _, rfl, _, rfl, ?_⟩
    by_cases cc : lay = Str.ofString "one"
    · rw [decide_eq_true cc] at e1
      subst e1
      exact iteNS (by rw [cc]) (q H (fun b o _ e => e) (by rw [show extN cv true co st 2 = [] from rfl, List.append_nil]; exact hl))
    · rw [decide_eq_false cc] at e1
      subst e1
      refine iteNN (fun z => cc (by injection z)) ⟨_, rfl, .inl ⟨rfl, _, SqL.of hl⟩, l, _, _, rfl, rfl, hl, small1000 (by omega), q _ (fun b o nb e => by rw [upd_ne nb]; exact e) upd_same⟩
  case w3 =>
    rintro D σ H ⟨x, l, p, cv, one, co, st, ys, rfl, J, lc, hl, ly, q⟩
    obtain ⟨dx, a, b, c, d, e, h, j, lay, hx, e1, e2⟩ := J.ex
    refine ⟨_, rfl, x, cJob, dx, _, _, rfl, hx, T.cl_Job, T.n_Job_colour, jF7 _ _ _ _ _ _ _ _ _ _, rfl, _, rfl, ?_⟩
    by_cases cc : h = .non
    · rw [decide_eq_false (fun z => z cc)] at e2
      subst e2
      exact iteNS cc (q H (fun b o _ e => e) (by rw [show extN cv one false st 3 = [] from rfl, List.append_nil]; exact hl))
    · rw [decide_eq_true cc] at e2
      subst e2
      refine iteNN cc ⟨_, rfl, .inl ⟨rfl, _, SqL.of hl⟩, l, _, _, rfl, rfl, hl, small1000 (by omega), q _ (fun b o nb e => by rw [upd_ne nb]; exact e) upd_same⟩
  case w4 =>
    rintro D σ H ⟨x, l, p, cv, one, co, st, ys, rfl, J, lc, hl, ly, q⟩
    obtain ⟨dx, a, b, c, d, e, h, j, lay, hx, e1, e2⟩ := J.ex
    refine ⟨_, rfl, x, cJob, dx, _, _, rfl, hx, T.cl_Job, T.n_Job_staple, jF8 _ _ _ _ _ _ _ _ _ _, st, rfl, ?_⟩
    cases st with
    | false => exact iteF (q H (fun b o _ e => e) (by rw [show extN cv one co false 4 = [] from rfl, List.append_nil]; exact hl))
    | true => exact iteT ⟨_, rfl, .inl ⟨rfl, _, SqL.of hl⟩, l, _, _, rfl, rfl, hl, small1000 (by omega), q _ (fun b o nb e => by rw [upd_ne nb]; exact e) upd_same⟩
  obtain ⟨dx, a, b, c, d, e, h, j, lay, hx, e1, e2⟩ := J.ex
  refine ⟨_, rfl, x, cJob, dx, _, _, rfl, hx, T.cl_Job, T.n_Job_paper, jF5 _ _ _ _ _ _ _ _ _ _, _, _, rfl, rfl, small (by have : (Str.ofString "paper:").length = 6 := (by decide +kernel); omega), z1, fun l nl => ?_⟩
  have s1 := same_new nl (.lst [V.str (cPap ++ p)])
  have h1 : upd H l (.lst [V.str (cPap ++ p)]) l = some (.lst [V.str (cPap ++ p)]) := upd_same
  generalize upd H l (.lst [V.str (cPap ++ p)]) = H1 at s1 h1 ⊢
  have J1 := J.same s1
  refine ⟨x, l, p, cv, one, co, st, _, rfl, J1, lc, h1, by show 1 ≤ 10; decide, fun H2 k2 h2 => ?_⟩
  have J2 := J1.frame h1 k2
  have l2 : (extN cv one co st 1).length ≤ 1 := by cases cv <;> first | exact Nat.zero_le _ | exact Nat.le_refl _
  refine ⟨x, l, p, cv, one, co, st, _, rfl, J2, lc, h2, by rw [List.length_append]; show 1 + _ ≤ 10; omega, fun H3 k3 h3 => ?_⟩
  have J3 := J2.frame h2 k3
  have l3 : (extN cv one co st 2).length ≤ 1 := by cases one <;> first | exact Nat.zero_le _ | exact Nat.le_refl _
  refine ⟨x, l, p, cv, one, co, st, _, rfl, J3, lc, h3, by rw [List.length_append, List.length_append]; show 1 + _ + _ ≤ 10; omega, fun H4 k4 h4 => ?_⟩
  have J4 := J3.frame h3 k4
  have l4 : (extN cv one co st 3).length ≤ 1 := by cases co <;> first | exact Nat.zero_le _ | exact Nat.le_refl _
  refine ⟨x, l, p, cv, one, co, st, _, rfl, J4, lc, h4, by rw [List.length_append, List.length_append, List.length_append]; show 1 + _ + _ + _ ≤ 10; omega, fun H5 k5 h5 => ⟨_, rfl, ?_⟩⟩
  refine q l H5 (fun b o e => ?_) nl ?_
  · have nb : b ≠ l := fun z => by rw [z, nl] at e; cases e
    exact k5 b o nb (k4 b o nb (k3 b o nb (k2 b o nb (s1 _ _ e))))
  · rw [h5]
    refine congrArg (fun y => some (HO.lst y)) ?_
    unfold needN
    rw [List.map_append, List.map_append, List.map_append, List.map_append]
    refine congr (congrArg _ (congr (congrArg _ (congr (congrArg _ (congrArg _ ?_)) ?_)) ?_)) ?_
    · cases cv <;> rfl
    · cases one <;> rfl
    · cases co <;> rfl
    · cases st <;> rfl
def ndV : V → Nd
  | .str z => if Txt.startswith z cPap = true then .pap (Txt.slice z (some 6) none) else if Txt.startswith z cCov = true then .cov (Txt.slice z (some 6) none) else if z = Str.ofString "both" then .bo else if z = Str.ofString "colour" then .co else .st
  | _ => .st
theorem ndV_s (n : Nd) : ndV (.str n.s) = n := by
  obtain ⟨w1, w2⟩ := sw_no n
  cases n with
  | pap k =>
    show (if Txt.startswith (Nd.pap k).s cPap = true then _ else _) = _
    rw [if_pos w1]
    exact congrArg Nd.pap (slice_pre cPap k)
  | cov k =>
    show (if Txt.startswith (Nd.cov k).s cPap = true then _ else if Txt.startswith (Nd.cov k).s cCov = true then _ else _) = _
    rw [if_neg (by rw [w1]; intro z; cases z), if_pos w2]
    exact congrArg Nd.cov (slice_pre cCov k)
  | bo => decide +kernel
  | co => decide +kernel
  | st => decide +kernel
theorem len_needN {p : Str} {cv : Option Str} {one co st : Bool} (lp : p.length ≤ 20) (lc : ∀ c, cv = some c → c.length ≤ 20) : (needN p cv one co st).length ≤ 5 ∧ ∀ n ∈ needN p cv one co st, n.s.length ≤ 100 := by
  have a : ∀ k : Str, k.length ≤ 20 → (Nd.pap k).s.length ≤ 100 := fun k h => by
    show (cPap ++ k).length ≤ 100
    rw [len_app]
    have : cPap.length = 6 := (by decide +kernel)
    omega
  have b : ∀ k : Str, k.length ≤ 20 → (Nd.cov k).s.length ≤ 100 := fun k h => by
    show (cCov ++ k).length ≤ 100
    rw [len_app]
    have : cCov.length = 6 := (by decide +kernel)
    omega
  have c1 : Nd.bo.s.length ≤ 100 := by decide +kernel
  have c2 : Nd.co.s.length ≤ 100 := by decide +kernel
  have c3 : Nd.st.s.length ≤ 100 := by decide +kernel
  unfold needN
  refine ⟨?_, fun n hn => ?_⟩
  · cases cv <;> cases one <;> cases co <;> cases st <;> first | exact (show 1 ≤ 5 by decide) | exact (show 2 ≤ 5 by decide) | exact (show 3 ≤ 5 by decide) | exact (show 4 ≤ 5 by decide) | exact (show 5 ≤ 5 by decide)
  · simp only [List.mem_append, List.mem_cons, List.not_mem_nil, or_false] at hn
    rcases hn with (((rfl | hn) | hn) | hn) | hn
    · exact a p lp
    · cases cv with
      | none => cases hn
      | some c => rw [List.mem_singleton.mp hn]; exact b c (lc c rfl)
    · cases one with
      | true => cases hn
      | false => rw [List.mem_singleton.mp hn]; exact c1
    · cases co with
      | false => cases hn
      | true => rw [List.mem_singleton.mp hn]; exact c2
    · cases st with
      | false => cases hn
      | true => rw [List.mem_singleton.mp hn]; exact c3
def lackN (ts cs : List Str) (ns : List Nd) : List Nd := ns.filter fun n => !n.ok ts cs
theorem new47 {H H' : Hp} {G : Prop} (g : G) : New H H' (fun _ => G) := ⟨fun _ => False, fun _ z => z.elim, fun _ _ => g⟩
def sp_lacks (cJ cP cS cR : Addr) : Sp := fun vs H Q _ => ∃ (x y : Addr) (p : Str) (cv : Option Str) (one co st : Bool) (d : PD) (cs : List Str), vs = [.ref x, .ref y] ∧ Job47 cJ H x p cv one co st ∧ p.length ≤ 20 ∧ (∀ c, cv = some c → c.length ≤ 20) ∧ Pr47 cP cS cR H y d cs ∧ ∀ l H', Same H H' → H l = none → H' l = some (.lst ((lackN (d.rs.map (·.1)) cs (needN p cv one co st)).map fun n => V.str n.s)) → Q (.ref l) H'
theorem sc_lacks : FnScope ["job", "printer"] ["job", "printer"] (defScope s_lacks) := ⟨rfl, rfl, rfl, by decide +kernel, rfl, by decide +kernel, by decide +kernel⟩
theorem ok_lacks {fa cJob cState cReady cStock cPrinter cBadLine cUnknown cTooMuch cBusy cNoPrinter cNoWay cHallError : Addr} {fd : FuncData} (F : Fun K "lacks" "lacks" s_lacks fa fd) (T : Txt K mg cJob cState cReady cStock cPrinter cBadLine cUnknown cTooMuch cBusy cNoPrinter cNoWay cHallError) (D_needs : Dfn P w K mg base 1 "needs" ["job"] (sp_needs cJob)) (D_has : Dfn P w K mg base 2 "has" ["printer", "need"] (sp_has cPrinter cStock cReady)) :
    FnOk P w K mg base CX0 3 fa fd ["job", "printer"] (sp_lacks cJob cPrinter cStock cReady) := by
  refine F.ok sc_lacks (fun vs H Q E h => ?_) (fun cdv A outer s H vs Q E hr h => ?_)
  · obtain ⟨x, y, p, cv, one, co, st, d, cs, rfl, _⟩ := h
    rfl
  obtain ⟨x, y, p, cv, one, co, st, d, cs, rfl, J, lp, lc, Py, q⟩ := h
  refine ⟨_, (pss_one (ps_ret (pe_comp (frees := [("printer", 1)]) ⟨by decide +kernel, rfl, rfl, by decide +kernel, ⟨⟨rfl, rfl, rfl, by decide +kernel⟩, trivial⟩, by decide +kernel, cellsFor_at rfl, rfl⟩ rfl (pi_list (pe_callD D_needs (hr.mono (by decide)) rfl (pa_cons (pv 0) pa_nil))) (fun _ _ _ _ => by exact (pifs_one (pt_not (pt_truthK (K := K) rfl (pe_callD D_has (hr.mono (by decide)) rfl (pa_cons (pv 1) (pa_cons (pv 0) pa_nil))) (fun _ => rfl))))) (fun _ _ _ _ => by exact (pv 0))))), ?_⟩
  refine ⟨_, rfl, x, p, cv, one, co, st, rfl, J, lp, lc, fun l H1 s1 nl hl => ?_⟩
  obtain ⟨l5, l100⟩ := len_needN (one := one) (co := co) (st := st) lp lc
  refine ⟨l, rfl, ⟨_, SqL.of hl⟩, ?_⟩
  refine compB_mkf (seq_list (K := K) (SqL.of hl)) (fun v => !(ndV v).ok (d.rs.map (·.1)) cs) (fun a b _ => b = a) (by rw [List.length_map]; exact small1000 (by omega)) (fun v hv G R sG rr => ?_) (fun v hv G R sG _ rr => ⟨_, rfl, rr v G (Same.refl _) (new47 rfl)⟩) (fun D H2 ys s2 nD hD ly gy => ?_)
  · obtain ⟨n, hn, rfl⟩ := List.mem_map.mp hv
    refine ⟨_, rfl, _, rfl, y, d, cs, n, rfl, Py.same (s1.trans sG), l100 n hn, fun G2 k2 => ⟨_, rfl, ?_⟩⟩
    have := rr G2 k2
    rw [ndV_s] at this
    exact this
  · refine q D H2 (s1.trans s2) (s1.free nD) ?_
    rw [hD]
    refine congrArg (fun y => some (HO.lst y)) ?_
    have e : ys = ((needN p cv one co st).map fun n => V.str n.s).filter fun v => !(ndV v).ok (d.rs.map (·.1)) cs := by
      refine List.ext_getElem? fun i => ?_
      cases ey : ys[i]? with
      | none =>
        have := List.getElem?_eq_none_iff.mp ey
        exact (List.getElem?_eq_none (by omega)).symm
      | some y =>
        have hi := (List.getElem?_eq_some_iff.mp ey).1
        obtain ⟨x, ex⟩ : ∃ x, (((needN p cv one co st).map fun n => V.str n.s).filter fun v => !(ndV v).ok (d.rs.map (·.1)) cs)[i]? = some x := ⟨_, List.getElem?_eq_getElem (by omega)⟩
        rw [ex, gy i x y ex ey]
    rw [e, List.filter_map]
    unfold lackN
    refine congrArg _ (List.filter_congr fun n _ => ?_)
    show (!(ndV (V.str n.s)).ok _ _) = _
    rw [ndV_s]

end
end My

namespace My
open PySem L2
open Blk (sg sg_inj sg_app)
section
variable {P : Program} {w : World} {K : PySem.W.Frag} {mg : Str → Option Value} {base : Heap}
/-! ### own_copy -/
def Shp (H : Hp) : Nat → V → Prop
  | 0, _ => False
  | n + 1, x => (∃ z, x = V.str z) ∨ ∃ a xs, x = V.ref a ∧ (H a = some (.lst xs) ∨ H a = some (.tup xs)) ∧ xs.length ≤ 900 ∧ ∀ u ∈ xs, Shp H n u
def CpV (H : Hp) : Nat → V → Hp → V → Prop
  | 0, _, _, _ => False
  | n + 1, x, H3, y => (∃ z, x = V.str z ∧ y = V.str z) ∨ ∃ a b xs ys, x = V.ref a ∧ y = V.ref b ∧ ((H a = some (.lst xs) ∧ H3 b = some (.lst ys)) ∨ (H a = some (.tup xs) ∧ H3 b = some (.tup ys))) ∧ ys.length = xs.length ∧ ∀ (i : Nat) u v, xs[i]? = some u → ys[i]? = some v → CpV H n u H3 v
theorem Shp.same {H G : Hp} (k : Same H G) : ∀ {n : Nat} {x : V}, Shp H n x → Shp G n x
  | 0, _, h => h
  | n + 1, x, h => by
    rcases h with h | ⟨a, xs, e, ha, l, g⟩
    · exact .inl h
    · exact .inr ⟨a, xs, e, ha.imp (k _ _) (k _ _), l, fun u hu => (g u hu).same k⟩
theorem cp_base {H G H3 : Hp} (k : Same H G) : ∀ {n : Nat} {x y : V}, Shp H n x → CpV G n x H3 y → CpV H n x H3 y
  | 0, _, _, h, _ => h.elim
  | n + 1, x, y, h, c => by
    rcases c with c | ⟨a, b, xs, ys, rfl, rfl, hab, l, g⟩
    · exact .inl c
    · rcases h with ⟨z, h⟩ | ⟨a', xs', e, ha, l', g'⟩
      · cases h
      · cases e
        rcases ha with ha | ha
        · rcases hab with ⟨h1, h2⟩ | ⟨h1, h2⟩
          · rw [k _ _ ha] at h1
            obtain rfl : xs' = xs := by injection h1 with h1; injection h1
            exact .inr ⟨a, b, xs', ys, rfl, rfl, .inl ⟨ha, h2⟩, l, fun i u v e1 e2 => cp_base k (g' u (List.mem_of_getElem? e1)) (g i u v e1 e2)⟩
          · rw [k _ _ ha] at h1
            injection h1 with h1
            cases h1
        · rcases hab with ⟨h1, h2⟩ | ⟨h1, h2⟩
          · rw [k _ _ ha] at h1
            injection h1 with h1
            cases h1
          · rw [k _ _ ha] at h1
            obtain rfl : xs' = xs := by injection h1 with h1; injection h1
            exact .inr ⟨a, b, xs', ys, rfl, rfl, .inr ⟨ha, h2⟩, l, fun i u v e1 e2 => cp_base k (g' u (List.mem_of_getElem? e1)) (g i u v e1 e2)⟩
/-- the copies of the items, and the new things that they stand on -/
theorem copies_new {H H' : Hp} {n : Nat} {a b : Addr} {xs ys : List V} {o : HO} (nb : H b = none) (ho : H' b = some o) (l : ys.length = xs.length) (g : ∀ (i : Nat) x y, xs[i]? = some x → ys[i]? = some y → New H H' (fun H3 => CpV H n x H3 y)) (hab : ∀ H3 : Hp, H3 b = some o → (H a = some (.lst xs) ∧ H3 b = some (.lst ys)) ∨ (H a = some (.tup xs) ∧ H3 b = some (.tup ys))) : New H H' (fun H3 => CpV H (n + 1) (.ref a) H3 (.ref b)) := by
  refine ⟨fun c => c = b ∨ ∃ (i : Nat) (x y : V) (S : Addr → Prop), xs[i]? = some x ∧ ys[i]? = some y ∧ (∀ b, S b → H b = none ∧ ∃ o, H' b = some o) ∧ S c, fun c hc => ?_, fun H3 h3 => ?_⟩
  · rcases hc with rfl | ⟨i, x, y, S, _, _, hS, hc⟩
    · exact ⟨nb, o, ho⟩
    · exact hS c hc
  · refine .inr ⟨a, b, xs, ys, rfl, rfl, hab H3 (by rw [h3 b (.inl rfl)]; exact ho), l, fun i u v e1 e2 => ?_⟩
    obtain ⟨S, hS, k⟩ := g i u v e1 e2
    exact k H3 fun c hc => h3 c (.inr ⟨i, u, v, S, e1, e2, hS, hc⟩)
theorem new_up {H G G' : Hp} {n : Nat} {x y : V} (k : Same H G) (sh : Shp H n x) (h : New G G' (fun H3 => CpV G n x H3 y)) : New G G' (fun H3 => New H H3 (fun H4 => CpV H n x H4 y)) := by
  obtain ⟨S, hS, g⟩ := h
  refine ⟨S, hS, fun H3 h3 => ⟨S, fun b hb => ?_, fun H4 h4 => ?_⟩⟩
  · obtain ⟨n1, o, ho⟩ := hS b hb
    exact ⟨k.free n1, o, by rw [h3 b hb]; exact ho⟩
  · exact cp_base k sh (g H4 fun b hb => (h4 b hb).trans (h3 b hb))
theorem new_keep {H H' H'' : Hp} {G : Hp → Prop} (h : New H H' G) (k : Same H' H'') : New H H'' G := by
  obtain ⟨S, hS, g⟩ := h
  refine ⟨S, fun b hb => ?_, fun H3 h3 => g H3 fun b hb => ?_⟩
  · obtain ⟨n1, o, ho⟩ := hS b hb
    exact ⟨n1, o, k _ _ ho⟩
  · obtain ⟨_, o, ho⟩ := hS b hb
    rw [h3 b hb, k _ _ ho, ho]
theorem kit_SL {K : PySem.W.Frag} : PySem.W.kitOne K (.type "str") (.type "list") = some false := kit_other (by decide +kernel) (by decide +kernel) (by decide +kernel)
theorem kit_ST {K : PySem.W.Frag} : PySem.W.kitOne K (.type "str") (.type "tuple") = some false := kit_other (by decide +kernel) (by decide +kernel) (by decide +kernel)
theorem kit_TL {K : PySem.W.Frag} : PySem.W.kitOne K (.type "tuple") (.type "list") = some false := kit_other (by decide +kernel) (by decide +kernel) (by decide +kernel)
def spK (n : Nat) : Sp := fun vs H Q _ => ∃ x, vs = [x] ∧ Shp H n x ∧ ∀ y H', Same H H' → New H H' (fun H3 => CpV H n x H3 y) → Q y H'
theorem never_K {P : Program} {w : World} {K : PySem.W.Frag} {mg : Str → Option Value} {base : Heap} {x qual : Str} {st : Stmt} {f : Addr} {fd : FuncData} (_F : Fun K x qual st f fd) : FnOk P w K mg base CX0 0 f fd ["value"] (spK 0) := by
  have no : ∀ vs H Q E, spK 0 vs H Q E → False := fun vs H Q E h => let ⟨_, _, h, _⟩ := h; h
  exact ⟨fun vs H Q E q => (no _ _ _ _ q).elim, fun A outer s H args us vs Q E _ _ _ _ hs => (no _ _ _ _ hs).elim⟩
theorem sc_own_copy : FnScope ["value"] ["value"] (defScope s_own_copy) := ⟨rfl, rfl, rfl, by decide +kernel, rfl, by decide +kernel, by decide +kernel⟩
theorem ok_own_copy {fa cJob cState cReady cStock cPrinter cBadLine cUnknown cTooMuch cBusy cNoPrinter cNoWay cHallError : Addr} {fd : FuncData} (F : Fun K "own_copy" "own_copy" s_own_copy fa fd) (T : Txt K mg cJob cState cReady cStock cPrinter cBadLine cUnknown cTooMuch cBusy cNoPrinter cNoWay cHallError) {m : Nat} (D_own_copy : Dfn P w K mg base m "own_copy" ["value"] (spK m)) :
    FnOk P w K mg base CX0 (m + 1) fa fd ["value"] (spK (m + 1)) := by
  refine F.ok sc_own_copy (fun vs H Q E h => ?_) (fun cdv A outer s H vs Q E hr h => ?_)
  · obtain ⟨x, rfl, _⟩ := h
    rfl
  obtain ⟨x, rfl, sh, q⟩ := h
  refine ⟨_, (pss_cons (ps_if (pt_truth (pe_callB call_isi rfl T.isinstance bt_isi (pa_cons (pv 0) (pa_cons (pe_bltn rfl T.list bt_list (rel_ty _)) pa_nil))) (fun _ => rfl)) (pss_one (ps_ret (pe_comp (frees := []) ⟨by decide +kernel, rfl, rfl, by decide +kernel, trivial, by decide +kernel, cellsFor_at rfl, rfl⟩ rfl (pi_list (pv 0)) (fun _ _ _ _ => pifs_nil) (fun _ _ _ _ => by exact (pe_callD D_own_copy hr rfl (pa_cons (pv 0) pa_nil)))))) pss_nil)
  (pss_cons (ps_if (pt_truth (pe_callB call_isi rfl T.isinstance bt_isi (pa_cons (pv 0) (pa_cons (pe_bltn rfl T.tuple bt_tuple (rel_ty _)) pa_nil))) (fun _ => rfl)) (pss_one (ps_ret (pe_callTy call_tuple_of rfl T.tuple bt_tuple (pa_cons (pe_comp (frees := []) ⟨by decide +kernel, rfl, rfl, by decide +kernel, trivial, by decide +kernel, cellsFor_at rfl, rfl⟩ rfl (pi_tup (pv 0)) (fun _ _ _ _ => pifs_nil) (fun _ _ _ _ => by exact (pe_callD D_own_copy hr rfl (pa_cons (pv 0) pa_nil)))) pa_nil)))) pss_nil)
  (pss_one (ps_ret (pv 0))))), ?_⟩
  rcases sh with ⟨z, rfl⟩ | ⟨a, xs, rfl, ha, lx, g⟩
  · refine ⟨_, rfl, _, _, _, false, rfl, TyOf.str _, kit_SL, false, rfl, ?_⟩
    refine iteF ⟨_, rfl, _, _, _, false, rfl, TyOf.str _, kit_ST, false, rfl, ?_⟩
    exact iteF ⟨_, rfl, q _ _ (Same.refl _) ⟨fun _ => False, fun _ z => z.elim, fun _ _ => .inl ⟨z, rfl, rfl⟩⟩⟩
  rcases ha with ha | ha
  · refine ⟨_, rfl, _, _, _, true, rfl, TyOf.lst ha, kit_same _, true, rfl, ?_⟩
    refine iteT ⟨_, rfl, a, rfl, ⟨_, SqL.of ha⟩, compB_mk (seq_list (K := K) (SqL.of ha)) (fun x y H3 => New H H3 (fun H4 => CpV H m x H4 y)) (small1000 (by omega)) (fun x _ H' R _ rr => rr) (fun x hx G R sG rr => ?_) (fun D H' ys sm nD hD ly gy => ?_)⟩
    · exact ⟨_, rfl, x, rfl, (g x hx).same sG, fun y G' k n => rr y G' k (new_up sG (g x hx) n)⟩
    · exact q _ H' sm (copies_new nD hD ly gy fun H3 h3 => .inl ⟨ha, h3⟩)
  · refine ⟨_, rfl, _, _, _, false, rfl, TyOf.tup ha, kit_TL, false, rfl, ?_⟩
    refine iteF ⟨_, rfl, _, _, _, true, rfl, TyOf.tup ha, kit_same _, true, rfl, ?_⟩
    refine iteT ⟨_, rfl, a, rfl, ⟨_, SqT.of ha⟩, compB_mk (seq_tup (K := K) (SqT.of ha)) (fun x y H3 => New H H3 (fun H4 => CpV H m x H4 y)) (small1000 (by omega)) (fun x _ H' R _ rr => rr) (fun x hx G R sG rr => ?_) (fun D H' ys sm nD hD ly gy => ?_)⟩
    · exact ⟨_, rfl, x, rfl, (g x hx).same sG, fun y G' k n => rr y G' k (new_up sG (g x hx) n)⟩
    · refine ⟨D, _, rfl, .inl ⟨SqL.of hD, fun t nt => ?_⟩⟩
      exact q _ _ (sm.trans (same_new nt _)) (copies_new (sm.free nt) upd_same ly (fun i x y e1 e2 => new_keep (gy i x y e1 e2) (same_new nt _)) fun H3 h3 => .inr ⟨ha, h3⟩)
def sp_nop (C : Addr) : Sp := fun vs H Q _ => ∃ (x : Addr) (j l : V), vs = [.ref x, j, l] ∧ H x = some (XO x C none) ∧ Shp H 4 l ∧ ∀ y H', KeptBut x H H' → XF H' x C [("job", j), ("lacks", y)] → New H H' (fun H3 => CpV H 4 l H3 y) → Q .non H'
theorem new_but {H H1 H2 : Hp} {G : Hp → Prop} {x : Addr} {o : HO} (h : New H H1 G) (hx : H x = some o) (k : ∀ b o, b ≠ x → H1 b = some o → H2 b = some o) : New H H2 G := by
  obtain ⟨S, hS, g⟩ := h
  have k' : ∀ b, S b → ∃ o, H1 b = some o ∧ H2 b = some o := fun b hb => by
    obtain ⟨n1, o, ho⟩ := hS b hb
    exact ⟨o, ho, k b o (fun z => by rw [z, hx] at n1; cases n1) ho⟩
  refine ⟨S, fun b hb => ?_, fun H3 h3 => g H3 fun b hb => ?_⟩
  · obtain ⟨o, _, h2⟩ := k' b hb
    exact ⟨(hS b hb).1, o, h2⟩
  · obtain ⟨o, h1, h2⟩ := k' b hb
    rw [h3 b hb, h1, h2]
theorem sc_NoPrinter_init : FnScope ["self", "job", "lacks", "kept"] ["self", "job", "lacks"] (defScope s_NoPrinter_init) := ⟨rfl, rfl, rfl, by decide +kernel, rfl, by decide +kernel, by decide +kernel⟩
theorem ok_NoPrinter_init {fa cJob cState cReady cStock cPrinter cBadLine cUnknown cTooMuch cBusy cNoPrinter cNoWay cHallError : Addr} {fd : FuncData} (F : Fun K "__init__" "NoPrinter.__init__" s_NoPrinter_init fa fd) (T : Txt K mg cJob cState cReady cStock cPrinter cBadLine cUnknown cTooMuch cBusy cNoPrinter cNoWay cHallError) (D_own_copy : Dfn P w K mg base 4 "own_copy" ["value"] (spK 4)) :
    FnOk P w K mg base CX0 5 fa fd ["self", "job", "lacks"] (sp_nop cNoPrinter) := by
  refine F.ok sc_NoPrinter_init (fun vs H Q E h => ?_) (fun cdv A outer s H vs Q E hr h => ?_)
  · obtain ⟨x, j, l, rfl, _⟩ := h
    rfl
  obtain ⟨x, j, l, rfl, hx, sh, q⟩ := h
  refine ⟨_, (pss_cons (ps_set (i := 3) sc_NoPrinter_init.nd rfl (by first | exact Or.inl rfl | exact Or.inr rfl) (pe_callD D_own_copy (hr.mono (by decide)) rfl (pa_cons (pv 2) pa_nil)))
  (pss_cons (ps_expr (pe_initX T.in_HallError rfl T.mg_HallError (pa_cons (pv 0) (pa_cons (pv 1) (pa_cons (pv 3) pa_nil)))))
  (pss_cons (ps_fldX (pv 0) (pv 1) rfl)
  (pss_one (ps_fldX (pv 0) (pv 3) rfl))))), ?_⟩
  refine ⟨_, rfl, l, rfl, sh, fun y H' sm nw => ?_⟩
  refine ⟨_, rfl, _, rfl, _, rfl, x, _, none, [j, y], rfl, (by simp), sm _ _ hx, T.x_NoPrinter.m, ?_⟩
  refine ⟨_, rfl, _, rfl, .inl ⟨x, _, rfl, sm _ _ hx, T.x_NoPrinter.i.c, T.x_NoPrinter.n _ (.head _), fun dx nd ne => ?_⟩⟩
  refine ⟨_, rfl, _, rfl, .inr ⟨x, _, dx, [("job", j)], rfl, .inl upd_same, (by rw [upd_ne ne, upd_same]), ne, T.x_NoPrinter.i.c, T.x_NoPrinter.n _ (.tail _ (.head _)), (by simp), ?_⟩⟩
  have far : ∀ u o, u ≠ x → H' u = some o → (upd (upd (upd H' dx (XD dx [("job", j)])) x (XO x cNoPrinter (some dx))) dx (XD dx (putF "lacks" y [("job", j)]))) u = some o := fun u o hu e => by
    have hud : u ≠ dx := ne_of_none e nd
    rw [upd_ne hud, upd_ne hu, upd_ne hud]
    exact e
  refine q y _ (fun u o hu e => far u o hu (sm _ _ e)) ⟨dx, ?_, ?_, ne⟩ (new_but nw hx far)
  · rw [upd_ne (Ne.symm ne), upd_same]
  · rw [upd_same, putF_new (by show ¬ ("lacks" : Str) ∈ (["job"] : List Str); decide +kernel)]
    rfl
theorem raise_nop {K : PySem.W.Frag} {C : Addr} {j l : V} {H : Hp} {E : XK} (mk : PySem.W.excMk K C = true) (sh : Shp H 4 l) (h : ∀ ea y H', Same H H' → H ea = none → XG H' ea C [("job", j), ("lacks", y)] → CpV H 4 l H' y → E (.ref C) (some ea) H') :
    ∀ x, H x = none → sp_nop C (.ref x :: [j, l]) (upd H x (XO x C none)) (fun v H2 => v = .non ∧ ∃ ea C' d, V.ref x = .ref ea ∧ H2 ea = some (XO ea C' d) ∧ PySem.W.excMk K C' = true ∧ E (.ref C') (some ea) (upd H2 ea (XC ea C' d))) E0 := by
  intro x nx
  refine ⟨x, j, l, rfl, upd_same, sh.same (same_new nx _), fun y H' kb xf nw => ⟨rfl, ?_⟩⟩
  obtain ⟨dx, e, g⟩ := xf.raised
  refine ⟨x, C, some dx, rfl, e, mk, h x y _ (same_on nx (same_made nx kb) _) nx g ?_⟩
  obtain ⟨S, hS, gg⟩ := nw
  refine cp_base (same_new nx _) sh (gg _ fun b hb => upd_ne fun z => ?_)
  have := (hS b hb).1
  rw [z, upd_same] at this
  cases this

end
end My

namespace My
open PySem L2
open Blk (sg sg_inj sg_app)
section
variable {P : Program} {w : World} {K : PySem.W.Frag} {mg : Str → Option Value} {base : Heap}
/-! ### which printers fit -/
def JobN (cJ : Addr) (H : Hp) (x : Addr) (nm : Str) (p : Str) (cv : Option Str) (one co st : Bool) : Prop := ∃ (dx : Addr) (b c d h j : V) (lay : Str), H x = some (.ins cJ dx (jobF (.str nm) b c d (.str lay) (.str p) (cvV cv) h (.bl st) j)) ∧ decide (lay = Str.ofString "one") = one ∧ decide (h ≠ .non) = co
theorem JobN.job {cJ : Addr} {H : Hp} {x : Addr} {nm p : Str} {cv : Option Str} {one co st : Bool} (J : JobN cJ H x nm p cv one co st) : Job47 cJ H x p cv one co st := let ⟨dx, b, c, d, h, j, lay, e, e1, e2⟩ := J; ⟨dx, .str nm, b, c, d, .non, h, j, lay, e, e1, e2⟩
theorem JobN.same {cJ : Addr} {H H' : Hp} {x : Addr} {nm p : Str} {cv : Option Str} {one co st : Bool} (J : JobN cJ H x nm p cv one co st) (k : Same H H') : JobN cJ H' x nm p cv one co st := let ⟨dx, b, c, d, h, j, lay, e, e1⟩ := J; ⟨dx, b, c, d, h, j, lay, k _ _ e, e1⟩
abbrev Row48 := Str × List Nd
def rowOf (ns : List Nd) (q : Addr × PD × List Str) : Row48 := (q.2.1.name, lackN (q.2.1.rs.map (·.1)) q.2.2 ns)
def fitNames (rows : List Row48) : List Str := (rows.filter fun r => r.2.isEmpty).map (·.1)
/-- a row of the refusal's lacks -/
def RowV (H : Hp) (v : V) (r : Row48) : Prop := ∃ t m, v = .ref t ∧ H t = some (.tup [.str r.1, .ref m]) ∧ H m = some (.lst (r.2.map fun n => V.str n.s))
def RowsV (H : Hp) (y : V) (rows : List Row48) : Prop := ∃ b ys, y = .ref b ∧ H b = some (.lst ys) ∧ ys.length = rows.length ∧ ∀ (i : Nat) v r, ys[i]? = some v → rows[i]? = some r → RowV H v r
theorem RowV.same {H H' : Hp} {v : V} {r : Row48} (h : RowV H v r) (k : Same H H') : RowV H' v r := let ⟨t, m, e, h1, h2⟩ := h; ⟨t, m, e, k _ _ h1, k _ _ h2⟩
theorem RowsV.same {H H' : Hp} {y : V} {rows : List Row48} (h : RowsV H y rows) (k : Same H H') : RowsV H' y rows := let ⟨b, ys, e, h1, l, g⟩ := h; ⟨b, ys, e, k _ _ h1, l, fun i v r ev er => (g i v r ev er).same k⟩
theorem RowsV.shp {H : Hp} {y : V} {rows : List Row48} (h : RowsV H y rows) (l : rows.length ≤ 900) (l2 : ∀ r ∈ rows, r.2.length ≤ 900) : Shp H 4 y := by
  obtain ⟨b, ys, rfl, hb, ly, g⟩ := h
  refine .inr ⟨b, ys, rfl, .inl hb, by omega, fun u hu => ?_⟩
  obtain ⟨i, ei⟩ := List.mem_iff_getElem?.mp hu
  obtain ⟨r, er⟩ : ∃ r, rows[i]? = some r := ⟨_, List.getElem?_eq_getElem (by rw [← ly]; exact (List.getElem?_eq_some_iff.mp ei).1)⟩
  obtain ⟨t, m, rfl, ht, hm⟩ := g i u r ei er
  refine .inr ⟨t, _, rfl, .inr ht, by show 2 ≤ 900; decide, fun w hw => ?_⟩
  rcases List.mem_cons.mp hw with rfl | hw
  · exact .inl ⟨_, rfl⟩
  · rw [List.mem_singleton.mp hw]
    refine .inr ⟨m, _, rfl, .inl hm, by rw [List.length_map]; exact l2 r (List.mem_of_getElem? er), fun x hx => ?_⟩
    obtain ⟨n, _, rfl⟩ := List.mem_map.mp hx
    exact .inl ⟨_, rfl⟩
theorem inj_lst {xs ys : List V} (h : some (HO.lst xs) = some (.lst ys)) : xs = ys := by injection h with h; injection h
theorem inj_tup {xs ys : List V} (h : some (HO.tup xs) = some (.tup ys)) : xs = ys := by injection h with h; injection h
theorem cp_lst {H H3 : Hp} {n : Nat} {a : Addr} {xs : List V} {y : V} (c : CpV H (n + 1) (.ref a) H3 y) (ha : H a = some (.lst xs)) : ∃ b ys, y = .ref b ∧ H3 b = some (.lst ys) ∧ ys.length = xs.length ∧ ∀ (i : Nat) u v, xs[i]? = some u → ys[i]? = some v → CpV H n u H3 v := by
  rcases c with ⟨z, e, _⟩ | ⟨a', b, xs', ys, e, rfl, hab, l, g⟩
  · cases e
  · cases e
    rcases hab with ⟨h1, h2⟩ | ⟨h1, h2⟩
    · rw [ha] at h1
      obtain rfl := inj_lst h1
      exact ⟨b, ys, rfl, h2, l, g⟩
    · rw [ha] at h1
      injection h1 with h1
      cases h1
theorem cp_tup {H H3 : Hp} {n : Nat} {a : Addr} {xs : List V} {y : V} (c : CpV H (n + 1) (.ref a) H3 y) (ha : H a = some (.tup xs)) : ∃ b ys, y = .ref b ∧ H3 b = some (.tup ys) ∧ ys.length = xs.length ∧ ∀ (i : Nat) u v, xs[i]? = some u → ys[i]? = some v → CpV H n u H3 v := by
  rcases c with ⟨z, e, _⟩ | ⟨a', b, xs', ys, e, rfl, hab, l, g⟩
  · cases e
  · cases e
    rcases hab with ⟨h1, h2⟩ | ⟨h1, h2⟩
    · rw [ha] at h1
      injection h1 with h1
      cases h1
    · rw [ha] at h1
      obtain rfl := inj_tup h1
      exact ⟨b, ys, rfl, h2, l, g⟩
theorem cp_str {H H3 : Hp} {n : Nat} {z : Str} {y : V} (c : CpV H (n + 1) (.str z) H3 y) : y = .str z := by
  rcases c with ⟨z', e, rfl⟩ | ⟨a', b, xs', ys, e, _⟩
  · exact e.symm
  · cases e
theorem RowsV.copy {H H3 : Hp} {y y' : V} {rows : List Row48} (h : RowsV H y rows) (c : CpV H 4 y H3 y') : RowsV H3 y' rows := by
  obtain ⟨b, ys, rfl, hb, ly, g⟩ := h
  obtain ⟨b', ys', rfl, hb', l', g'⟩ := cp_lst c hb
  refine ⟨b', ys', rfl, hb', l'.trans ly, fun i v r ev er => ?_⟩
  obtain ⟨u, eu⟩ : ∃ u, ys[i]? = some u := ⟨_, List.getElem?_eq_getElem (by rw [← l']; exact (List.getElem?_eq_some_iff.mp ev).1)⟩
  obtain ⟨t, m, rfl, ht, hm⟩ := g i u r eu er
  obtain ⟨t', ts, rfl, ht', lt, gt⟩ := cp_tup (g' i _ v eu ev) ht
  match ts, lt, gt with
  | [x1, x2], _, gt =>
    obtain rfl := cp_str (gt 0 _ _ rfl rfl)
    obtain ⟨m', ms, rfl, hm', lm, gm⟩ := cp_lst (gt 1 _ _ rfl rfl) hm
    refine ⟨t', m', rfl, ht', ?_⟩
    rw [hm']
    congr 2
    refine List.ext_getElem? fun k => ?_
    cases e1 : (r.2.map fun n => V.str n.s)[k]? with
    | none => exact List.getElem?_eq_none (by have := List.getElem?_eq_none_iff.mp e1; omega)
    | some w =>
      obtain ⟨w', e2⟩ : ∃ w', ms[k]? = some w' := ⟨_, List.getElem?_eq_getElem (by rw [lm]; exact (List.getElem?_eq_some_iff.mp e1).1)⟩
      have := gm k w w' e1 e2
      rw [List.getElem?_map] at e1
      obtain ⟨nn, _, rfl⟩ := Option.map_eq_some_iff.mp e1
      rw [e2, cp_str this]
theorem dI_inj : ∀ {a b : List (Str × Int)}, dI a = dI b → a = b
  | [], [], _ => rfl
  | [], _ :: _, e => nomatch e
  | _ :: _, [], e => nomatch e
  | (k, v) :: a, (k', v') :: b, e => by
    unfold dI at e
    rw [List.map_cons, List.map_cons] at e
    obtain ⟨e1, e2⟩ := List.cons.inj e
    injection e1 with e3 e4
    injection e3 with e3
    injection e4 with e4
    obtain rfl : k = k' := e3
    obtain rfl : v = v' := e4
    rw [dI_inj e2]
theorem strs_inj : ∀ {a b : List Str}, a.map V.str = b.map V.str → a = b
  | [], [], _ => rfl
  | [], _ :: _, e => nomatch e
  | _ :: _, [], e => nomatch e
  | k :: a, k' :: b, e => by
    rw [List.map_cons, List.map_cons] at e
    obtain ⟨e1, e2⟩ := List.cons.inj e
    injection e1 with e1
    rw [e1, strs_inj e2]
theorem Pr47.det {cP cS cR : Addr} {H : Hp} {x : Addr} {d d' : PD} {cs cs' : List Str} (h : Pr47 cP cS cR H x d cs) (h' : Pr47 cP cS cR H x d' cs') : d.name = d'.name ∧ d.rs = d'.rs ∧ cs = cs' := by
  have e := h.P.o
  rw [h'.P.o] at e
  injection e with e
  injection e with _ _ e
  unfold PD.fs at e
  injection e with e1 e
  injection e with e2 e
  injection e with e3 e
  injection e with e4 e
  have n1 : d'.name = d.name := by injection e1 with _ e1; injection e1
  have n2 : d'.cn = d.cn := by injection e2 with _ e2; injection e2
  have n4 : d'.rm = d.rm := by injection e4 with _ e4; injection e4
  have r := h.rm
  have r' := h'.rm
  rw [n4, r] at r'
  have c := h.cn
  have c' := h'.cn
  rw [n2, c] at c'
  refine ⟨n1.symm, dI_inj (by injection r' with r'; injection r'), strs_inj (inj_tup c')⟩
/-- which rows lack nothing, and whose they are -/
def pK (H : Hp) (x : V) : Bool := match x with
  | .ref t => match H t with
    | some (.tup [_, .ref m]) => match H m with
      | some (.lst l) => l.isEmpty
      | _ => false
    | _ => false
  | _ => false
def gK (H : Hp) (x : V) : V := match x with
  | .ref t => match H t with
    | some (.tup (u :: _)) => u
    | _ => .non
  | _ => .non
theorem pK_row {H : Hp} {v : V} {r : Row48} (h : RowV H v r) : pK H v = r.2.isEmpty := by
  obtain ⟨t, m, rfl, ht, hm⟩ := h
  simp only [pK, ht, hm]
  cases r.2 <;> rfl
theorem gK_row {H : Hp} {v : V} {r : Row48} (h : RowV H v r) : gK H v = .str r.1 := by
  obtain ⟨t, m, rfl, ht, hm⟩ := h
  simp only [gK, ht]
theorem fit_rows {H : Hp} : ∀ {ys : List V} {rows : List Row48}, ys.length = rows.length → (∀ (i : Nat) v r, ys[i]? = some v → rows[i]? = some r → RowV H v r) → (ys.filter (pK H)).map (gK H) = (fitNames rows).map V.str
  | [], [], _, _ => rfl
  | [], _ :: _, e, _ => nomatch e
  | _ :: _, [], e, _ => nomatch e
  | v :: ys, r :: rows, e, g => by
    have ih := fit_rows (H := H) (ys := ys) (rows := rows) (Nat.succ.inj e) fun i v r ev er => g (i + 1) v r ev er
    have h := g 0 v r rfl rfl
    have p := pK_row h
    unfold fitNames at ih ⊢
    cases c : r.2.isEmpty with
    | true =>
      rw [List.filter_cons_of_pos (by rw [p]; exact c), List.filter_cons_of_pos (by exact c), List.map_cons, List.map_cons, List.map_cons, ih, gK_row h]
    | false =>
      rw [List.filter_cons_of_neg (by rw [p, c]; decide), List.filter_cons_of_neg (by rw [c]; decide), ih]
def sp_fitting (cN cJ cP cS cR : Addr) : Sp := fun vs H Q E => ∃ (x l : Addr) (nm p : Str) (cv : Option Str) (one co st : Bool) (prs : List (Addr × PD × List Str)), vs = [.ref x, .ref l] ∧ JobN cJ H x nm p cv one co st ∧ p.length ≤ 20 ∧ (∀ c, cv = some c → c.length ≤ 20) ∧ H l = some (.lst (prs.map fun q => .ref q.1)) ∧ prs.length ≤ 900 ∧ (∀ q ∈ prs, Pr47 cP cS cR H q.1 q.2.1 q.2.2) ∧
  (fitNames (prs.map (rowOf (needN p cv one co st))) ≠ [] → ∀ n H', Same H H' → H n = none → H' n = some (.lst ((fitNames (prs.map (rowOf (needN p cv one co st)))).map V.str)) → Q (.ref n) H') ∧
  (fitNames (prs.map (rowOf (needN p cv one co st))) = [] → ∀ ea y H', Same H H' → H ea = none → XG H' ea cN [("job", .str nm), ("lacks", y)] → RowsV H' y (prs.map (rowOf (needN p cv one co st))) → E (.ref cN) (some ea) H')
theorem sc_fitting : FnScope ["job", "printers", "rows", "names"] ["job", "printers"] (defScope s_fitting) := ⟨rfl, rfl, rfl, by decide +kernel, rfl, by decide +kernel, by decide +kernel⟩
theorem ok_fitting {fa cJob cState cReady cStock cPrinter cBadLine cUnknown cTooMuch cBusy cNoPrinter cNoWay cHallError : Addr} {fd : FuncData} (F : Fun K "fitting" "fitting" s_fitting fa fd) (T : Txt K mg cJob cState cReady cStock cPrinter cBadLine cUnknown cTooMuch cBusy cNoPrinter cNoWay cHallError) (X_NoPrinter : MkXD P w K mg base 5 "NoPrinter" cNoPrinter ["self", "job", "lacks"] (sp_nop cNoPrinter)) (D_lacks : Dfn P w K mg base 3 "lacks" ["job", "printer"] (sp_lacks cJob cPrinter cStock cReady)) :
    FnOk P w K mg base (CXe P w) 7 fa fd ["job", "printers"] (sp_fitting cNoPrinter cJob cPrinter cStock cReady) := by
  refine F.okE sc_fitting (fun vs H Q E h => ?_) (fun cdv A outer s H vs Q E hr h => ?_)
  · obtain ⟨x, l, nm, p, cv, one, co, st, prs, rfl, _⟩ := h
    rfl
  obtain ⟨x, l, nm, p, cv, one, co, st, prs, rfl, J, lp, lc, hl, ln, P, q1, q2⟩ := h
  have z2 : 2 ≤ sizeLine := small (by decide)
  refine ⟨_, (pss_cons (ps_comp (i := 2) (frees := [("job", 0)]) ⟨by decide +kernel, rfl, rfl, by decide +kernel, ⟨⟨rfl, rfl, rfl, by decide +kernel⟩, trivial⟩, by decide +kernel, cellsFor_at rfl, rfl⟩ sc_fitting.nd rfl rfl rfl (pi_list (pv 1)) (fun _ _ _ _ => pifs_nil) (fun _ _ _ _ => by exact (pe_tup (pa_cons (pe_fldK (K := K) rfl (pv 0) rfl) (pa_cons (pe_callD D_lacks (hr.mono (by decide)) rfl (pa_cons (pv 1) (pa_cons (pv 0) pa_nil))) pa_nil)))))
  (pss_cons (ps_comp2 (i := 3) (frees := []) ⟨by decide +kernel, rfl, rfl, rfl, by decide +kernel, trivial, by decide +kernel, cellsFor_at rfl, rfl⟩ sc_fitting.nd rfl rfl rfl (pi_list (pv 2)) (fun _ _ _ _ => by exact (pifs_one (pt_not (pt_truthK (K := K) rfl (pv 1) (fun _ => rfl))))) (fun _ _ _ _ => by exact (pv 0)))
  (pss_cons (ps_if (pt_not (pt_truth (pv 3) (fun _ => rfl))) (pss_one (ps_raise raise_def rfl (pe_makeXD X_NoPrinter (hr.mono (by decide)) rfl (pa_cons (pe_fld (pv 0) rfl) (pa_cons (pv 2) pa_nil))))) pss_nil)
  (pss_one (ps_ret (pv 3)))))), ?_⟩
  refine ⟨_, rfl, l, rfl, ⟨_, SqL.of hl⟩, compB_mk (seq_list (K := K) (SqL.of hl)) (fun x y H3 => ∃ q ∈ prs, x = .ref q.1 ∧ RowV H3 y (rowOf (needN p cv one co st) q)) (small1000 (by rw [List.length_map]; omega)) (fun x _ H' R _ rr => rr) (fun v hv G R sG rr => ?_) (fun D H1 ys s1 nD hD ly gy => ?_)⟩
  · obtain ⟨pr, hp, rfl⟩ := List.mem_map.mp hv
    have PG := (P pr hp).same sG
    refine ⟨_, rfl, pr.1, cPrinter, pr.2.1.dx, _, _, rfl, PG.P.o, T.cl_Printer, T.n_Printer_name, rfl, _, rfl, _, rfl, x, pr.1, p, cv, one, co, st, pr.2.1, pr.2.2, rfl, J.job.same sG, lp, lc, PG, fun m G1 k1 nm' hm => ⟨z2, fun t nt => ?_⟩⟩
    have k2 := same_new nt (.tup [V.str pr.2.1.name, V.ref m])
    refine rr _ _ (k1.trans k2) ⟨fun b => b = t ∨ b = m, fun b hb => ?_, fun H3 h3 => ⟨pr, hp, rfl, t, m, rfl, ?_, ?_⟩⟩
    · rcases hb with rfl | rfl
      · exact ⟨k1.free nt, _, upd_same⟩
      · exact ⟨nm', _, k2 _ _ hm⟩
    · rw [h3 t (.inl rfl), upd_same]
      rfl
    · rw [h3 m (.inr rfl), k2 _ _ hm]
      rfl
  have RV : RowsV H1 (.ref D) (prs.map (rowOf (needN p cv one co st))) := by
    refine ⟨D, ys, rfl, hD, by rw [ly, List.length_map, List.length_map], fun i v r ev er => ?_⟩
    rw [List.getElem?_map] at er
    obtain ⟨pr, ep, rfl⟩ := Option.map_eq_some_iff.mp er
    obtain ⟨pr', hp', e, h⟩ := gy i (.ref pr.1) v (by rw [List.getElem?_map, ep]; rfl) ev
    injection e with e
    obtain ⟨d1, d2, d3⟩ := (P pr (List.mem_of_getElem? ep)).det (by rw [e]; exact P pr' hp')
    have : rowOf (needN p cv one co st) pr = rowOf (needN p cv one co st) pr' := by
      unfold rowOf
      rw [d1, d2, d3]
    rw [this]
    exact h
  obtain ⟨D', ys', eD, hD', lr, gr⟩ := id RV
  cases eD
  rw [hD] at hD'
  obtain rfl := inj_lst hD'
  refine ⟨_, rfl, D, rfl, ⟨_, SqL.of hD⟩, compB2_seq (seq_list (K := K) (SqL.of hD)) (pK H1) (gK H1) (small1000 (by rw [ly, List.length_map]; omega)) (fun v hv => ?_) (fun N H2 s2 nN hN => ?_)⟩
  · obtain ⟨i, ei⟩ := List.mem_iff_getElem?.mp hv
    obtain ⟨r, er⟩ : ∃ r, (prs.map (rowOf (needN p cv one co st)))[i]? = some r := ⟨_, List.getElem?_eq_getElem (by rw [← lr]; exact (List.getElem?_eq_some_iff.mp ei).1)⟩
    have h := gr i v r ei er
    obtain ⟨t, m, rfl, ht, hm⟩ := id h
    refine ⟨t, _, _, rfl, ht, fun H' R k rr => ?_, fun H' R k pp rr => ?_⟩
    · rw [pK_row h] at rr
      refine ⟨_, rfl, _, .inl ⟨_, SqL.of (k _ _ hm), rfl⟩, ?_⟩
      show R (!(!(r.2.map fun n => V.str n.s).isEmpty)) H'
      rw [Bool.not_not, List.isEmpty_map]
      exact rr
    · rw [gK_row h] at rr
      exact ⟨_, rfl, rr⟩
  rw [fit_rows lr gr] at hN
  refine ⟨_, rfl, _, .inl ⟨_, SqL.of hN, rfl⟩, ?_⟩
  have s12 := s1.trans s2
  obtain ⟨dx, b, c, d, h, j, lay, hx, e1, e2⟩ := id J
  cases fnl : fitNames (prs.map (rowOf (needN p cv one co st))) with
  | nil =>
    have RV2 := RV.same s2
    have sh := RV2.shp (by rw [List.length_map]; exact ln) fun r hr => by
      obtain ⟨q, _, rfl⟩ := List.mem_map.mp hr
      have := List.length_filter_le (fun n : Nd => !n.ok (q.2.1.rs.map (·.1)) q.2.2) (needN p cv one co st)
      have := (len_needN (one := one) (co := co) (st := st) lp lc).1
      show (lackN _ _ _).length ≤ 900
      unfold lackN
      omega
    refine iteT ⟨_, rfl, x, cJob, dx, _, _, rfl, s12 _ _ hx, T.cl_Job, T.n_Job_name, rfl, _, rfl, raise_nop T.x_NoPrinter.m sh fun ea y H' sm nea g cp => ?_⟩
    exact q2 fnl ea y H' (s12.trans sm) (s12.free nea) g (RV2.copy cp)
  | cons a r =>
    exact iteF ⟨_, rfl, q1 (by rw [fnl]; exact fun z => nomatch z) N H2 s12 (s1.free nN) hN⟩

end
end My

namespace My
open PySem L2
open Blk (sg sg_inj sg_app)
section
variable {P : Program} {w : World} {K : PySem.W.Frag} {mg : Str → Option Value} {base : Heap}
def sp__law_cell_at (K : PySem.W.Frag) : Sp := fun vs H Q _ => ∃ (a : Addr) (k : Int) (ns : List Int), vs = [.ref a, .int k] ∧ SqL K H a (ns.map V.int) ∧ 0 ≤ k ∧ Q (.int (ns.getD k.toNat 0)) H
theorem sc__law_cell_at : FnScope ["_law_script", "_law_k"] ["_law_script", "_law_k"] (defScope s__law_cell_at) := ⟨rfl, rfl, rfl, by decide +kernel, rfl, by decide +kernel, by decide +kernel⟩
theorem ok__law_cell_at {fa cJob cState cReady cStock cPrinter cBadLine cUnknown cTooMuch cBusy cNoPrinter cNoWay cHallError : Addr} {fd : FuncData} (F : Fun K "_law_cell_at" "_law_cell_at" s__law_cell_at fa fd) (T : Txt K mg cJob cState cReady cStock cPrinter cBadLine cUnknown cTooMuch cBusy cNoPrinter cNoWay cHallError)  :
    FnOk P w K mg base CX0 1 fa fd ["_law_script", "_law_k"] (sp__law_cell_at K) := by
  refine F.ok sc__law_cell_at (fun vs H Q E h => ?_) (fun cdv A outer s H vs Q E hr h => ?_)
  · obtain ⟨a, k, ns, rfl, _⟩ := h
    rfl
  obtain ⟨a, k, ns, rfl, hS, k0, q⟩ := h
  refine ⟨_, (pss_cons (ps_if (pt_cmpR op_lt (pv 1) (pe_callB call_len_seq rfl T.len PySem.boot_len (pa_cons (pv 0) pa_nil)) (nomark _)) (pss_one (ps_ret (pe_ix ix_listA (pv 0) (pv 1) (fun _ _ => rfl)))) pss_nil)
  (pss_one (ps_ret pe_int))), ?_⟩
  refine ⟨_, rfl, _, rfl, a, _, rfl, .inl hS, _, _, rfl, rfl, _, rfl, ?_⟩
  refine ite2 (fun c => ?_) (fun c => ?_)
  · refine ⟨_, rfl, _, rfl, a, _, _, rfl, rfl, hS, k0, of_decide_eq_true c, fun v hv => ?_⟩
    rw [List.getElem?_map] at hv
    obtain ⟨z, ez, rfl⟩ := Option.map_eq_some_iff.mp hv
    rw [List.getD_eq_getElem?_getD, ez] at q
    exact q
  · have c' : ¬ k < ((ns.map V.int).length : Int) := fun z => c (decide_eq_true z)
    rw [List.length_map] at c'
    rw [List.getD_eq_getElem?_getD, List.getElem?_eq_none (by omega)] at q
    exact q
def mixV (c k m : Int) : Int := ((c % 1000003 + 1) * (k * k + 48271)) % (([65537, 64007, 62003] : List Int).getD (k % 3).toNat 1) % m
theorem mix_lo {c k m : Int} (h : 0 < m) : 0 ≤ mixV c k m := Int.emod_nonneg _ (by omega)
theorem mix_hi {c k m : Int} (h : 0 < m) : mixV c k m < m := Int.emod_lt_of_pos _ h
def sp__law_mix (K : PySem.W.Frag) : Sp := fun vs H Q _ => ∃ c k m : Int, vs = [.int c, .int k, .int m] ∧ 0 ≤ k ∧ k ≤ 10000 ∧ 0 < m ∧ ∀ H', Same H H' → Q (.int (mixV c k m)) H'
theorem sc__law_mix : FnScope ["_law_cell", "_law_k", "_law_many"] ["_law_cell", "_law_k", "_law_many"] (defScope s__law_mix) := ⟨rfl, rfl, rfl, by decide +kernel, rfl, by decide +kernel, by decide +kernel⟩
theorem ok__law_mix {fa cJob cState cReady cStock cPrinter cBadLine cUnknown cTooMuch cBusy cNoPrinter cNoWay cHallError : Addr} {fd : FuncData} (F : Fun K "_law_mix" "_law_mix" s__law_mix fa fd) (T : Txt K mg cJob cState cReady cStock cPrinter cBadLine cUnknown cTooMuch cBusy cNoPrinter cNoWay cHallError)  :
    FnOk P w K mg base CX0 1 fa fd ["_law_cell", "_law_k", "_law_many"] (sp__law_mix K) := by
  refine F.ok sc__law_mix (fun vs H Q E h => ?_) (fun cdv A outer s H vs Q E hr h => ?_)
  · obtain ⟨c, k, m, rfl, _⟩ := h
    rfl
  obtain ⟨c, k, m, rfl, k0, k1, m0, q⟩ := h
  have z3 : 3 ≤ sizeLine := small (by decide)
  refine ⟨_, (pss_one (ps_ret (pe_op op_mod (pe_op op_mod (pe_op op_mul (pe_op op_add (pe_op op_mod (pv 0) pe_int) pe_int) (pe_op op_add (pe_op op_mul (pv 1) (pv 1)) pe_int)) (pe_ix ix_listA (pe_lst (pa_cons pe_int (pa_cons pe_int (pa_cons pe_int pa_nil)))) (pe_op op_mod (pv 1) pe_int) (fun _ _ => rfl))) (pv 2)))), ?_⟩
  have b0 := Int.emod_nonneg c (show (1000003 : Int) ≠ 0 by decide)
  have b1 := Int.emod_lt_of_pos c (show (0 : Int) < 1000003 by decide)
  have d0 := Int.emod_nonneg k (show (3 : Int) ≠ 0 by decide)
  have d1 := Int.emod_lt_of_pos k (show (0 : Int) < 3 by decide)
  refine ⟨_, rfl, _, _, rfl, rfl, (by show (0 : Int) < 1000003; decide), _, _, rfl, rfl, _, rfl, _, rfl, _, _, rfl, rfl, .inr ⟨by omega, by omega⟩, _, _, rfl, rfl, _, _, rfl, rfl, .inl ⟨by omega, by omega⟩, z3, fun p np => ?_⟩
  have s1 := same_new np (.lst [V.int 65537, V.int 64007, V.int 62003])
  have h1 : upd H p (.lst [V.int 65537, V.int 64007, V.int 62003]) p = some (.lst (([65537, 64007, 62003] : List Int).map V.int)) := upd_same
  generalize upd H p (.lst [V.int 65537, V.int 64007, V.int 62003]) = H1 at s1 h1 ⊢
  refine ⟨_, rfl, _, _, rfl, rfl, (by show (0 : Int) < 3; decide), p, _, _, rfl, rfl, SqL.of h1, d0, (by show k % 3 < 3; exact d1), fun v hv => ?_⟩
  rw [List.getElem?_map] at hv
  obtain ⟨d, ed, rfl⟩ := Option.map_eq_some_iff.mp hv
  have hd : 0 < d := by
    have hm := List.mem_of_getElem? ed
    simp only [List.mem_cons, List.not_mem_nil, or_false] at hm
    rcases hm with rfl | rfl | rfl <;> decide
  have eg : ([65537, 64007, 62003] : List Int).getD (k % 3).toNat 1 = d := by rw [List.getD_eq_getElem?_getD, ed]; rfl
  refine ⟨_, _, rfl, rfl, hd, _, rfl, _, _, rfl, rfl, m0, ?_⟩
  have := q H1 s1
  unfold mixV at this
  rw [eg] at this
  exact this
abbrev abc : Str := Str.ofString "abcdefghijklmnopqrstuvwxyz"
def ltr5 (j : Nat) : Nat := abc.cps.toList.getD j 0
def stp (c t : Int) (k : Nat) : Int := c / 12 + (k : Int) * (k : Int) + (if (k : Int) = c / 144 % (1 + c % 12) then t else 0)
def wordL (c t : Int) (n : Nat) : List Nat := (List.range n).map fun k => ltr5 (stp c t k % 26).toNat
def wordP (c t : Int) (n : Nat) : Str := ⟨(wordL c t n).toArray⟩
theorem word_step {c t : Int} {i : Nat} {S : Int} {ch : Nat} (e : S = stp c t i) (h : abc.cps.toList[(S % 26).toNat]? = some ch) : wordP c t i ++ (⟨#[ch]⟩ : Str) = wordP c t (i + 1) := by
  refine Blk.sg_inj ?_
  rw [Blk.sg_app]
  show wordL c t i ++ [ch] = wordL c t (i + 1)
  unfold wordL
  rw [List.range_succ, List.map_append]
  have : ltr5 (stp c t i % 26).toNat = ch := by
    unfold ltr5
    rw [List.getD_eq_getElem?_getD, ← e, h]
    rfl
  rw [List.map_cons, List.map_nil, this]
theorem word_len {c t : Int} {n : Nat} : (wordP c t n).length = n := by
  show (wordL c t n).toArray.size = n
  unfold wordL
  rw [List.size_toArray, List.length_map, List.length_range]
def wSize (c : Int) : Nat := (1 + c % 12).toNat
theorem ltr5_inj : ∀ a b : Nat, a < 26 → b < 26 → ltr5 a = ltr5 b → a = b := by
  have h : ∀ a : Fin 26, ∀ b : Fin 26, ltr5 a.1 = ltr5 b.1 → a = b := by decide +kernel
  intro a b ha hb e
  exact congrArg Fin.val (h ⟨a, ha⟩ ⟨b, hb⟩ e)
theorem word_ne {c t u : Int} (t0 : 0 ≤ t) (t1 : t < 26) (u0 : 0 ≤ u) (u1 : u < 26) (e : wordP c t (wSize c) = wordP c u (wSize c)) : t = u := by
  have m0 := Int.emod_nonneg c (show (12 : Int) ≠ 0 by decide)
  have m1 := Int.emod_lt_of_pos c (show (0 : Int) < 12 by decide)
  have ez : ((wSize c : Nat) : Int) = 1 + c % 12 := by unfold wSize; omega
  have e2 : wordL c t (wSize c) = wordL c u (wSize c) := congrArg Blk.sg e
  have p0 := Int.emod_nonneg (c / 144) (show (1 + c % 12 : Int) ≠ 0 by omega)
  have p1 := Int.emod_lt_of_pos (c / 144) (show (0 : Int) < 1 + c % 12 by omega)
  obtain ⟨p, hp⟩ : ∃ p : Nat, (p : Int) = c / 144 % (1 + c % 12) := ⟨(c / 144 % (1 + c % 12)).toNat, by omega⟩
  have hk : p < wSize c := by omega
  have e3 : (wordL c t (wSize c))[p]? = (wordL c u (wSize c))[p]? := by rw [e2]
  unfold wordL at e3
  rw [List.getElem?_map, List.getElem?_map, List.getElem?_range hk] at e3
  have e4 := Option.some.inj e3
  have a0 := Int.emod_nonneg (stp c t p) (show (26 : Int) ≠ 0 by decide)
  have a1 := Int.emod_lt_of_pos (stp c t p) (show (0 : Int) < 26 by decide)
  have b0 := Int.emod_nonneg (stp c u p) (show (26 : Int) ≠ 0 by decide)
  have b1 := Int.emod_lt_of_pos (stp c u p) (show (0 : Int) < 26 by decide)
  have h1 := ltr5_inj _ _ (by omega) (by omega) e4
  have h2 : stp c t p % 26 = stp c u p % 26 := by omega
  unfold stp at h2
  rw [if_pos hp, if_pos hp] at h2
  generalize c / 12 + (p : Int) * (p : Int) = X at h2
  omega
def sp__law_word (K : PySem.W.Frag) : Sp := fun vs H Q _ => ∃ c t : Int, vs = [.int c, .int t] ∧ Q (.str (wordP c t (wSize c))) H
theorem sc__law_word : FnScope ["_law_cell", "_law_turn", "_law_letters", "_law_size", "_law_word_here", "_law_k", "_law_step"] ["_law_cell", "_law_turn"] (defScope s__law_word) := ⟨rfl, rfl, rfl, by decide +kernel, rfl, by decide +kernel, by decide +kernel⟩
theorem ok__law_word {fa cJob cState cReady cStock cPrinter cBadLine cUnknown cTooMuch cBusy cNoPrinter cNoWay cHallError : Addr} {fd : FuncData} (F : Fun K "_law_word" "_law_word" s__law_word fa fd) (T : Txt K mg cJob cState cReady cStock cPrinter cBadLine cUnknown cTooMuch cBusy cNoPrinter cNoWay cHallError)  :
    FnOk P w K mg base CX0 1 fa fd ["_law_cell", "_law_turn"] (sp__law_word K) := by
  refine F.ok sc__law_word (fun vs H Q E h => ?_) (fun cdv A outer s H vs Q E hr h => ?_)
  · obtain ⟨c, t, rfl, _⟩ := h
    rfl
  obtain ⟨c, t, rfl, q⟩ := h
  refine ⟨_, (pss_cons (ps_set (i := 2) sc__law_word.nd rfl (by first | exact Or.inl rfl | exact Or.inr rfl) pe_str)
  (pss_cons (ps_set (i := 3) sc__law_word.nd rfl (by first | exact Or.inl rfl | exact Or.inr rfl) (pe_op op_add pe_int (pe_op op_mod (pv 0) pe_int)))
  (pss_cons (ps_set (i := 4) sc__law_word.nd rfl (by first | exact Or.inl rfl | exact Or.inr rfl) pe_str)
  (pss_cons (ps_for PassesOwn.never rfl (pi_range1 rfl T.range (pa_cons (pv 3) pa_nil)) (pg_name (i := 5) sc__law_word.nd rfl (by first | exact Or.inl rfl | exact Or.inr rfl))
  (pss_cons (ps_set (i := 6) sc__law_word.nd rfl (by first | exact Or.inl rfl | exact Or.inr rfl) (pe_op op_add (pe_op op_fdiv (pv 0) pe_int) (pe_op op_mul (pv 5) (pv 5))))
  (pss_cons (ps_if (pt_cmpR op_eq (pv 5) (pe_op op_mod (pe_op op_fdiv (pv 0) pe_int) (pv 3)) (nomark _)) (pss_one (ps_set (i := 6) sc__law_word.nd rfl (by first | exact Or.inl rfl | exact Or.inr rfl) (pe_op op_add (pv 6) (pv 1)))) pss_nil)
  (pss_one (ps_set (i := 4) sc__law_word.nd rfl (by first | exact Or.inl rfl | exact Or.inr rfl) (pe_op op_add_str (pv 4) (pe_ix ix_strA (pv 2) (pe_op op_mod (pv 6) pe_int) (fun _ _ => rfl))))))))
  (pss_one (ps_ret (pv 4))))))), ?_⟩
  have m0 := Int.emod_nonneg c (show (12 : Int) ≠ 0 by decide)
  have m1 := Int.emod_lt_of_pos c (show (0 : Int) < 12 by decide)
  have l26 : abc.length = 26 := by decide +kernel
  refine ⟨_, rfl, _, _, rfl, rfl, (by show (0 : Int) < 12; decide), _, _, rfl, rfl, ?_⟩
  refine ⟨_, rfl, _, rfl, by omega, by omega, for_range (lo := 0) (n := (1 + c % 12).toNat) (fun i σ H' => H' = H ∧ ∃ (v5 v6 : Option V), σ = [some (.int c), some (.int t), some (.str abc), some (.int (1 + c % 12)), some (.str (wordP c t i)), v5, v6]) ⟨rfl, _, _, rfl⟩ (fun i σ H' hi z => ?_) (fun σ H' z => ?_)⟩
  · obtain ⟨rfl, v5, v6, rfl⟩ := z
    rw [Int.zero_add]
    refine ⟨_, rfl, _, _, rfl, rfl, ⟨by decide, by decide⟩, _, rfl, _, rfl, _, _, rfl, rfl, .inl ⟨by omega, by omega⟩, _, _, rfl, rfl, ?_⟩
    refine ⟨_, rfl, _, rfl, _, _, rfl, rfl, ⟨by decide, by decide⟩, _, rfl, _, _, rfl, rfl, (by show (0 : Int) < 1 + c % 12; omega), rfl, _, rfl, ?_⟩
    have one : ∀ ch : Nat, (⟨#[ch]⟩ : Str).length = 1 := fun _ => rfl
    have un : ∀ {a b : Int}, decide (V.int a = V.int b) = true → a = b := fun h => by
      have := of_decide_eq_true h
      injection this
    have nu : ∀ {a b : Int}, ¬ decide (V.int a = V.int b) = true → ¬ a = b := fun h e => h (decide_eq_true (by rw [e]))
    refine ite2 (fun c1 => ⟨_, rfl, _, rfl, _, _, rfl, rfl, ?_⟩) (fun c1 => ?_)
    all_goals
      refine ⟨_, rfl, _, rfl, _, rfl, _, _, rfl, rfl, (by show (0 : Int) < 26; decide), _, _, rfl, rfl, (by rw [l26]; exact small (by decide)), Int.emod_nonneg _ (by decide), (by rw [l26]; exact Int.emod_lt_of_pos _ (by decide)), fun ch hch => ?_⟩
      refine ⟨_, _, rfl, rfl, (by rw [one, word_len]; exact small (by omega)), ?_⟩
    · rw [word_step (i := i) (by unfold stp; rw [if_pos (un c1)]) hch]
      exact ⟨rfl, _, _, rfl⟩
    · rw [word_step (i := i) (by unfold stp; rw [if_neg (nu c1), Int.add_zero]) hch]
      exact ⟨rfl, _, _, rfl⟩
  · obtain ⟨rfl, v5, v6, rfl⟩ := z
    exact ⟨_, rfl, q⟩

end
end My

namespace My
open PySem L2
open Blk (sg sg_inj sg_app)
section
variable {P : Program} {w : World} {K : PySem.W.Frag} {mg : Str → Option Value} {base : Heap}
theorem slice_to (x : Str) (n : Nat) : sg (Txt.slice x none (some ((n : Nat) : Int))) = (sg x).take n := by
  have h := PyProof.Rows.slice_to_min_closes (x := x) (n := ((n : Nat) : Int)) (m := if ((x.length : Nat) : Int) < ((n : Nat) : Int) then ((x.length : Nat) : Int) else ((n : Nat) : Int)) (by omega) rfl
  have e := eq_of_beq h
  rw [e]
  show ((sg x).drop (Int.toNat 0)).take _ = _
  rw [show Int.toNat 0 = 0 from rfl, List.drop_zero]
  by_cases c : ((x.length : Nat) : Int) < ((n : Nat) : Int)
  · rw [if_pos c, List.take_of_length_le (by rw [sg_len]; omega), List.take_of_length_le (by rw [sg_len]; omega)]
  · rw [if_neg c]
    congr 1
theorem str47 {ys : List Str} {j : Nat} {v : V} (h : (ys.map V.str)[j]? = some v) : ∃ o, v = .str o ∧ o ∈ ys := by
  rw [List.getElem?_map] at h
  obtain ⟨o, e, rfl⟩ := Option.map_eq_some_iff.mp h
  exact ⟨o, rfl, List.mem_of_getElem? e⟩
theorem sl6 (n : Nd) : (match n with | .pap k => Txt.slice n.s none (some 6) = cPap ∧ Txt.slice n.s (some 6) none = k | .cov k => Txt.slice n.s none (some 6) = cCov ∧ Txt.slice n.s (some 6) none = k | _ => Txt.slice n.s none (some 6) ≠ cPap ∧ Txt.slice n.s none (some 6) ≠ cCov) := by
  have a : ∀ (c : Str), c.length = 6 → ∀ k : Str, Txt.slice (c ++ k) none (some 6) = c := fun c hc k => sg_inj (by
    rw [show Txt.slice (c ++ k) none (some 6) = Txt.slice (c ++ k) none (some ((6 : Nat) : Int)) from rfl, slice_to, sg_app, List.take_append_of_le_length (by rw [sg_len]; omega), List.take_of_length_le (by rw [sg_len]; omega)])
  cases n with
  | pap k => exact ⟨a cPap (by decide +kernel) k, slice_pre cPap k⟩
  | cov k => exact ⟨a cCov (by decide +kernel) k, slice_pre cCov k⟩
  | bo => exact ⟨by decide +kernel, by decide +kernel⟩
  | co => exact ⟨by decide +kernel, by decide +kernel⟩
  | st => exact ⟨by decide +kernel, by decide +kernel⟩
def sp__law_lacking (K : PySem.W.Frag) : Sp := fun vs H Q _ => ∃ (da ca ta : Addr) (ns : List Nd) (cs ts : List Str), vs = [.ref da, .ref ca, .ref ta] ∧ H da = some (.lst (ns.map fun n => V.str n.s)) ∧ H ca = some (.lst (cs.map V.str)) ∧ H ta = some (.lst (ts.map V.str)) ∧ ns.length ≤ 5 ∧ (∀ n ∈ ns, n.s.length ≤ 100) ∧ ∀ l H', Same H H' → H l = none → H' l = some (.lst ((lackN ts cs ns).map fun n => V.str n.s)) → Q (.ref l) H'
theorem sc__law_lacking : FnScope ["_law_due", "_law_can", "_law_trays", "_law_told", "_law_need"] ["_law_due", "_law_can", "_law_trays"] (defScope s__law_lacking) := ⟨rfl, rfl, rfl, by decide +kernel, rfl, by decide +kernel, by decide +kernel⟩
theorem ok__law_lacking {fa cJob cState cReady cStock cPrinter cBadLine cUnknown cTooMuch cBusy cNoPrinter cNoWay cHallError : Addr} {fd : FuncData} (F : Fun K "_law_lacking" "_law_lacking" s__law_lacking fa fd) (T : Txt K mg cJob cState cReady cStock cPrinter cBadLine cUnknown cTooMuch cBusy cNoPrinter cNoWay cHallError)  :
    FnOk P w K mg base CX0 1 fa fd ["_law_due", "_law_can", "_law_trays"] (sp__law_lacking K) := by
  refine F.ok sc__law_lacking (fun vs H Q E h => ?_) (fun cdv A outer s H vs Q E hr h => ?_)
  · obtain ⟨da, ca, ta, ns, cs, ts, rfl, _⟩ := h
    rfl
  obtain ⟨da, ca, ta, ns, cs, ts, rfl, hda, hca, hta, l5, l100, q⟩ := h
  have z2 : 2 ≤ sizeLine := small (by decide)
  refine ⟨_, (pss_cons (ps_set (i := 3) sc__law_lacking.nd rfl (by first | exact Or.inl rfl | exact Or.inr rfl) (pe_lst pa_nil))
  (pss_cons (ps_for PassesOwn.never rfl (pi_list (pv 0)) (pg_name (i := 4) sc__law_lacking.nd rfl (by first | exact Or.inl rfl | exact Or.inr rfl))
  (pss_one (ps_if (pt_cmpR op_in_seq (pe_slice sl_str (pv 4) po_none (po_some pe_int)) (pe_lst (pa_cons pe_str (pa_cons pe_str pa_nil))) rfl) (pss_one (ps_if (pt_cmpR op_notIn_seq (pe_slice sl_str (pv 4) (po_some pe_int) po_none) (pv 2) rfl) (pss_one (ps_expr (pe_bm PySem.F.plainAttrs_list PySem.F.slot_list_append PySem.F.type_list_append mt_append (pv 3) (pa_cons (pv 4) pa_nil)))) pss_nil)) (pss_one (ps_if (pt_cmpR op_notIn_seq (pv 4) (pv 1) rfl) (pss_one (ps_expr (pe_bm PySem.F.plainAttrs_list PySem.F.slot_list_append PySem.F.type_list_append mt_append (pv 3) (pa_cons (pv 4) pa_nil)))) pss_nil)))))
  (pss_one (ps_ret (pv 3))))), ?_⟩
  refine ⟨Nat.zero_le _, fun l nl => ?_⟩
  have s1 := same_new nl (.lst [])
  have h1 : upd H l (.lst []) l = some (.lst ((lackN ts cs []).map fun n => V.str n.s)) := upd_same
  generalize upd H l (.lst []) = H1 at s1 h1 ⊢
  refine ⟨_, rfl, da, rfl, ⟨_, SqL.of (s1 _ _ hda)⟩, ?_⟩
  refine for_list (K := K) (a := da) (xs := ns.map fun n => V.str n.s) (fun i σ H' => (∃ v4, σ = [some (.ref da), some (.ref ca), some (.ref ta), some (.ref l), v4]) ∧ Same H H' ∧ H' l = some (.lst ((lackN ts cs (ns.take i)).map fun n => V.str n.s))) ⟨⟨_, rfl⟩, s1, h1⟩ (fun i σ H' _ z => SqL.of (z.2.1 _ _ hda)) (fun i y σ H' hy z => ?_) (fun σ H' z => ?_)
  · obtain ⟨⟨v4, rfl⟩, sm, hl⟩ := z
    rw [List.getElem?_map] at hy
    obtain ⟨n, en, rfl⟩ := Option.map_eq_some_iff.mp hy
    have ln := l100 n (List.mem_of_getElem? en)
    have lz : n.s.length ≤ sizeLine := small (by omega)
    have lk : (((lackN ts cs (ns.take i)).map fun n => V.str n.s).length) < sizeLine := small1000 (by
      rw [List.length_map]
      have := List.length_filter_le (fun n : Nd => !n.ok ts cs) (ns.take i)
      rw [List.length_take] at this
      unfold lackN
      omega)
    have yes : n.ok ts cs = true → lackN ts cs (ns.take (i + 1)) = lackN ts cs (ns.take i) := fun h => by
      unfold lackN
      rw [List.take_add_one, en, List.filter_append, show (some n).toList = [n] from rfl, List.filter_cons_of_neg (by rw [h]; decide), List.filter_nil, List.append_nil]
    have no : n.ok ts cs = false → ((lackN ts cs (ns.take i)).map fun n => V.str n.s) ++ [V.str n.s] = (lackN ts cs (ns.take (i + 1))).map fun n => V.str n.s := fun h => by
      unfold lackN
      rw [List.take_add_one, en, List.filter_append, show (some n).toList = [n] from rfl, List.filter_cons_of_pos (by rw [h]; rfl), List.filter_nil, List.map_append]
      rfl
    refine ⟨_, rfl, _, rfl, _, rfl, lz, z2, fun p np => ?_⟩
    have s2 := same_new np (.lst [V.str cPap, V.str cCov])
    have h2 : upd H' p (.lst [V.str cPap, V.str cCov]) p = some (.lst (([cPap, cCov] : List Str).map V.str)) := upd_same
    generalize upd H' p (.lst [V.str cPap, V.str cCov]) = H2 at s2 h2 ⊢
    have sm2 := sm.trans s2
    have hl2 := s2 _ _ hl
    refine ⟨p, _, rfl, .inl (SqL.of h2), rfl, flat47 _, _, rfl, ?_⟩
    rw [if_neg (by decide), in_strs]
    have s6 := sl6 n
    cases n with
    | pap k =>
      rw [decide_eq_true (by rw [s6.1]; exact List.mem_cons_self)]
      refine iteT ⟨_, rfl, _, rfl, _, rfl, lz, _, rfl, ta, _, rfl, .inl (SqL.of (sm2 _ _ hta)), rfl, flat47 _, _, rfl, ?_⟩
      rw [if_pos rfl, s6.2, in_strs]
      by_cases ck : k ∈ ts
      · rw [decide_eq_true ck]
        exact iteF ⟨⟨_, rfl⟩, sm2, by rw [yes (decide_eq_true ck)]; exact hl2⟩
      · rw [decide_eq_false ck]
        refine iteT ⟨_, rfl, .inl ⟨rfl, _, SqL.of hl2⟩, _, rfl, l, _, _, rfl, rfl, hl2, lk, ?_⟩
        rw [no (decide_eq_false ck)]
        exact ⟨⟨_, rfl⟩, same_on nl sm2 _, upd_same⟩
    | cov k =>
      rw [decide_eq_true (by rw [s6.1]; exact List.mem_cons_of_mem _ List.mem_cons_self)]
      refine iteT ⟨_, rfl, _, rfl, _, rfl, lz, _, rfl, ta, _, rfl, .inl (SqL.of (sm2 _ _ hta)), rfl, flat47 _, _, rfl, ?_⟩
      rw [if_pos rfl, s6.2, in_strs]
      by_cases ck : k ∈ ts
      · rw [decide_eq_true ck]
        exact iteF ⟨⟨_, rfl⟩, sm2, by rw [yes (decide_eq_true ck)]; exact hl2⟩
      · rw [decide_eq_false ck]
        refine iteT ⟨_, rfl, .inl ⟨rfl, _, SqL.of hl2⟩, _, rfl, l, _, _, rfl, rfl, hl2, lk, ?_⟩
        rw [no (decide_eq_false ck)]
        exact ⟨⟨_, rfl⟩, same_on nl sm2 _, upd_same⟩
    | bo =>
      rw [decide_eq_false fun z => by rcases List.mem_cons.mp z with z | z; exact s6.1 z; exact s6.2 (List.mem_singleton.mp z)]
      refine iteF ⟨_, rfl, _, rfl, ca, _, rfl, .inl (SqL.of (sm2 _ _ hca)), rfl, flat47 _, _, rfl, ?_⟩
      rw [if_pos rfl, in_strs]
      by_cases ck : (Nd.bo).s ∈ cs
      · rw [decide_eq_true ck]
        exact iteF ⟨⟨_, rfl⟩, sm2, by rw [yes (decide_eq_true ck)]; exact hl2⟩
      · rw [decide_eq_false ck]
        refine iteT ⟨_, rfl, .inl ⟨rfl, _, SqL.of hl2⟩, _, rfl, l, _, _, rfl, rfl, hl2, lk, ?_⟩
        rw [no (decide_eq_false ck)]
        exact ⟨⟨_, rfl⟩, same_on nl sm2 _, upd_same⟩
    | co =>
      rw [decide_eq_false fun z => by rcases List.mem_cons.mp z with z | z; exact s6.1 z; exact s6.2 (List.mem_singleton.mp z)]
      refine iteF ⟨_, rfl, _, rfl, ca, _, rfl, .inl (SqL.of (sm2 _ _ hca)), rfl, flat47 _, _, rfl, ?_⟩
      rw [if_pos rfl, in_strs]
      by_cases ck : (Nd.co).s ∈ cs
      · rw [decide_eq_true ck]
        exact iteF ⟨⟨_, rfl⟩, sm2, by rw [yes (decide_eq_true ck)]; exact hl2⟩
      · rw [decide_eq_false ck]
        refine iteT ⟨_, rfl, .inl ⟨rfl, _, SqL.of hl2⟩, _, rfl, l, _, _, rfl, rfl, hl2, lk, ?_⟩
        rw [no (decide_eq_false ck)]
        exact ⟨⟨_, rfl⟩, same_on nl sm2 _, upd_same⟩
    | st =>
      rw [decide_eq_false fun z => by rcases List.mem_cons.mp z with z | z; exact s6.1 z; exact s6.2 (List.mem_singleton.mp z)]
      refine iteF ⟨_, rfl, _, rfl, ca, _, rfl, .inl (SqL.of (sm2 _ _ hca)), rfl, flat47 _, _, rfl, ?_⟩
      rw [if_pos rfl, in_strs]
      by_cases ck : (Nd.st).s ∈ cs
      · rw [decide_eq_true ck]
        exact iteF ⟨⟨_, rfl⟩, sm2, by rw [yes (decide_eq_true ck)]; exact hl2⟩
      · rw [decide_eq_false ck]
        refine iteT ⟨_, rfl, .inl ⟨rfl, _, SqL.of hl2⟩, _, rfl, l, _, _, rfl, rfl, hl2, lk, ?_⟩
        rw [no (decide_eq_false ck)]
        exact ⟨⟨_, rfl⟩, same_on nl sm2 _, upd_same⟩
  · obtain ⟨⟨v4, rfl⟩, sm, hl⟩ := z
    rw [List.length_map, List.take_length] at hl
    exact ⟨_, rfl, q l H' sm nl hl⟩
theorem nd_map47 {f : Nat → Str} : ∀ {l : List Nat}, l.Nodup → (∀ a ∈ l, ∀ b ∈ l, f a = f b → a = b) → (l.map f).Nodup
  | [], _, _ => List.nodup_nil
  | x :: l, nd, h => by
    obtain ⟨n1, n2⟩ := List.nodup_cons.mp nd
    refine List.nodup_cons.mpr ⟨fun z => ?_, nd_map47 n2 fun a ha b hb => h a (List.mem_cons_of_mem _ ha) b (List.mem_cons_of_mem _ hb)⟩
    obtain ⟨y, hy, e⟩ := List.mem_map.mp z
    exact n1 (h y (List.mem_cons_of_mem _ hy) x List.mem_cons_self e ▸ hy)
theorem put47 {am : List (Str × Int)} {n : Str} {v : Int} (h : ¬ n ∈ am.map (·.1)) : putK (dI am) (Sum.inr n : Key) (.int v) = dI (am ++ [(n, v)]) := by
  rw [putK_fresh (by
    intro z
    obtain ⟨p, hp, e⟩ := List.mem_map.mp z
    obtain ⟨x, hx, rfl⟩ := List.mem_map.mp hp
    exact h (List.mem_map.mpr ⟨x, hx, by injection e⟩))]
  unfold dI
  rw [List.map_append]
  rfl
theorem look47 {R : Int} : ∀ {ts : List Str} {z : Str}, z ∈ ts → (ts.map fun z => (z, R)).lookup z = some R
  | [], _, h => by cases h
  | t :: ts, z, h => by
    rw [List.map_cons, List.lookup_cons]
    by_cases c : z = t
    · rw [c, beq_self_eq_true]
    · rw [beq_eq_false_iff_ne.mpr c]
      rcases List.mem_cons.mp h with e | e
      · exact absurd e c
      · exact look47 e
theorem flatN (l : List Nd) : (l.map fun n => V.str n.s).all flatV = true := by
  rw [List.all_map]
  exact List.all_eq_true.mpr fun x _ => rfl
theorem pick47 {zs : List Str} (nd : zs.Nodup) : ∀ (xs ys : List V), xs.Nodup → ys.length = xs.length → (∀ (i : Nat) x y, xs[i]? = some x → ys[i]? = some y → ∃ j : Nat, x = .int (0 + (j : Int)) ∧ (zs.map V.str)[j]? = some y) → ∃ ts : List Str, ys = ts.map V.str ∧ ts.Nodup ∧ (∀ z ∈ ts, z ∈ zs) ∧ ∀ z ∈ ts, ∃ j : Nat, V.int (0 + (j : Int)) ∈ xs ∧ zs[j]? = some z
  | [], [], _, _, _ => ⟨[], rfl, List.nodup_nil, fun z h => absurd h List.not_mem_nil, fun z h => absurd h List.not_mem_nil⟩
  | [], _ :: _, _, e, _ => nomatch e
  | _ :: _, [], _, e, _ => nomatch e
  | x :: xs, y :: ys, n, e, h => by
    obtain ⟨n1, n2⟩ := List.nodup_cons.mp n
    obtain ⟨ts, h1, h2, h3, h4⟩ := pick47 nd xs ys n2 (Nat.succ.inj e) fun i x y ex ey => h (i + 1) x y ex ey
    obtain ⟨j, rfl, ej⟩ := h 0 x y rfl rfl
    rw [List.getElem?_map] at ej
    obtain ⟨o, eo, rfl⟩ := Option.map_eq_some_iff.mp ej
    refine ⟨o :: ts, by rw [List.map_cons, h1], List.nodup_cons.mpr ⟨fun z => ?_, h2⟩, fun z hz => ?_, fun z hz => ?_⟩
    · obtain ⟨j', a1, a2⟩ := h4 o z
      have hj := (List.getElem?_eq_some_iff.mp eo).1
      have := (List.getElem?_inj hj nd).mp (eo.trans a2.symm)
      rw [← this] at a1
      exact n1 a1
    · rcases List.mem_cons.mp hz with z | z
      · rw [z]; exact List.mem_of_getElem? eo
      · exact h3 _ z
    · rcases List.mem_cons.mp hz with z | z
      · rw [z]; exact ⟨j, List.mem_cons_self, eo⟩
      · obtain ⟨j', a1, a2⟩ := h4 _ z
        exact ⟨j', List.mem_cons_of_mem _ a1, a2⟩
theorem strs47 : ∀ (ys : List V), (∀ y ∈ ys, ∃ o, y = .str o) → ∃ cs : List Str, ys = cs.map V.str
  | [], _ => ⟨[], rfl⟩
  | y :: ys, h => by
    obtain ⟨o, rfl⟩ := h y List.mem_cons_self
    obtain ⟨cs, rfl⟩ := strs47 ys fun y hy => h y (List.mem_cons_of_mem _ hy)
    exact ⟨o :: cs, rfl⟩
/-! ### what the law's job asks -/
abbrev boW : Str := Str.ofString "both"
abbrev clW : Str := Str.ofString "colour"
abbrev stW : Str := Str.ofString "staple"
def three48 : List Str := [boW, clW, stW]
def need48 (p : Str) (cv : Option Str) (ws : List Str) : List Nd := needN p cv (!decide (boW ∈ ws)) (decide (clW ∈ ws)) (decide (stW ∈ ws))
theorem filt3 (b1 b2 b3 : Bool) (f : V → Bool) (h1 : f (.str boW) = b1) (h2 : f (.str clW) = b2) (h3 : f (.str stW) = b3) : ([V.str boW, V.str clW, V.str stW].filter f).map (fun v => v) = ((if (!b1) = true then [] else [Nd.bo]) ++ (if b2 = true then [Nd.co] else []) ++ (if b3 = true then [Nd.st] else [])).map fun n => V.str n.s := by
  simp only [List.filter_cons, List.filter_nil, h1, h2, h3]
  cases b1 <;> cases b2 <;> cases b3 <;> rfl
def WQ (K : PySem.W.Frag) : TS := fun D σ H => ∃ (t l wl : Addr) (p : Str) (cv : Option Str), σ = [some (.ref t), some (.ref l)] ∧ H t = some (.tup [.str p, cvV cv, .ref wl]) ∧ (∀ c, cv = some c → c.length ≤ 20) ∧ H l = some (.lst [V.str (Nd.pap p).s]) ∧ ∀ H', (∀ b o, b ≠ l → H b = some o → H' b = some o) → H' l = some (.lst (([Nd.pap p] ++ (match cv with | some c => [Nd.cov c] | none => [])).map fun n => V.str n.s)) → D.nx [some (.ref t), some (.ref l)] H'
def sp__law_needs (K : PySem.W.Frag) : Sp := fun vs H Q _ => ∃ (t wl : Addr) (p : Str) (cv : Option Str) (ws : List Str), vs = [.ref t] ∧ H t = some (.tup [.str p, cvV cv, .ref wl]) ∧ H wl = some (.lst (ws.map V.str)) ∧ p.length ≤ 20 ∧ (∀ c, cv = some c → c.length ≤ 20) ∧ ∀ l H', Same H H' → H l = none → H' l = some (.lst ((need48 p cv ws).map fun n => V.str n.s)) → Q (.ref l) H'
theorem sc__law_needs : FnScope ["_law_job", "_law_due"] ["_law_job"] (defScope s__law_needs) := ⟨rfl, rfl, rfl, by decide +kernel, rfl, by decide +kernel, by decide +kernel⟩
theorem ok__law_needs {fa cJob cState cReady cStock cPrinter cBadLine cUnknown cTooMuch cBusy cNoPrinter cNoWay cHallError : Addr} {fd : FuncData} (F : Fun K "_law_needs" "_law_needs" s__law_needs fa fd) (T : Txt K mg cJob cState cReady cStock cPrinter cBadLine cUnknown cTooMuch cBusy cNoPrinter cNoWay cHallError)  :
    FnOk P w K mg base CX0 1 fa fd ["_law_job"] (sp__law_needs K) := by
  refine F.ok sc__law_needs (fun vs H Q E h => ?_) (fun cdv A outer s H vs Q E hr h => ?_)
  · obtain ⟨t, wl, p, cv, ws, rfl, _⟩ := h
    rfl
  obtain ⟨t, wl, p, cv, ws, rfl, ht, hw, lp, lc, q⟩ := h
  have z1 : 1 ≤ sizeLine := small (by decide)
  have z3 : 3 ≤ sizeLine := small (by decide)
  refine ⟨_, (pss_cons (ps_set (i := 1) sc__law_needs.nd rfl (by first | exact Or.inl rfl | exact Or.inr rfl) (pe_lst (pa_cons (pe_op op_add_str pe_str (pe_ix ix_tup (pv 0) pe_int (fun _ _ => rfl))) pa_nil)))
  (pss_cons (PS.weak (t' := WQ K) (ps_if (pt_cmpR op_notN (pe_ix ix_tup (pv 0) pe_int (fun _ _ => rfl)) pe_non (nomark _)) (pss_one (ps_expr (pe_bm PySem.F.plainAttrs_list PySem.F.slot_list_append PySem.F.type_list_append mt_append (pv 1) (pa_cons (pe_op op_add_str pe_str (pe_ix ix_tup (pv 0) pe_int (fun _ _ => rfl))) pa_nil)))) pss_nil) ?w1)
  (pss_one (ps_ret (pe_op op_cat (pv 1) (pe_comp (frees := [("_law_job", 0)]) ⟨by decide +kernel, rfl, rfl, by decide +kernel, ⟨⟨rfl, rfl, rfl, by decide +kernel⟩, trivial⟩, by decide +kernel, cellsFor_at rfl, rfl⟩ rfl (pi_list (pe_lst (pa_cons pe_str (pa_cons pe_str (pa_cons pe_str pa_nil))))) (fun _ _ _ _ => by exact (pifs_one (pt_cmpR (op_in_seqK (K := K) rfl) (pv 0) (pe_ixK (K := K) (r := rIxT) rfl ix_tup (pv 1) pe_int (fun _ _ => rfl)) rfl))) (fun _ _ _ _ => by exact (pv 0)))))))), ?_⟩
  case w1 =>
    rintro D σ H ⟨t, l, wl, p, cv, rfl, ht, lc, hl, q⟩
    refine ⟨_, rfl, t, _, 1, _, rfl, rfl, SqT.of ht, rfl, rfl, _, rfl, ?_⟩
    cases cv with
    | none => exact iteNS rfl (q H (fun b o _ e => e) hl)
    | some c =>
      have hc := lc c rfl
      have l6 : (Str.ofString "cover:").length = 6 := by decide +kernel
      exact iteNN (by intro z; cases z) ⟨_, rfl, .inl ⟨rfl, _, SqL.of hl⟩, _, rfl, t, _, 1, _, rfl, rfl, SqT.of ht, rfl, _, _, rfl, rfl, small (by omega), l, _, _, rfl, rfl, hl, small1000 (by show 1 ≤ 1000; decide), q _ (fun b o nb e => by rw [upd_ne nb]; exact e) (by rw [upd_same]; rfl)⟩
  have l6 : (Str.ofString "paper:").length = 6 := by decide +kernel
  refine ⟨_, rfl, t, _, 0, _, rfl, rfl, SqT.of ht, rfl, _, _, rfl, rfl, small (by omega), z1, fun l nl => ?_⟩
  have s1 := same_new nl (.lst [V.str (Nd.pap p).s])
  refine ⟨t, l, wl, p, cv, rfl, s1 _ _ ht, lc, upd_same, fun H2 k2 hl2 => ?_⟩
  have s2 : Same H H2 := fun b o e => k2 b o (ne_of_none e nl) (s1 _ _ e)
  refine ⟨_, rfl, z3, fun w3 n3 => ?_⟩
  have s3 := same_new n3 (.lst [V.str boW, V.str clW, V.str stW])
  have h3 : upd H2 w3 (.lst [V.str boW, V.str clW, V.str stW]) w3 = some (.lst [V.str boW, V.str clW, V.str stW]) := upd_same
  generalize upd H2 w3 (.lst [V.str boW, V.str clW, V.str stW]) = H3 at s3 h3 ⊢
  refine ⟨w3, rfl, ⟨_, SqL.of h3⟩, ?_⟩
  refine compB_seq (seq_list (K := K) (SqL.of h3)) (fun v => match v with | .str z => decide (z ∈ ws) | _ => false) (fun v => v) (small1000 (by show 3 ≤ 1000; decide)) (fun v hv H' R sm rr => ?_) (fun v hv H' R sm _ rr => ⟨_, rfl, rr⟩) (fun D H4 s4 nD hD => ?_)
  · obtain ⟨z, rfl⟩ : ∃ z, v = V.str z := by
      simp only [List.mem_cons, List.not_mem_nil, or_false] at hv
      rcases hv with rfl | rfl | rfl <;> exact ⟨_, rfl⟩
    have k := s2.trans (s3.trans sm)
    refine ⟨_, rfl, _, rfl, t, _, 2, _, rfl, rfl, SqT.of (k _ _ ht), rfl, wl, _, rfl, .inl (SqL.of (k _ _ hw)), rfl, flat47 _, _, rfl, ?_⟩
    rw [if_neg (by decide), in_strs]
    exact rr
  · have hl4 := (s3.trans s4) _ _ hl2
    rw [filt3 (decide (boW ∈ ws)) (decide (clW ∈ ws)) (decide (stW ∈ ws)) _ rfl rfl rfl] at hD
    refine ⟨l, D, _, _, rfl, rfl, hl4, hD, ?_, fun r nr => ?_⟩
    · rw [List.length_map, List.length_map]
      have := (len_needN (one := !decide (boW ∈ ws)) (co := decide (clW ∈ ws)) (st := decide (stW ∈ ws)) lp lc).1
      unfold needN at this
      simp only [List.length_append] at this ⊢
      have h1 : (match cv with | some c => [Nd.cov c] | none => []).length ≤ 1 := by
        cases cv with
        | none => exact Nat.zero_le _
        | some c => exact Nat.le_refl _
      refine small ?_
      generalize (match cv with | some c => [Nd.cov c] | none => []).length = y at h1
      omega
    · have k := s2.trans (s3.trans s4)
      refine q r _ (k.trans (same_new nr _)) (k.free nr) ?_
      rw [upd_same, ← List.map_append]
      unfold need48 needN
      cases cv <;> simp only [List.append_assoc]

end
end My

namespace My
open PySem L2
open Blk (sg sg_inj sg_app)
section
variable {P : Program} {w : World} {K : PySem.W.Frag} {mg : Str → Option Value} {base : Heap}
/-! ### a printer of the law -/
theorem head_at {ts : List Str} {z : Str} (h : ts[0]? = some z) : atI (ts.map V.str) 0 = some (V.str z) := by
  cases ts with
  | nil => cases h
  | cons t r =>
    obtain rfl := Option.some.inj h
    have e : ixN ((t :: r).map V.str).length 0 = some 0 := ixN_nat (j := 0) (by rw [List.length_map]; exact Nat.zero_lt_succ _)
    unfold atI
    rw [e]
    rfl
theorem look_eq48 {n : Str} {v : Int} : ∀ {am : List (Str × Int)}, n ∈ am.map (·.1) → (setA am n v).lookup n = some v
  | [], h => by cases h
  | (k, u) :: r, h => by
    show List.lookup n ((if k = n then (k, v) else (k, u)) :: setA r n v) = _
    by_cases c : k = n
    · rw [if_pos c, List.lookup_cons, beq_iff_eq.mpr c.symm]
    · rw [if_neg c, List.lookup_cons, beq_eq_false_iff_ne.mpr (Ne.symm c)]
      rcases List.mem_cons.mp h with e | e
      · exact absurd e.symm c
      · exact look_eq48 e
def sp__law_printer (cP cS cR : Addr) : Sp := fun vs H Q _ => ∃ (nm : Str) (ca ta : Addr) (cs ts : List Str) (z0 : Str), vs = [.str nm, .ref ca, .ref ta] ∧ H ca = some (.lst (cs.map V.str)) ∧ H ta = some (.lst (ts.map V.str)) ∧ ts.Nodup ∧ ts[0]? = some z0 ∧ ts.length ≤ 6 ∧ ∀ x d H', Same H H' → H x = none → Pr47 cP cS cR H' x d cs → d.name = nm → d.rs.map (·.1) = ts → d.am.lookup z0 = some 7 → H d.ins = none → Q (.ref x) H'
theorem sc__law_printer : FnScope ["_law_name", "_law_can", "_law_trays", "_law_rooms", "_law_kind", "_law_printer_here"] ["_law_name", "_law_can", "_law_trays"] (defScope s__law_printer) := ⟨rfl, rfl, rfl, by decide +kernel, rfl, by decide +kernel, by decide +kernel⟩
theorem ok__law_printer {fa cJob cState cReady cStock cPrinter cBadLine cUnknown cTooMuch cBusy cNoPrinter cNoWay cHallError : Addr} {fd : FuncData} (F : Fun K "_law_printer" "_law_printer" s__law_printer fa fd) (T : Txt K mg cJob cState cReady cStock cPrinter cBadLine cUnknown cTooMuch cBusy cNoPrinter cNoWay cHallError) (M_Printer : MkD P w K mg base 4 "Printer" cPrinter ["self", "name", "can", "path", "papers", "black", "colour"] (sp_Pr_init cPrinter cStock cReady)) (D_Printer_load : MtE P w K mg base 7 "load" cPrinter ["self", "kind", "many"] (sp_Pr_load cPrinter cStock cReady)) :
    FnOk P w K mg base CX0 8 fa fd ["_law_name", "_law_can", "_law_trays"] (sp__law_printer cPrinter cStock cReady) := by
  refine F.ok sc__law_printer (fun vs H Q E h => ?_) (fun cdv A outer s H vs Q E hr h => ?_)
  · obtain ⟨nm, ca, ta, cs, ts, z0, rfl, _⟩ := h
    rfl
  obtain ⟨nm, ca, ta, cs, ts, z0, rfl, hca, hta, ndt, h0, lt, q⟩ := h
  have hu := hu_n hr 0 (by decide)
  refine ⟨_, (pss_cons (ps_set (i := 3) sc__law_printer.nd rfl (by first | exact Or.inl rfl | exact Or.inr rfl) pe_dnewK)
  (pss_cons (ps_for PassesOwn.never rfl (pi_list (pv 2)) (pg_name (i := 4) sc__law_printer.nd rfl (by first | exact Or.inl rfl | exact Or.inr rfl))
  (pss_one (ps_dput hu (pv 3) (pv 4) pe_int rfl)))
  (pss_cons (ps_set (i := 5) sc__law_printer.nd rfl (by first | exact Or.inl rfl | exact Or.inr rfl) (pe_makeD M_Printer (hr.mono (by decide)) rfl (pa_cons (pv 0) (pa_cons (pe_callTy call_list_of rfl T.list bt_list (pa_cons (pv 1) pa_nil)) (pa_cons pe_int (pa_cons (pv 3) (pa_cons pe_int (pa_cons pe_int pa_nil))))))))
  (pss_cons (ps_expr (pe_methE 7 passE0 (hr.mono (by decide)) (pv 5) (pa_cons (pe_ix ix_list (pv 2) pe_int (fun _ _ => rfl)) (pa_cons pe_int pa_nil))))
  (pss_one (ps_ret (pv 5))))))), ?_⟩
  refine fun rp nrp => ?_
  have k3 := same_new nrp (.dK [])
  have hrp3 : upd H rp (.dK []) rp = some (.dK (dI [])) := upd_same
  generalize upd H rp (.dK []) = G3 at k3 hrp3 ⊢
  refine ⟨_, rfl, ta, rfl, ⟨_, SqL.of (k3 _ _ hta)⟩, ?_⟩
  refine for_list (K := K) (a := ta) (xs := ts.map V.str) (fun j σ H' => ∃ (v4 v5 : Option V), σ = [some (.str nm), some (.ref ca), some (.ref ta), some (.ref rp), v4, v5] ∧ Same H H' ∧ H' rp = some (.dK (dI ((ts.take j).map fun z => (z, 40))))) ⟨_, _, rfl, k3, hrp3⟩ (fun j σ H' _ z => ?_) (fun j y σ H' hy z => ?_) (fun σ G4 zz => ?_)
  · obtain ⟨_, _, _, k, _⟩ := z
    exact SqL.of (k _ _ hta)
  · obtain ⟨v4, v5, rfl, k, hr3⟩ := z
    rw [List.getElem?_map] at hy
    obtain ⟨z, ez, rfl⟩ := Option.map_eq_some_iff.mp hy
    have hj := (List.getElem?_eq_some_iff.mp ez).1
    have nz : ¬ z ∈ ((ts.take j).map fun z => (z, (40 : Int))).map (·.1) := by
      rw [List.map_map]
      intro m
      obtain ⟨w', hw, e⟩ := List.mem_map.mp m
      obtain rfl : w' = z := e
      obtain ⟨j', hj'⟩ := List.mem_iff_getElem?.mp hw
      have hj2 := (List.getElem?_eq_some_iff.mp hj').1
      rw [List.length_take] at hj2
      rw [List.getElem?_take_of_lt (by omega)] at hj'
      have := (List.getElem?_inj (by omega) ndt).mp (hj'.trans ez.symm)
      omega
    refine ⟨_, rfl, _, rfl, rp, _, rfl, DPut.k (k := Sum.inr z) hr3 (small1000 (by unfold dI; rw [List.length_map, List.length_map, List.length_take]; omega)), ?_⟩
    refine ⟨_, _, rfl, same_on nrp k _, ?_⟩
    rw [upd_same]
    refine congrArg (fun l => some (HO.dK l)) ?_
    rw [List.take_add_one, ez, List.map_append]
    exact put47 nz
  obtain ⟨v4, v5, rfl, k4, hrp⟩ := zz
  rw [List.length_map, List.take_length] at hrp
  have hta4 := k4 _ _ hta
  refine ⟨_, rfl, _, rfl, ca, _, rfl, .inl (SqL.of (k4 _ _ hca)), fun cl ncl => ?_⟩
  have k7 := same_new ncl (.lst (cs.map V.str))
  have hcl : upd G4 cl (.lst (cs.map V.str)) cl = some (.lst (cs.map V.str)) := upd_same
  generalize upd G4 cl (.lst (cs.map V.str)) = G7 at k7 hcl ⊢
  refine ⟨_, rfl, ?_⟩
  refine fun px dx' npx ndx' nxd' => ?_
  have ki : ∀ b o, G7 b = some o → b ≠ px ∧ upd (upd G7 dx' (.own px)) px (.ins cPrinter dx' []) b = some o := fun b o e => by
    have b1 : b ≠ px := ne_of_none e npx
    exact ⟨b1, by rw [upd_ne b1, upd_ne (ne_of_none e ndx')]; exact e⟩
  have fk : ∀ b, upd (upd G7 dx' (.own px)) px (.ins cPrinter dx' []) b = none → G7 b = none := fun b nb => by
    cases e : G7 b with
    | none => rfl
    | some o => rw [(ki b o e).2] at nb; cases nb
  have ers0 : (ts.map fun z => (z, (40 : Int))).map (·.1) = ts := by
    rw [List.map_map]
    exact List.map_id' _
  refine ⟨px, dx', cl, rp, _, _, _, _, _, ts.map fun z => (z, 40), rfl, upd_same, (ki _ _ hcl).2, (ki _ _ (k7 _ _ hrp)).2, by rw [ers0]; exact ndt, by rw [List.length_map]; omega, fun d G8 kp8 P8 enm ep ers eam erb erc eb ec etg n1 n2 n3 n4 n5 hcn hrm nrm => ⟨rfl, ?_⟩⟩
  have k8 : Same G7 G8 := fun b o e => kp8 b o (ki b o e).1 (ki b o e).2
  have Pr8 : Pr47 cPrinter cStock cReady G8 px d cs := ⟨P8, hcn, by rw [ers]; exact hrm, nrm⟩
  have et : d.rs.map (·.1) = ts := by rw [ers, ers0]
  have s8 : Same H G8 := k4.trans (k7.trans k8)
  have hta8 := k8 _ _ (k7 _ _ hta4)
  have l0 : d.am.lookup z0 = some 0 := by
    rw [eam, List.map_map]
    exact look47 (List.mem_of_getElem? h0)
  have r0 : d.rs.lookup z0 = some 40 := by
    rw [ers]
    exact look47 (List.mem_of_getElem? h0)
  refine ⟨_, rfl, px, _, d.dx, _, _, _, rfl, P8.o, rfl, T.cl_Printer, D_Printer_load, _, rfl, ta, _, 0, _, rfl, rfl, SqL.of hta8, head_at h0, px, d, z0, 7, 40, 0, rfl, P8, r0, l0, by decide, fun H9 k9 P9 => ?_⟩
  have h2 := fk _ n2
  have nt2 : H d.tr2 = none := (k4.trans k7).free h2
  have s9 : Same H H9 := fun b o e => k9 b o (fun z => by rw [z, nt2] at e; cases e) (s8 _ _ e)
  refine ⟨_, rfl, q px _ H9 s9 ((k4.trans k7).free npx) ⟨P9, ?_, ?_, Pr8.ne⟩ enm et ?_ ((k4.trans k7).free (fk _ n5))⟩
  · exact k9 _ _ (ne_of Pr8.cn P8.T.2.2.1 (by intro z; cases z)) Pr8.cn
  · exact k9 _ _ Pr8.ne Pr8.rm
  · show (setA d.am z0 (0 + 7)).lookup z0 = some 7
    exact look_eq48 (look_some l0)

end
end My

namespace My
open PySem L2
open Blk (sg sg_inj sg_app)
section
variable {P : Program} {w : World} {K : PySem.W.Frag} {mg : Str → Option Value} {base : Heap}
/-! ### the shapes of the law's printers -/
abbrev Sh48 := Addr × Addr × Addr × List Str × List Str
structure ShapesAt (H : Hp) (l : Addr) (sh : List Sh48) : Prop where
  l : H l = some (.lst (sh.map fun s => .ref s.1))
  t : ∀ s ∈ sh, H s.1 = some (.tup [.ref s.2.1, .ref s.2.2.1])
  c : ∀ s ∈ sh, H s.2.1 = some (.lst (s.2.2.2.1.map V.str))
  y : ∀ s ∈ sh, H s.2.2.1 = some (.lst (s.2.2.2.2.map V.str))
def ShOk (s : Sh48) : Prop := s.2.2.2.2.Nodup ∧ s.2.2.2.2.length ≤ 6 ∧ s.2.2.2.2 ≠ []
theorem ShapesAt.same {H H' : Hp} {l : Addr} {sh : List Sh48} (h : ShapesAt H l sh) (k : Same H H') : ShapesAt H' l sh := ⟨k _ _ h.l, fun s hs => k _ _ (h.t s hs), fun s hs => k _ _ (h.c s hs), fun s hs => k _ _ (h.y s hs)⟩
theorem ShapesAt.add {H : Hp} {l t c y : Addr} {sh : List Sh48} {cs ts : List Str} (h : ShapesAt H l sh) (ht : H t = some (.tup [.ref c, .ref y])) (hc : H c = some (.lst (cs.map V.str))) (hy : H y = some (.lst (ts.map V.str))) (nc : c ≠ l) (ny : y ≠ l) (off : ∀ s ∈ sh, s.2.1 ≠ l ∧ s.2.2.1 ≠ l) : ShapesAt (upd H l (.lst ((sh.map fun s => V.ref s.1) ++ [.ref t]))) l (sh ++ [(t, c, y, cs, ts)]) := by
  have nt : t ≠ l := ne_of ht h.l (by intro z; cases z)
  refine ⟨by rw [upd_same, List.map_append]; rfl, fun s hs => ?_, fun s hs => ?_, fun s hs => ?_⟩
  · rcases List.mem_append.mp hs with m | m
    · rw [upd_ne (ne_of (h.t s m) h.l (by intro z; cases z))]; exact h.t s m
    · rw [List.mem_singleton.mp m, upd_ne nt]; exact ht
  · rcases List.mem_append.mp hs with m | m
    · rw [upd_ne (off s m).1]; exact h.c s m
    · rw [List.mem_singleton.mp m, upd_ne nc]; exact hc
  · rcases List.mem_append.mp hs with m | m
    · rw [upd_ne (off s m).2]; exact h.y s m
    · rw [List.mem_singleton.mp m, upd_ne ny]; exact hy
theorem ints48 {xs : List Int} {j : Nat} {v : V} (h : (xs.map V.int)[j]? = some v) : ∃ z, v = V.int z := by
  rw [List.getElem?_map] at h
  obtain ⟨z, _, rfl⟩ := Option.map_eq_some_iff.mp h
  exact ⟨z, rfl⟩
theorem sub_strs {ks : List Str} : ∀ {zs ys : List V}, List.Sublist zs (ks.map V.str) → ys.length = zs.length → (∀ (i : Nat) x y, zs[i]? = some x → ys[i]? = some y → y = x) → ks.Nodup → ∃ ts : List Str, ys = ts.map V.str ∧ ts.Nodup ∧ ts.length ≤ ks.length := by
  intro zs ys hs hl hg nd
  obtain rfl : ys = zs := List.ext_getElem? fun i => by
    cases e : zs[i]? with
    | none => exact List.getElem?_eq_none (by have := List.getElem?_eq_none_iff.mp e; omega)
    | some x =>
      obtain ⟨y, ey⟩ : ∃ y, ys[i]? = some y := ⟨_, List.getElem?_eq_getElem (by rw [hl]; exact (List.getElem?_eq_some_iff.mp e).1)⟩
      rw [ey, hg i x y e ey]
  obtain ⟨ts, h1, rfl⟩ := List.sublist_map_iff.mp hs
  exact ⟨ts, rfl, nd.sublist h1, h1.length_le⟩
def WS (K : PySem.W.Frag) (b : Bool) : TS := fun D σ H => ∃ (a ka jt l sa ca ta : Addr) (wh : Int) (k : Nat) (ns ns2 : List Int) (ks ts : List Str) (p : Str) (u v : V), σ = [some (.ref a), some (.ref ka), some (.ref jt), some (.ref l), some (.ref sa), some (.int wh), some (.int (k : Int)), some (.ref ca), some (.ref ta)] ∧ SqL K H a (ns.map V.int) ∧ H ka = some (.lst (ks.map V.str)) ∧ ks.length = 3 ∧ ks.Nodup ∧ H jt = some (.tup [.str p, u, v]) ∧ H sa = some (.lst (ns2.map V.int)) ∧ k < ns2.length ∧ k ≤ 60 ∧ H ta = some (.lst (ts.map V.str)) ∧ ts.Nodup ∧ ts.length ≤ 3 ∧ ∀ ta' ts' H', Same H H' → H' ta' = some (.lst (ts'.map V.str)) → (ta' = ta ∨ H ta' = none) → ts'.Nodup → ts'.length ≤ 3 → (b = true → ts' ≠ []) → D.nx [some (.ref a), some (.ref ka), some (.ref jt), some (.ref l), some (.ref sa), some (.int wh), some (.int (k : Int)), some (.ref ca), some (.ref ta')] H'
def sp__law_shapes (K : PySem.W.Frag) : Sp := fun vs H Q _ => ∃ (a ka jt : Addr) (ns : List Int) (ks : List Str) (p : Str) (u v : V), vs = [.ref a, .ref ka, .ref jt] ∧ SqL K H a (ns.map V.int) ∧ ns.length ≤ 63 ∧ H ka = some (.lst (ks.map V.str)) ∧ ks.length = 3 ∧ ks.Nodup ∧ H jt = some (.tup [.str p, u, v]) ∧ ∀ l sh H', Same H H' → H l = none → ShapesAt H' l sh → (∀ s ∈ sh, ShOk s) → sh.length ≤ 8 → Q (.ref l) H'
theorem sc__law_shapes : FnScope ["_law_script", "_law_kinds", "_law_job", "_law_shapes_here", "_law_some", "_law_whole", "_law_k", "_law_can", "_law_trays"] ["_law_script", "_law_kinds", "_law_job"] (defScope s__law_shapes) := ⟨rfl, rfl, rfl, by decide +kernel, rfl, by decide +kernel, by decide +kernel⟩
theorem ok__law_shapes {fa cJob cState cReady cStock cPrinter cBadLine cUnknown cTooMuch cBusy cNoPrinter cNoWay cHallError : Addr} {fd : FuncData} (F : Fun K "_law_shapes" "_law_shapes" s__law_shapes fa fd) (T : Txt K mg cJob cState cReady cStock cPrinter cBadLine cUnknown cTooMuch cBusy cNoPrinter cNoWay cHallError) (D__law_cell_at : Dfn P w K mg base 1 "_law_cell_at" ["_law_script", "_law_k"] (sp__law_cell_at K)) (D__law_mix : Dfn P w K mg base 1 "_law_mix" ["_law_cell", "_law_k", "_law_many"] (sp__law_mix K)) :
    FnOk P w K mg base CX0 2 fa fd ["_law_script", "_law_kinds", "_law_job"] (sp__law_shapes K) := by
  refine F.ok sc__law_shapes (fun vs H Q E h => ?_) (fun cdv A outer s H vs Q E hr h => ?_)
  · obtain ⟨a, ka, jt, ns, ks, p, u, v, rfl, _⟩ := h
    rfl
  obtain ⟨a, ka, jt, ns, ks, p, u, v, rfl, hS, l63, hk, l3, ndk, hj, q⟩ := h
  have hu := hu_n hr 0 (by decide)
  have hu0 := Nat.lt_of_le_of_lt (Nat.le_add_right _ _) hu
  have z1 : 1 ≤ sizeLine := small (by decide)
  have z2 : 2 ≤ sizeLine := small (by decide)
  have z3 : 3 ≤ sizeLine := small (by decide)
  refine ⟨_, (pss_cons (ps_set (i := 3) sc__law_shapes.nd rfl (by first | exact Or.inl rfl | exact Or.inr rfl) (pe_lst pa_nil))
  (pss_cons (ps_set (i := 4) sc__law_shapes.nd rfl (by first | exact Or.inl rfl | exact Or.inr rfl) (pe_slice sl_list (pv 0) (po_some pe_int) (po_some pe_int)))
  (pss_cons (ps_set (i := 5) sc__law_shapes.nd rfl (by first | exact Or.inl rfl | exact Or.inr rfl) (pe_op op_mod (pe_callD D__law_cell_at (hr.mono (by decide)) rfl (pa_cons (pv 0) (pa_cons pe_int pa_nil))) pe_int))
  (pss_cons (ps_for PassesOwn.never rfl (pi_range1 rfl T.range (pa_cons (pe_callB call_len_seq rfl T.len PySem.boot_len (pa_cons (pv 4) pa_nil)) pa_nil)) (pg_name (i := 6) sc__law_shapes.nd rfl (by first | exact Or.inl rfl | exact Or.inr rfl))
  (pss_cons (ps_comp (i := 7) (frees := [("_law_some", 4), ("_law_k", 6)]) ⟨by decide +kernel, rfl, rfl, by decide +kernel, ⟨⟨rfl, rfl, rfl, by decide +kernel⟩, ⟨⟨rfl, rfl, rfl, by decide +kernel⟩, trivial⟩⟩, by decide +kernel, cellsFor_at rfl, rfl⟩ sc__law_shapes.nd rfl rfl rfl (pi_range1 rfl T.range (pa_cons pe_int pa_nil)) (fun _ _ _ _ => by exact (pifs_one (pt_cmpR op_gt (pe_callD D__law_mix (hr.mono (by decide)) rfl (pa_cons (pe_ixK (K := K) (r := rIxLA) rfl ix_listA (pv 1) (pv 2) (fun _ _ => rfl)) (pa_cons (pe_op op_add (pv 2) (pv 0)) (pa_cons pe_int pa_nil)))) pe_int (nomark _)))) (fun _ _ _ _ => by exact (pe_ixK (K := K) (r := rIxLA) rfl ix_listA (pe_lst (pa_cons pe_str (pa_cons pe_str (pa_cons pe_str pa_nil)))) (pv 0) (fun _ _ => rfl))))
  (pss_cons (ps_comp (i := 8) (frees := [("_law_kinds", 1), ("_law_some", 4), ("_law_k", 6)]) ⟨by decide +kernel, rfl, rfl, by decide +kernel, ⟨⟨rfl, rfl, rfl, by decide +kernel⟩, ⟨⟨rfl, rfl, rfl, by decide +kernel⟩, ⟨⟨rfl, rfl, rfl, by decide +kernel⟩, trivial⟩⟩⟩, by decide +kernel, cellsFor_at rfl, rfl⟩ sc__law_shapes.nd rfl rfl rfl (pi_range1 rfl T.range (pa_cons pe_int pa_nil)) (fun _ _ _ _ => by exact (pifs_one (pt_cmpR op_gt (pe_callD D__law_mix (hr.mono (by decide)) rfl (pa_cons (pe_ixK (K := K) (r := rIxLA) rfl ix_listA (pv 2) (pv 3) (fun _ _ => rfl)) (pa_cons (pe_op op_add (pe_op op_add (pv 3) pe_int) (pv 0)) (pa_cons pe_int pa_nil)))) pe_int (nomark _)))) (fun _ _ _ _ => by exact (pe_ixK (K := K) (r := rIxLA) rfl ix_listA (pv 1) (pv 0) (fun _ _ => rfl))))
  (pss_cons (PS.weak (t' := WS K false) (ps_if (pt_cmpR op_eq (pe_op op_mod (pe_op op_fdiv (pe_callD D__law_cell_at (hr.mono (by decide)) rfl (pa_cons (pv 0) (pa_cons pe_int pa_nil))) pe_int) pe_int) pe_int (nomark _)) (pss_one (ps_comp (i := 8) (frees := [("_law_k", 6), ("_law_whole", 5), ("_law_job", 2)]) ⟨by decide +kernel, rfl, rfl, by decide +kernel, ⟨⟨rfl, rfl, rfl, by decide +kernel⟩, ⟨⟨rfl, rfl, rfl, by decide +kernel⟩, ⟨⟨rfl, rfl, rfl, by decide +kernel⟩, trivial⟩⟩⟩, by decide +kernel, cellsFor_at rfl, rfl⟩ sc__law_shapes.nd rfl rfl rfl (pi_list (pv 1)) (fun _ _ _ _ => by exact (pifs_one (PW.pt (pw_or (pt_cmpR op_ne (pv 0) (pe_ixK (K := K) (r := rIxT) rfl ix_tup (pv 3) pe_int (fun _ _ => rfl)) (nomark _)) (pw_or1 (pt_cmpR op_eq (pv 1) (pv 2) (nomark _))))))) (fun _ _ _ _ => by exact (pv 0)))) pss_nil) ?w1)
  (pss_cons (PS.weak (t' := WS K true) (ps_if (pt_cmpR (op_eq_list hu0) (pv 8) (pe_lst pa_nil) (nomark _)) (pss_one (ps_set (i := 8) sc__law_shapes.nd rfl (by first | exact Or.inl rfl | exact Or.inr rfl) (pe_lst (pa_cons (pe_ix ix_listA (pv 1) (pe_callD D__law_mix (hr.mono (by decide)) rfl (pa_cons (pe_ix ix_listA (pv 4) (pv 6) (fun _ _ => rfl)) (pa_cons (pe_op op_add (pv 6) pe_int) (pa_cons pe_int pa_nil)))) (fun _ _ => rfl)) pa_nil)))) pss_nil) ?w2)
  (pss_one (ps_expr (pe_bm PySem.F.plainAttrs_list PySem.F.slot_list_append PySem.F.type_list_append mt_append (pv 3) (pa_cons (pe_tup (pa_cons (pv 7) (pa_cons (pv 8) pa_nil))) pa_nil)))))))))
  (pss_one (ps_ret (pv 3))))))), ?_⟩
  case w1 =>
    rintro D σ H ⟨a, ka, jt, l, sa, ca, ta, wh, k, ns, ns2, ks, ts, p, u, v, rfl, hS, hk, l3, ndk, hj, hsa, kl, k60, hta, ndt, lt, q⟩
    refine ⟨_, rfl, a, 3, ns, rfl, hS, by decide, _, _, rfl, rfl, ⟨by decide, by decide⟩, _, _, rfl, rfl, (by show (0 : Int) < 2; decide), rfl, _, rfl, ite2 (fun _ => ?_) (fun _ => ?_)⟩
    · refine ⟨_, rfl, ka, rfl, ⟨_, SqL.of hk⟩, compB_any (seq_list (K := K) (SqL.of hk)) (fun x y => y = x) (small1000 (by rw [List.length_map]; omega)) (fun x hx H' R sm rr => ?_) (fun x hx H' R sm rr => ⟨_, rfl, rr x H' (Same.refl _) rfl⟩) (fun D' H1 zs ys s1 nD hD hs ly gy => ?_)⟩
      · obtain ⟨z, _, rfl⟩ := List.mem_map.mp hx
        exact ⟨_, rfl, _, rfl, jt, _, 0, _, rfl, rfl, SqT.of (sm _ _ hj), rfl, rfl, _, rfl, ite2 (fun _ => rr true _ (Same.refl _)) (fun _ => ⟨_, rfl, _, rfl, rfl, _, rfl, rr _ _ (Same.refl _)⟩)⟩
      · obtain ⟨ts', rfl, nd', l'⟩ := sub_strs hs ly gy ndk
        exact q D' ts' H1 s1 hD (.inr nD) nd' (by omega) (fun z => by cases z)
    · exact q ta ts H (Same.refl _) hta (.inl rfl) ndt lt (fun z => by cases z)
  case w2 =>
    rintro D σ H ⟨a, ka, jt, l, sa, ca, ta, wh, k, ns, ns2, ks, ts, p, u, v, rfl, hS, hk, l3, ndk, hj, hsa, kl, k60, hta, ndt, lt, q⟩
    refine ⟨_, rfl, Nat.zero_le _, fun e ne => ?_⟩
    have k1 := same_new ne (.lst [])
    have he : upd H e (.lst []) e = some (.lst []) := upd_same
    generalize upd H e (.lst []) = H1 at k1 he ⊢
    refine ⟨ta, e, _, _, rfl, rfl, SqL.of (k1 _ _ hta), SqL.of he, flat47 _, rfl, _, rfl, ?_⟩
    refine ite2 (fun _ => ?_) (fun c => ?_)
    · refine ⟨_, rfl, _, rfl, _, rfl, sa, _, _, rfl, rfl, SqL.of (k1 _ _ hsa), by omega, by rw [List.length_map]; omega, fun vv hv => ?_⟩
      obtain ⟨cz, rfl⟩ := ints48 hv
      refine ⟨_, rfl, _, _, rfl, rfl, cz, _, 3, rfl, by omega, by omega, by decide, fun H2 k2 => ?_⟩
      refine ⟨ka, _, _, rfl, rfl, SqL.of ((k1.trans k2) _ _ hk), mix_lo (by decide), by rw [List.length_map, l3]; exact mix_hi (by decide), fun vv hv => ?_⟩
      obtain ⟨z, rfl, _⟩ := str47 hv
      refine ⟨z1, fun t nt => ?_⟩
      exact q t [z] _ ((k1.trans k2).trans (same_new nt _)) upd_same (.inr ((k1.trans k2).free nt)) (List.nodup_cons.mpr ⟨List.not_mem_nil, List.nodup_nil⟩) (by show 1 ≤ 3; decide) (fun _ z => nomatch z)
    · refine q ta ts H1 k1 (k1 _ _ hta) (.inl rfl) ndt lt fun _ z => ?_
      subst z
      exact c rfl
  refine ⟨Nat.zero_le _, fun l nl => ?_⟩
  have s1 := same_new nl (.lst [])
  have hl1 : upd H l (.lst []) l = some (.lst []) := upd_same
  generalize upd H l (.lst []) = H1 at s1 hl1 ⊢
  refine ⟨_, rfl, _, rfl, _, rfl, a, _, rfl, s1.seq hS, fun sa nsa => ?_⟩
  obtain ⟨ns2, en2, ln2⟩ : ∃ ns2 : List Int, cutV (ns.map V.int) (some 4) (some 12) = ns2.map V.int ∧ ns2.length ≤ 8 := by
    unfold cutV
    refine ⟨(ns.drop _).take _, by rw [List.map_take, List.map_drop], ?_⟩
    have e1 : HT.sIx (ns.map V.int).length 0 (some 4) = min 4 (ns.map V.int).length := HT.sIx_nat _ _ 4
    have e2 : HT.sIx (ns.map V.int).length (ns.map V.int).length (some 12) = min 12 (ns.map V.int).length := HT.sIx_nat _ _ 12
    rw [List.length_take, List.length_drop, e1, e2]
    omega
  rw [en2]
  have s2 := same_new nsa (.lst (ns2.map V.int))
  have hsa : upd H1 sa (.lst (ns2.map V.int)) sa = some (.lst (ns2.map V.int)) := upd_same
  have hl2 := s2 _ _ hl1
  have nlsa : l ≠ sa := ne_of_none hl1 nsa
  generalize upd H1 sa (.lst (ns2.map V.int)) = H2 at s2 hsa hl2 ⊢
  have s12 := s1.trans s2
  refine ⟨_, rfl, a, 3, ns, rfl, s12.seq hS, by decide, _, _, rfl, rfl, (by show (0 : Int) < 9; decide), ?_⟩
  have lsa : (ns2.map V.int).length = ns2.length := List.length_map _
  have nd3 : ((List.range (3 : Int).toNat).map fun i => V.int (0 + ((i : Nat) : Int))).Nodup := by decide +kernel
  refine ⟨_, rfl, sa, _, rfl, .inl (SqL.of hsa), _, rfl, by omega, by omega, for_range (lo := 0) (n := (((ns2.map V.int).length : Nat) : Int).toNat) (fun i σ G => (∃ v6 v7 v8, σ = [some (.ref a), some (.ref ka), some (.ref jt), some (.ref l), some (.ref sa), some (.int (ns.getD (Int.toNat 3) 0 % 9)), v6, v7, v8]) ∧ ∃ sh, Same H G ∧ ShapesAt G l sh ∧ sh.length = i ∧ (∀ s ∈ sh, ShOk s) ∧ (∀ s ∈ sh, s.2.1 ≠ l ∧ s.2.2.1 ≠ l) ∧ G sa = some (.lst (ns2.map V.int))) ⟨⟨_, _, _, rfl⟩, [], s12, ⟨hl2, fun s hs => absurd hs List.not_mem_nil, fun s hs => absurd hs List.not_mem_nil, fun s hs => absurd hs List.not_mem_nil⟩, rfl, fun s hs => absurd hs List.not_mem_nil, fun s hs => absurd hs List.not_mem_nil, hsa⟩ (fun i σ G hi z => ?_) (fun σ G z => ?_)⟩
  · obtain ⟨⟨v6, v7, v8, rfl⟩, sh, sG, SG, lsh, oks, offs, hsaG⟩ := z
    rw [Int.zero_add]
    have hi' : i < ns2.length := by omega
    refine ⟨_, rfl, by decide, by decide, ?_⟩
    refine compB_any (seq_range 0 (3 : Int).toNat G) (fun x y => ∃ o, y = V.str o) (by rw [List.length_map, List.length_range]; exact small1000 (by decide)) (fun x hx G1 R sm rr => ?_) (fun x hx G1 R sm rr => ?_) (fun ca G1 zs1 ys1 k1 nca hca hs1 ly1 gy1 => ?_)
    · obtain ⟨j, hj', rfl⟩ := List.mem_map.mp hx
      have hj3 : j < 3 := List.mem_range.mp hj'
      refine ⟨_, rfl, _, rfl, sa, _, _, rfl, rfl, SqL.of (sm _ _ hsaG), by omega, by rw [List.length_map]; omega, fun vv hv => ?_⟩
      obtain ⟨cz, rfl⟩ := ints48 hv
      exact ⟨_, rfl, _, rfl, _, _, rfl, rfl, cz, _, 3, rfl, by omega, by omega, by decide, fun G2 k2 => ⟨_, _, rfl, rfl, _, rfl, rr _ G2 k2⟩⟩
    · obtain ⟨j, hj', rfl⟩ := List.mem_map.mp hx
      have hj3 : j < 3 := List.mem_range.mp hj'
      refine ⟨z3, fun wp nwp => ?_⟩
      have k2 := same_new nwp (.lst ([Str.ofString "both", Str.ofString "colour", Str.ofString "staple"].map V.str))
      have hwp : upd G1 wp (.lst ([Str.ofString "both", Str.ofString "colour", Str.ofString "staple"].map V.str)) wp = some (.lst ([Str.ofString "both", Str.ofString "colour", Str.ofString "staple"].map V.str)) := upd_same
      refine ⟨_, rfl, wp, _, _, rfl, rfl, SqL.of hwp, by omega, by show 0 + (j : Int) < 3; omega, fun y hy => ?_⟩
      obtain ⟨o, rfl, _⟩ := str47 hy
      exact rr _ _ k2 ⟨o, rfl⟩
    obtain ⟨cs, rfl⟩ := strs47 ys1 fun y hy => by
      obtain ⟨n, hn⟩ := List.mem_iff_getElem?.mp hy
      have hln := (List.getElem?_eq_some_iff.mp hn).1
      exact gy1 n _ y (List.getElem?_eq_getElem (by omega)) hn
    have hkG1 := (sG.trans k1) _ _ hk
    refine ⟨_, rfl, by decide, by decide, ?_⟩
    refine compB_any (seq_range 0 (3 : Int).toNat G1) (fun x y => ∃ j : Nat, x = .int (0 + (j : Int)) ∧ (ks.map V.str)[j]? = some y) (by rw [List.length_map, List.length_range]; exact small1000 (by decide)) (fun x hx G2 R sm rr => ?_) (fun x hx G2 R sm rr => ?_) (fun ta0 G2 zs2 ys2 k2 nta0 hta0 hs2 ly2 gy2 => ?_)
    · obtain ⟨j, hj', rfl⟩ := List.mem_map.mp hx
      have hj3 : j < 3 := List.mem_range.mp hj'
      refine ⟨_, rfl, _, rfl, sa, _, _, rfl, rfl, SqL.of (sm _ _ (k1 _ _ hsaG)), by omega, by rw [List.length_map]; omega, fun vv hv => ?_⟩
      obtain ⟨cz, rfl⟩ := ints48 hv
      exact ⟨_, rfl, _, _, rfl, rfl, _, rfl, _, _, rfl, rfl, cz, _, 3, rfl, by omega, by omega, by decide, fun G3 k3 => ⟨_, _, rfl, rfl, _, rfl, rr _ G3 k3⟩⟩
    · obtain ⟨j, hj', rfl⟩ := List.mem_map.mp hx
      have hj3 : j < 3 := List.mem_range.mp hj'
      refine ⟨_, rfl, _, rfl, ka, _, _, rfl, rfl, SqL.of (sm _ _ hkG1), by omega, by rw [List.length_map, l3]; omega, fun y hy => ?_⟩
      have e1 : (0 + ((j : Nat) : Int)).toNat = j := by omega
      rw [e1] at hy
      exact rr _ _ (Same.refl _) ⟨j, rfl, hy⟩
    obtain ⟨ts0, rfl, ndt0, _, _⟩ := pick47 ndk _ ys2 (nd3.sublist hs2) ly2 gy2
    have lt0 : ts0.length ≤ 3 := by
      have := hs2.length_le
      rw [List.length_map] at ly2
      rw [List.length_map, List.length_range] at this
      have h3 : (3 : Int).toNat = 3 := rfl
      omega
    have s02 := sG.trans (k1.trans k2)
    have hlG := SG.l
    refine ⟨a, ka, jt, l, sa, ca, ta0, _, i, ns, ns2, ks, ts0, p, u, v, rfl, s02.seq hS, s02 _ _ hk, l3, ndk, s02 _ _ hj, (k1.trans k2) _ _ hsaG, hi', by omega, hta0, ndt0, lt0, fun ta1 ts1 G3 k3 hta1 or1 nd1 lt1 _ => ?_⟩
    have s03 := s02.trans k3
    refine ⟨a, ka, jt, l, sa, ca, ta1, _, i, ns, ns2, ks, ts1, p, u, v, rfl, s03.seq hS, s03 _ _ hk, l3, ndk, s03 _ _ hj, k3 _ _ ((k1.trans k2) _ _ hsaG), hi', by omega, hta1, nd1, lt1, fun ta2 ts2 G4 k4 hta2 or2 nd2 lt2 nn2 => ?_⟩
    have s04 := s03.trans k4
    have s14 : Same G G4 := k1.trans (k2.trans (k3.trans k4))
    have S4 := SG.same s14
    have nc : ca ≠ l := Ne.symm (ne_of_none hlG nca)
    have n0 : ta0 ≠ l := Ne.symm (ne_of_none (k1 _ _ hlG) nta0)
    have n1 : ta1 ≠ l := by
      rcases or1 with rfl | n
      · exact n0
      · exact Ne.symm (ne_of_none ((k1.trans k2) _ _ hlG) n)
    have n2 : ta2 ≠ l := by
      rcases or2 with rfl | n
      · exact n1
      · exact Ne.symm (ne_of_none ((k1.trans (k2.trans k3)) _ _ hlG) n)
    refine ⟨_, rfl, .inl ⟨rfl, _, SqL.of S4.l⟩, _, rfl, _, rfl, z2, fun t nt => ?_⟩
    have k5 := same_new nt (.tup [V.ref ca, V.ref ta2])
    have ht5 : upd G4 t (.tup [V.ref ca, V.ref ta2]) t = some (.tup [V.ref ca, V.ref ta2]) := upd_same
    generalize upd G4 t (.tup [V.ref ca, V.ref ta2]) = G5 at k5 ht5 ⊢
    have S5 := S4.same k5
    refine ⟨l, _, _, rfl, rfl, S5.l, small1000 (by rw [List.length_map]; omega), ?_⟩
    refine ⟨⟨_, _, _, rfl⟩, sh ++ [(t, ca, ta2, cs, ts2)], same_on nl (s04.trans k5) _, S5.add ht5 ((k2.trans (k3.trans (k4.trans k5))) _ _ hca) (k5 _ _ hta2) nc n2 offs, by rw [List.length_append, lsh]; rfl, fun s hs => ?_, fun s hs => ?_, ?_⟩
    · rcases List.mem_append.mp hs with h | h
      · exact oks s h
      · rw [List.mem_singleton.mp h]
        exact ⟨nd2, by show ts2.length ≤ 6; omega, nn2 rfl⟩
    · rcases List.mem_append.mp hs with h | h
      · exact offs s h
      · rw [List.mem_singleton.mp h]
        exact ⟨nc, n2⟩
    · rw [upd_ne (Ne.symm nlsa)]
      exact k5 _ _ (s14 _ _ hsaG)
  · obtain ⟨⟨v6, v7, v8, rfl⟩, sh, sG, SG, lsh, oks, offs, hsaG⟩ := z
    exact ⟨_, rfl, q l sh G sG nl SG oks (by omega)⟩

end
end My

namespace My
open PySem L2
open Blk (sg sg_inj sg_app)
section
variable {P : Program} {w : World} {K : PySem.W.Frag} {mg : Str → Option Value} {base : Heap}
def sp__law_asked (cJ cP cS cR : Addr) : Sp := fun vs H Q _ => ∃ (x l : Addr) (nm p : Str) (cv : Option Str) (one co st : Bool) (prs : List (Addr × PD × List Str)), vs = [.ref x, .ref l] ∧ JobN cJ H x nm p cv one co st ∧ p.length ≤ 20 ∧ (∀ c, cv = some c → c.length ≤ 20) ∧ H l = some (.lst (prs.map fun q => .ref q.1)) ∧ prs.length ≤ 900 ∧ (∀ q ∈ prs, Pr47 cP cS cR H q.1 q.2.1 q.2.2) ∧
  (fitNames (prs.map (rowOf (needN p cv one co st))) ≠ [] → ∀ t n H', Same H H' → H n = none → H' t = some (.tup [.ref n, .non]) → H' n = some (.lst ((fitNames (prs.map (rowOf (needN p cv one co st)))).map V.str)) → Q (.ref t) H') ∧
  (fitNames (prs.map (rowOf (needN p cv one co st))) = [] → ∀ t u y H', Same H H' → H' t = some (.tup [.non, .ref u]) → H' u = some (.tup [.str nm, y]) → RowsV H' y (prs.map (rowOf (needN p cv one co st))) → Q (.ref t) H')
theorem sc__law_asked : FnScope ["_law_job", "_law_printers", "_law_found", "_law_refusal", "_law_marks", "e"] ["_law_job", "_law_printers"] (defScope s__law_asked) := ⟨rfl, rfl, rfl, by decide +kernel, rfl, by decide +kernel, by decide +kernel⟩
theorem ok__law_asked {fa cJob cState cReady cStock cPrinter cBadLine cUnknown cTooMuch cBusy cNoPrinter cNoWay cHallError : Addr} {fd : FuncData} (F : Fun K "_law_asked" "_law_asked" s__law_asked fa fd) (T : Txt K mg cJob cState cReady cStock cPrinter cBadLine cUnknown cTooMuch cBusy cNoPrinter cNoWay cHallError) (D_fitting : DfE P w K mg base 7 "fitting" ["job", "printers"] (sp_fitting cNoPrinter cJob cPrinter cStock cReady)) :
    FnOk P w K mg base CX0 8 fa fd ["_law_job", "_law_printers"] (sp__law_asked cJob cPrinter cStock cReady) := by
  refine F.ok sc__law_asked (fun vs H Q E h => ?_) (fun cdv A outer s H vs Q E hr h => ?_)
  · obtain ⟨x, l, nm, p, cv, one, co, st, prs, rfl, _⟩ := h
    rfl
  obtain ⟨x, l, nm, p, cv, one, co, st, prs, rfl, J, lp, lc, hl, ln, P, q1, q2⟩ := h
  refine ⟨_, (pss_cons (ps_set (i := 2) sc__law_asked.nd rfl (by first | exact Or.inl rfl | exact Or.inr rfl) pe_non)
  (pss_cons (ps_set (i := 3) sc__law_asked.nd rfl (by first | exact Or.inl rfl | exact Or.inr rfl) pe_non)
  (pss_cons (ps_set (i := 4) sc__law_asked.nd rfl (by first | exact Or.inl rfl | exact Or.inr rfl) (pe_lst pa_nil))
  (pss_cons (ps_try top_nox (fun _ _ _ hP hO => by exact (pss_one (ps_set (i := 2) sc__law_asked.nd rfl (by first | exact Or.inl rfl | exact Or.inr rfl) (pe_callE D_fitting hP (hr.mono (show 7 ≤ 7 by decide)) rfl (pa_cons (pv 0) (pa_cons (pv 1) pa_nil)))))) (ph_as (i := 5) rfl T.mg_NoPrinter sc__law_asked.nd rfl rfl (fun _ => by exact (pss_cons (ps_set (i := 3) sc__law_asked.nd rfl (by first | exact Or.inl rfl | exact Or.inr rfl) (pe_tup (pa_cons (pe_fldGK (K := K) rfl (pv 5) rfl) (pa_cons (pe_fldGK (K := K) rfl (pv 5) rfl) pa_nil))))
  (pss_cons (ps_set (i := 4) sc__law_asked.nd rfl (by first | exact Or.inl rfl | exact Or.inr rfl) (pe_lst (pa_cons (pe_callB (call_isGK (K := K) rfl) rfl T.isinstance bt_isi (pa_cons (pv 5) (pa_cons (pe_glob (v := .ref cUnknown) rfl T.mg_Unknown rfl) pa_nil))) (pa_cons (pe_callB (call_isGK (K := K) rfl) rfl T.isinstance bt_isi (pa_cons (pv 5) (pa_cons (pe_glob (v := .ref cBusy) rfl T.mg_Busy rfl) pa_nil))) (pa_cons (pe_callB (call_isGK (K := K) rfl) rfl T.isinstance bt_isi (pa_cons (pv 5) (pa_cons (pe_glob (v := .ref cNoWay) rfl T.mg_NoWay rfl) pa_nil))) (pa_cons (pe_callB (call_isGK (K := K) rfl) rfl T.isinstance bt_isi (pa_cons (pv 5) (pa_cons (pe_glob (v := .ref cBadLine) rfl T.mg_BadLine rfl) pa_nil))) pa_nil))))))
  (pss_one (ps_set (i := 4) sc__law_asked.nd rfl (by first | exact Or.inl rfl | exact Or.inr rfl) (pe_op op_cat (pv 4) (pe_lst (pa_cons (pe_not (pe_callB (call_isGK (K := K) rfl) rfl T.isinstance bt_isi (pa_cons (pv 5) (pa_cons (pe_bltn rfl T.ValueError bt_ValueError (rel_ty _)) pa_nil)))) (pa_cons (pe_not (pe_callB (call_isGK (K := K) rfl) rfl T.isinstance bt_isi (pa_cons (pv 5) (pa_cons (pe_glob (v := .ref cHallError) rfl T.mg_HallError rfl) pa_nil)))) pa_nil))))))))) ph_nil))
  (pss_cons (ps_if (pt_cmpR op_in_seq pe_bl (pv 4) rfl) (pss_one (ps_ret (pe_tup (pa_cons pe_non (pa_cons pe_non pa_nil))))) pss_nil)
  (pss_one (ps_ret (pe_tup (pa_cons (pv 2) (pa_cons (pv 3) pa_nil)))))))))), ?_⟩
  have z2 : 2 ≤ sizeLine := small (by decide)
  have z4 : 4 ≤ sizeLine := small (by decide)
  refine ⟨Nat.zero_le _, fun m0 nm0 => ?_⟩
  have s1 := same_new nm0 (.lst [])
  have hm0 : upd H m0 (.lst []) m0 = some (.lst []) := upd_same
  generalize upd H m0 (.lst []) = H1 at s1 hm0 ⊢
  refine ⟨_, rfl, _, rfl, x, l, nm, p, cv, one, co, st, prs, rfl, J.same s1, lp, lc, s1 _ _ hl, ln, fun q hq => (P q hq).same s1, fun fn n H2 s2 nn hn => ?_, fun fn ea y H2 s2 nea g RV => ?_⟩
  · have s02 := s1.trans s2
    refine ⟨_, rfl, m0, _, rfl, .inl (SqL.of (s2 _ _ hm0)), rfl, rfl, _, rfl, ?_⟩
    rw [if_neg (by decide)]
    refine iteF ⟨_, rfl, _, rfl, z2, fun t nt => ?_⟩
    exact q1 fn t n _ (s02.trans (same_new nt _)) (s1.free nn) upd_same (same_new nt _ _ _ hn)
  · have s02 := s1.trans s2
    refine ⟨cNoPrinter, ea, rfl, rfl, T.x_NoPrinter.m, T.x_NoPrinter.m, true, T.mh_NoPrinter_NoPrinter, iteT ?_⟩
    have ci := T.x_NoPrinter.i
    refine ⟨_, rfl, ea, _, _, _, rfl, g, T.x_NoPrinter.i.c, T.x_NoPrinter.n _ (.head _), rfl, _, rfl, ea, _, _, _, rfl, g, T.x_NoPrinter.i.c, T.x_NoPrinter.n _ (.tail _ (.head _)), rfl, z2, fun u nu => ?_⟩
    have t0 := same_new nu (.tup [.str nm, y])
    have hu' : upd H2 u (.tup [.str nm, y]) u = some (.tup [.str nm, y]) := upd_same
    generalize upd H2 u (.tup [.str nm, y]) = H3 at t0 hu' ⊢
    have g0 := g.keep t0
    refine ⟨_, rfl, ea, cNoPrinter, _, _, false, rfl, g0, ci, (fun u r => r), kitTab_two (i := 4) (j := 1) T.kit (show 4 < 6 by decide) (show 1 < 6 by decide), _, rfl, ea, cNoPrinter, _, _, false, rfl, g0, ci, (fun u r => r), kitTab_two (i := 4) (j := 3) T.kit (show 4 < 6 by decide) (show 3 < 6 by decide), _, rfl, ea, cNoPrinter, _, _, false, rfl, g0, ci, (fun u r => r), kitTab_two (i := 4) (j := 5) T.kit (show 4 < 6 by decide) (show 5 < 6 by decide), _, rfl, ea, cNoPrinter, _, _, false, rfl, g0, ci, (fun u r => r), kitTab_two (i := 4) (j := 0) T.kit (show 4 < 6 by decide) (show 0 < 6 by decide), z4, fun p1 n1 => ?_⟩
    have t1 := same_new n1 (.lst [.bl false, .bl false, .bl false, .bl false])
    have h1 : upd H3 p1 (.lst [.bl false, .bl false, .bl false, .bl false]) p1 = some (.lst [.bl false, .bl false, .bl false, .bl false]) := upd_same
    generalize upd H3 p1 (.lst [.bl false, .bl false, .bl false, .bl false]) = H4 at t1 h1 ⊢
    have g3 := g0.keep t1
    refine ⟨_, rfl, _, rfl, ea, cNoPrinter, _, _, true, rfl, g3, ci, (fun u r => r), kitTab_val (i := 4) T.kit (show 4 < 6 by decide), true, rfl, _, rfl, ea, cNoPrinter, _, _, true, rfl, g3, ci, (fun u r => r), kitTab_base (i := 4) T.kit (show 4 < 6 by decide), true, rfl, z2, fun p2 n2 => ?_⟩
    have t2 := same_new n2 (.lst [.bl (!true), .bl (!true)])
    have h2 : upd H4 p2 (.lst [.bl (!true), .bl (!true)]) p2 = some (.lst [.bl (!true), .bl (!true)]) := upd_same
    generalize upd H4 p2 (.lst [.bl (!true), .bl (!true)]) = H5 at t2 h2 ⊢
    refine ⟨p1, p2, _, _, rfl, rfl, t2 _ _ h1, h2, small (by show 6 ≤ 1000; decide), fun p3 n3 => ?_⟩
    have t3 := same_new n3 (.lst ([.bl false, .bl false, .bl false, .bl false] ++ [.bl (!true), .bl (!true)]))
    have h3 : upd H5 p3 (.lst ([.bl false, .bl false, .bl false, .bl false] ++ [.bl (!true), .bl (!true)])) p3 = some (.lst [.bl false, .bl false, .bl false, .bl false, .bl false, .bl false]) := upd_same
    generalize upd H5 p3 (.lst ([.bl false, .bl false, .bl false, .bl false] ++ [.bl (!true), .bl (!true)])) = H6 at t3 h3 ⊢
    have t03 := t1.trans (t2.trans t3)
    refine ⟨_, rfl, p3, _, rfl, .inl (SqL.of h3), rfl, rfl, _, rfl, ?_⟩
    rw [if_neg (by decide)]
    refine iteF ⟨_, rfl, _, rfl, z2, fun t nt => ?_⟩
    have k := same_new nt (.tup [.non, .ref u])
    exact q2 fn t u y _ ((s02.trans (t0.trans t03)).trans k) upd_same (k _ _ (t03 _ _ hu')) (((RV.same t0).same t03).same k)
def sp__law_rows (_K : PySem.W.Frag) : Sp := fun vs H Q _ => ∃ (y : V) (l : Addr) (rows : List Row48), vs = [y, .ref l] ∧ RowsV H y rows ∧ RowsV H (.ref l) rows ∧ rows.length ≤ 900 ∧ Q (.bl true) H
theorem deq_row {K : PySem.W.Frag} {H : Hp} {t t' m m' : Addr} {r : Row48} (h : H t = some (.tup [.str r.1, .ref m])) (hm : H m = some (.lst (r.2.map fun n => V.str n.s))) (h' : H t' = some (.tup [.str r.1, .ref m'])) (hm' : H m' = some (.lst (r.2.map fun n => V.str n.s))) : ∀ j, j < [V.str r.1, .ref m].length → Deq K H 1 ([V.str r.1, .ref m].getD j .non) ([V.str r.1, .ref m'].getD j .non) := fun j hj => by
  match j, hj with
  | 0, _ => exact .inl ⟨rfl, rfl⟩
  | 1, _ =>
    refine .inr ⟨m, m', _, _, rfl, rfl, .inl ⟨SqL.of hm, SqL.of hm'⟩, rfl, fun i hi => ?_⟩
    obtain ⟨v, ev⟩ : ∃ v, (r.2.map fun n => V.str n.s)[i]? = some v := ⟨_, List.getElem?_eq_getElem hi⟩
    rw [List.getD_eq_getElem?_getD, ev]
    rw [List.getElem?_map] at ev
    obtain ⟨n, _, rfl⟩ := Option.map_eq_some_iff.mp ev
    exact ⟨rfl, rfl⟩
theorem sc__law_rows : FnScope ["_law_told", "_law_due", "_law_k"] ["_law_told", "_law_due"] (defScope s__law_rows) := ⟨rfl, rfl, rfl, by decide +kernel, rfl, by decide +kernel, by decide +kernel⟩
theorem ok__law_rows {fa cJob cState cReady cStock cPrinter cBadLine cUnknown cTooMuch cBusy cNoPrinter cNoWay cHallError : Addr} {fd : FuncData} (F : Fun K "_law_rows" "_law_rows" s__law_rows fa fd) (T : Txt K mg cJob cState cReady cStock cPrinter cBadLine cUnknown cTooMuch cBusy cNoPrinter cNoWay cHallError)  :
    FnOk P w K mg base CX0 1 fa fd ["_law_told", "_law_due"] (sp__law_rows K) := by
  refine F.ok sc__law_rows (fun vs H Q E h => ?_) (fun cdv A outer s H vs Q E hr h => ?_)
  · obtain ⟨y, l, rows, rfl, _⟩ := h
    rfl
  obtain ⟨y, l, rows, rfl, ⟨b, ys, rfl, hb, ly, gy⟩, ⟨l', xs, el, hl, lx, gx⟩, ln, q⟩ := h
  cases el
  have hu1 := hu_n hr 1 (by decide)
  refine ⟨_, (pss_cons (ps_if (PW.pt (pw_or (pt_not (pt_truth (pe_callB call_isi rfl T.isinstance bt_isi (pa_cons (pv 0) (pa_cons (pe_bltn rfl T.list bt_list (rel_ty _)) pa_nil))) (fun _ => rfl))) (pw_or1 (pt_cmpR op_ne (pe_callB call_len_seq rfl T.len PySem.boot_len (pa_cons (pv 0) pa_nil)) (pe_callB call_len_seq rfl T.len PySem.boot_len (pa_cons (pv 1) pa_nil)) (nomark _))))) (pss_one (ps_ret pe_bl)) pss_nil)
  (pss_cons (ps_for PassesOwn.never rfl (pi_range1 rfl T.range (pa_cons (pe_callB call_len_seq rfl T.len PySem.boot_len (pa_cons (pv 1) pa_nil)) pa_nil)) (pg_name (i := 2) sc__law_rows.nd rfl (by first | exact Or.inl rfl | exact Or.inr rfl))
  (pss_one (ps_if (PW.pt (pw_or (pt_not (pt_truth (pe_callB call_isi rfl T.isinstance bt_isi (pa_cons (pe_ix ix_listA (pv 0) (pv 2) (fun _ _ => rfl)) (pa_cons (pe_bltn rfl T.tuple bt_tuple (rel_ty _)) pa_nil))) (fun _ => rfl))) (pw_or (pt_cmpR (op_ne_dq (n := 1) hu1) (pe_ix ix_listA (pv 0) (pv 2) (fun _ _ => rfl)) (pe_ix ix_listA (pv 1) (pv 2) (fun _ _ => rfl)) (nomark _)) (pw_or1 (pt_not (pt_truth (pe_callB call_isi rfl T.isinstance bt_isi (pa_cons (pe_ix ix_tup (pe_ix ix_listA (pv 0) (pv 2) (fun _ _ => rfl)) pe_int (fun _ _ => rfl)) (pa_cons (pe_bltn rfl T.list bt_list (rel_ty _)) pa_nil))) (fun _ => rfl))))))) (pss_one (ps_ret pe_bl)) pss_nil)))
  (pss_one (ps_ret pe_bl)))), ?_⟩
  refine ⟨_, rfl, _, _, _, true, rfl, TyOf.lst hb, kit_same _, true, rfl, iteF ?_⟩
  refine ⟨_, rfl, b, _, rfl, .inl (SqL.of hb), _, rfl, l, _, rfl, .inl (SqL.of hl), rfl, _, rfl, ite2 (fun c => ?_) (fun _ => ?_)⟩
  · rw [ly, lx] at c
    simp at c
  refine ⟨_, rfl, l, _, rfl, .inl (SqL.of hl), _, rfl, by omega, by omega, for_range (lo := 0) (n := ((xs.length : Nat) : Int).toNat) (fun i σ G => (∃ v2, σ = [some (.ref b), some (.ref l), v2]) ∧ G = H) ⟨⟨_, rfl⟩, rfl⟩ (fun i σ G hi z => ?_) (fun σ G z => ?_)⟩
  · obtain ⟨⟨v2, rfl⟩, rfl⟩ := z
    rw [Int.zero_add]
    have hi' : i < rows.length := by omega
    obtain ⟨r, er⟩ : ∃ r, rows[i]? = some r := ⟨_, List.getElem?_eq_getElem hi'⟩
    obtain ⟨y1, ey1⟩ : ∃ y, ys[i]? = some y := ⟨_, List.getElem?_eq_getElem (by omega)⟩
    obtain ⟨x1, ex1⟩ : ∃ x, xs[i]? = some x := ⟨_, List.getElem?_eq_getElem (by omega)⟩
    obtain ⟨t, m, rfl, ht, hm⟩ := gy i y1 r ey1 er
    obtain ⟨t', m', rfl, ht', hm'⟩ := gx i x1 r ex1 er
    refine ⟨_, rfl, _, rfl, b, _, _, rfl, rfl, SqL.of hb, by omega, by omega, fun v1 h1 => ?_⟩
    rw [Int.toNat_natCast, ey1] at h1
    obtain rfl := Option.some.inj h1
    refine ⟨_, _, _, true, rfl, TyOf.tup ht, kit_same _, true, rfl, iteF ?_⟩
    refine ⟨_, rfl, _, rfl, b, _, _, rfl, rfl, SqL.of hb, by omega, by omega, fun v1 h1 => ?_⟩
    rw [Int.toNat_natCast, ey1] at h1
    obtain rfl := Option.some.inj h1
    refine ⟨_, rfl, _, rfl, l, _, _, rfl, rfl, SqL.of hl, by omega, by omega, fun v1 h1 => ?_⟩
    rw [Int.toNat_natCast, ex1] at h1
    obtain rfl := Option.some.inj h1
    refine ⟨t, t', _, _, rfl, rfl, .inr ⟨SqT.of ht, SqT.of ht'⟩, rfl, deq_row (K := K) ht hm ht' hm', _, rfl, iteF ?_⟩
    refine ⟨_, rfl, _, rfl, b, _, _, rfl, rfl, SqL.of hb, by omega, by omega, fun v1 h1 => ?_⟩
    rw [Int.toNat_natCast, ey1] at h1
    obtain rfl := Option.some.inj h1
    exact ⟨t, _, 1, _, rfl, rfl, SqT.of ht, rfl, _, _, _, true, rfl, TyOf.lst hm, kit_same _, true, rfl, iteF ⟨⟨_, rfl⟩, rfl⟩⟩
  · obtain ⟨⟨v2, rfl⟩, rfl⟩ := z
    exact q

end
end My

namespace My
open PySem L2
open Blk (sg sg_inj sg_app)
section
variable {P : Program} {w : World} {K : PySem.W.Frag} {mg : Str → Option Value} {base : Heap}
theorem op_eq_listK {X : Cx} {K : PySem.W.Frag} (h : X.K = K) (hu : X.A.units < cLine) : OpR X (compareOp .Eq) (rEqL K false) := h ▸ op_eq_list hu
theorem need_ok {p : Str} {cv : Option Str} {one co st : Bool} {ts cs : List Str} (hp : p ∈ ts) (hc : ∀ c, cv = some c → c ∈ ts) (h1 : boW ∈ cs) (h2 : clW ∈ cs) (h3 : stW ∈ cs) : lackN ts cs (needN p cv one co st) = [] := by
  unfold lackN
  refine List.filter_eq_nil_iff.mpr fun n hn => ?_
  have ok : n.ok ts cs = true := by
    unfold needN at hn
    simp only [List.mem_append, List.mem_singleton] at hn
    rcases hn with (((hn | hn) | hn) | hn) | hn
    · rw [hn]; exact decide_eq_true hp
    · cases cv with
      | none => cases hn
      | some c =>
        rw [List.mem_singleton.mp hn]
        exact decide_eq_true (hc c rfl)
    · cases one with
      | true => cases hn
      | false => rw [List.mem_singleton.mp hn]; exact decide_eq_true h1
    · cases co with
      | false => cases hn
      | true => rw [List.mem_singleton.mp hn]; exact decide_eq_true h2
    · cases st with
      | false => cases hn
      | true => rw [List.mem_singleton.mp hn]; exact decide_eq_true h3
  rw [ok]
  decide
theorem fit_more {rows : List Row48} {n : Str} (h : fitNames rows = []) : fitNames (rows ++ [(n, [])]) = [n] := by
  unfold fitNames at h ⊢
  rw [List.filter_append, List.map_append, h]
  rfl
theorem Pr47.off {cP cS cR : Addr} {H H' : Hp} {x D : Addr} {d : PD} {cs : List Str} {ys : List V} (h : Pr47 cP cS cR H x d cs) (hD : H D = some (.lst ys)) (ni : d.ins ≠ D) (k : ∀ b o, b ≠ D → H b = some o → H' b = some o) : Pr47 cP cS cR H' x d cs := by
  have off : ∀ b o, H b = some o → (∀ l, o ≠ .lst l) → H' b = some o := fun b o e n => k b o (fun z => by rw [z, hD] at e; injection e with e; exact n _ e.symm) e
  obtain ⟨⟨dt, ht⟩, t1, t2, tn⟩ := id h.P.T
  obtain ⟨⟨di, hi⟩, i1, i2, inn⟩ := id h.P.I
  refine ⟨{ h.P with o := off _ _ h.P.o (by intro l z; cases z), T := ⟨⟨dt, off _ _ ht (by intro l z; cases z)⟩, off _ _ t1 (by intro l z; cases z), off _ _ t2 (by intro l z; cases z), tn⟩, I := ⟨⟨di, off _ _ hi (by intro l z; cases z)⟩, off _ _ i1 (by intro l z; cases z), off _ _ i2 (by intro l z; cases z), inn⟩, s := off _ _ h.P.s (by intro l z; cases z), n := k _ _ ni h.P.n }, off _ _ h.cn (by intro l z; cases z), off _ _ h.rm (by intro l z; cases z), h.ne⟩
theorem prs_of : ∀ {ys : List V} {sh : List Sh48} {PP : Nat → Sh48 → Addr → PD → Prop}, ys.length = sh.length → (∀ (i : Nat) y s, ys[i]? = some y → sh[i]? = some s → ∃ px d, y = .ref px ∧ PP i s px d) → ∃ prs : List (Addr × PD × List Str), ys = prs.map (fun q => .ref q.1) ∧ prs.length = sh.length ∧ ∀ (i : Nat) q s, prs[i]? = some q → sh[i]? = some s → PP i s q.1 q.2.1 ∧ q.2.2 = s.2.2.2.1
  | [], [], _, _, _ => ⟨[], rfl, rfl, fun i q s e => by simp at e⟩
  | [], _ :: _, _, e, _ => nomatch e
  | _ :: _, [], _, e, _ => nomatch e
  | y :: ys, s :: sh, PP, e, h => by
    obtain ⟨px, d, rfl, hp⟩ := h 0 y s rfl rfl
    obtain ⟨prs, rfl, l, g⟩ := prs_of (PP := fun i => PP (i + 1)) (Nat.succ.inj e) fun i y s ey es => h (i + 1) y s ey es
    refine ⟨(px, d, s.2.2.2.1) :: prs, rfl, by rw [List.length_cons, l]; rfl, fun i q s' eq es => ?_⟩
    cases i with
    | zero =>
      obtain rfl := Option.some.inj eq
      obtain rfl := Option.some.inj es
      exact ⟨hp, rfl⟩
    | succ i => exact g i q s' eq es
theorem nm_at {c2 : Int} {j n : Nat} {v : V} (hj : j < n) (h : (((List.range n).map fun j => wordP c2 ((j : Nat) : Int) (wSize c2)).map V.str)[j]? = some v) : v = .str (wordP c2 (j : Int) (wSize c2)) := by
  rw [List.getElem?_map, List.getElem?_map, List.getElem?_range hj] at h
  exact (Option.some.inj h).symm
theorem sh_at {sh : List Sh48} {j : Nat} {s : Sh48} {v : V} (e : sh[j]? = some s) (h : (sh.map fun s => V.ref s.1)[j]? = some v) : v = .ref s.1 := by
  rw [List.getElem?_map, e] at h
  exact (Option.some.inj h).symm
theorem at_str48 {zs : List Str} {k : Nat} {z : Str} (h : zs[k]? = some z) : atI (zs.map V.str) (k : Int) = some (.str z) := by
  have e : ixN (zs.map V.str).length (k : Int) = some k := ixN_nat (by rw [List.length_map]; exact (List.getElem?_eq_some_iff.mp h).1)
  unfold atI
  rw [e]
  show (zs.map V.str)[k]? = _
  rw [List.getElem?_map, h]
  rfl
theorem at_any48 {zs : List V} {k : Nat} {z : V} (h : zs[k]? = some z) : atI zs (k : Int) = some z := by
  have e : ixN zs.length (k : Int) = some k := ixN_nat (List.getElem?_eq_some_iff.mp h).1
  unfold atI
  rw [e]
  exact h
theorem eq_nil48 (l : List Nd) : eqVs (l.map fun n => V.str n.s) [] = l.isEmpty := by cases l <;> rfl
theorem ext48 {xs ys : List V} {g : V → V} (l : ys.length = xs.length) (h : ∀ (i : Nat) x y, xs[i]? = some x → ys[i]? = some y → y = g x) : ys = xs.map g := List.ext_getElem? fun i => by
  rw [List.getElem?_map]
  cases e : xs[i]? with
  | none => exact List.getElem?_eq_none (by have := List.getElem?_eq_none_iff.mp e; omega)
  | some x =>
    obtain ⟨y, ey⟩ : ∃ y, ys[i]? = some y := ⟨_, List.getElem?_eq_getElem (by rw [l]; exact (List.getElem?_eq_some_iff.mp e).1)⟩
    rw [ey, h i x y e ey]
    rfl
def sp_law (K : PySem.W.Frag) : Sp := fun vs H Q _ => ∃ a : Addr, vs = [.ref a] ∧ Scr K H a ∧ ∀ H', Q (.bl true) H'
theorem sc_law : FnScope ["_law_script", "_law_kinds", "_law_cell", "_law_words", "_law_facts", "_law_layout", "_law_colour", "_law_name", "_law_job", "_law_due", "_law_shapes_here", "_law_names", "_law_printers", "_law_rows_here", "_law_fit", "_law_handed", "_law_found", "_law_refusal"] ["_law_script"] (defScope s_law) := ⟨rfl, rfl, rfl, by decide +kernel, rfl, by decide +kernel, by decide +kernel⟩
theorem ok_law {fa cJob cState cReady cStock cPrinter cBadLine cUnknown cTooMuch cBusy cNoPrinter cNoWay cHallError : Addr} {fd : FuncData} (F : Fun K "law" "law" s_law fa fd) (T : Txt K mg cJob cState cReady cStock cPrinter cBadLine cUnknown cTooMuch cBusy cNoPrinter cNoWay cHallError) (D__law_cell_at : Dfn P w K mg base 1 "_law_cell_at" ["_law_script", "_law_k"] (sp__law_cell_at K)) (D__law_word : Dfn P w K mg base 1 "_law_word" ["_law_cell", "_law_turn"] (sp__law_word K)) (M_Job : MkD P w K mg base 1 "Job" cJob ["self", "name", "asker", "pages", "copies", "layout", "paper", "cover", "colour", "staple", "after"] (sp_Job_init cJob)) (D__law_needs : Dfn P w K mg base 1 "_law_needs" ["_law_job"] (sp__law_needs K)) (D__law_shapes : Dfn P w K mg base 2 "_law_shapes" ["_law_script", "_law_kinds", "_law_job"] (sp__law_shapes K)) (D__law_asked : Dfn P w K mg base 8 "_law_asked" ["_law_job", "_law_printers"] (sp__law_asked cJob cPrinter cStock cReady)) (D__law_printer : Dfn P w K mg base 8 "_law_printer" ["_law_name", "_law_can", "_law_trays"] (sp__law_printer cPrinter cStock cReady)) (D_fitting : DfE P w K mg base 7 "fitting" ["job", "printers"] (sp_fitting cNoPrinter cJob cPrinter cStock cReady)) (D__law_mix : Dfn P w K mg base 1 "_law_mix" ["_law_cell", "_law_k", "_law_many"] (sp__law_mix K)) (D__law_lacking : Dfn P w K mg base 1 "_law_lacking" ["_law_due", "_law_can", "_law_trays"] (sp__law_lacking K)) (D__law_rows : Dfn P w K mg base 1 "_law_rows" ["_law_told", "_law_due"] (sp__law_rows K)) (D_Printer_paper_left : MtE P w K mg base 5 "paper_left" cPrinter ["self", "kind"] (sp_Pr_paper_left cPrinter cStock cReady)) :
    FnOk P w K mg base CX0 9 fa fd ["_law_script"] (sp_law K) := by
  refine F.ok sc_law (fun vs H Q E h => ?_) (fun cdv A outer s H vs Q E hr h => ?_)
  · obtain ⟨a, rfl, _⟩ := h
    rfl
  obtain ⟨a, rfl, ⟨ns, hS, h63⟩, q⟩ := h
  have hu := hu_n hr 0 (by decide)
  have hu0 := Nat.lt_of_le_of_lt (Nat.le_add_right _ _) hu
  have z1 : 1 ≤ sizeLine := small (by decide)
  have z2 : 2 ≤ sizeLine := small (by decide)
  have z3 : 3 ≤ sizeLine := small (by decide)
  refine ⟨_, (pss_cons (ps_comp (i := 1) (frees := [("_law_script", 0)]) ⟨by decide +kernel, rfl, rfl, by decide +kernel, ⟨⟨rfl, rfl, rfl, by decide +kernel⟩, trivial⟩, by decide +kernel, cellsFor_at rfl, rfl⟩ sc_law.nd rfl rfl rfl (pi_range1 rfl T.range (pa_cons pe_int pa_nil)) (fun _ _ _ _ => pifs_nil) (fun _ _ _ _ => by exact (pe_callD D__law_word (hr.mono (by decide)) rfl (pa_cons (pe_callD D__law_cell_at (hr.mono (by decide)) rfl (pa_cons (pv 1) (pa_cons pe_int pa_nil))) (pa_cons (pv 0) pa_nil)))))
  (pss_cons (ps_set (i := 2) sc_law.nd rfl (by first | exact Or.inl rfl | exact Or.inr rfl) (pe_callD D__law_cell_at (hr.mono (by decide)) rfl (pa_cons (pv 0) (pa_cons pe_int pa_nil))))
  (pss_cons (ps_comp (i := 3) (frees := [("_law_cell", 2)]) ⟨by decide +kernel, rfl, rfl, by decide +kernel, ⟨⟨rfl, rfl, rfl, by decide +kernel⟩, trivial⟩, by decide +kernel, cellsFor_at rfl, rfl⟩ sc_law.nd rfl rfl rfl (pi_range1 rfl T.range (pa_cons pe_int pa_nil)) (fun _ _ _ _ => by exact (pifs_one (pt_cmpR op_eq (pe_callD D__law_mix (hr.mono (by decide)) rfl (pa_cons (pv 1) (pa_cons (pv 0) (pa_cons pe_int pa_nil)))) pe_int (nomark _)))) (fun _ _ _ _ => by exact (pe_ixK (K := K) (r := rIxLA) rfl ix_listA (pe_lst (pa_cons pe_str (pa_cons pe_str (pa_cons pe_str pa_nil)))) (pv 0) (fun _ _ => rfl))))
  (pss_cons (ps_set (i := 4) sc_law.nd rfl (by first | exact Or.inl rfl | exact Or.inr rfl) (pe_tup (pa_cons (pe_ix ix_listA (pv 1) (pe_callD D__law_mix (hr.mono (by decide)) rfl (pa_cons (pv 2) (pa_cons pe_int (pa_cons pe_int pa_nil)))) (fun _ _ => rfl)) (pa_cons (pe_ix ix_listA (pe_lst (pa_cons pe_non (pa_cons (pe_ix ix_list (pv 1) pe_int (fun _ _ => rfl)) (pa_cons (pe_ix ix_list (pv 1) pe_int (fun _ _ => rfl)) pa_nil)))) (pe_callD D__law_mix (hr.mono (by decide)) rfl (pa_cons (pv 2) (pa_cons pe_int (pa_cons pe_int pa_nil)))) (fun _ _ => rfl)) (pa_cons (pv 3) pa_nil)))))
  (pss_cons (ps_set (i := 5) sc_law.nd rfl (by first | exact Or.inl rfl | exact Or.inr rfl) (pe_ix ix_listA (pe_lst (pa_cons pe_str (pa_cons (pe_ix ix_listA (pe_lst (pa_cons pe_str (pa_cons pe_str pa_nil))) (pe_callD D__law_mix (hr.mono (by decide)) rfl (pa_cons (pv 2) (pa_cons pe_int (pa_cons pe_int pa_nil)))) (fun _ _ => rfl)) pa_nil))) (pe_callTy call_int1 rfl T.int bt_int (pa_cons (pe_cmpR op_in_seq pe_str (pv 3) rfl) pa_nil)) (fun _ _ => rfl)))
  (pss_at (pss_cons (ps_set (i := 6) sc_law.nd rfl (by first | exact Or.inl rfl | exact Or.inr rfl) (pe_ix ix_listA (pe_lst (pa_cons pe_non (pa_cons (pe_tup (pa_cons pe_int (pa_cons pe_int pa_nil))) pa_nil))) (pe_callTy call_int1 rfl T.int bt_int (pa_cons (pe_cmpR op_in_seq pe_str (pv 3) rfl) pa_nil)) (fun _ _ => rfl)))
  (pss_cons (ps_set (i := 7) sc_law.nd rfl (by first | exact Or.inl rfl | exact Or.inr rfl) (pe_callD D__law_word (hr.mono (by decide)) rfl (pa_cons (pe_callD D__law_cell_at (hr.mono (by decide)) rfl (pa_cons (pv 0) (pa_cons pe_int pa_nil))) (pa_cons pe_int pa_nil))))
  (pss_cons (ps_set (i := 8) sc_law.nd rfl (by first | exact Or.inl rfl | exact Or.inr rfl) (pe_makeD M_Job (hr.mono (by decide)) rfl (pa_cons (pv 7) (pa_cons pe_str (pa_cons pe_int (pa_cons pe_int (pa_cons (pv 5) (pa_cons (pe_ix ix_tup (pv 4) pe_int (fun _ _ => rfl)) (pa_cons (pe_ix ix_tup (pv 4) pe_int (fun _ _ => rfl)) (pa_cons (pv 6) (pa_cons (pe_cmpR op_in_seq pe_str (pv 3) rfl) (pa_cons (pe_tup pa_nil) pa_nil))))))))))))
  (pss_at (pss_cons (ps_set (i := 9) sc_law.nd rfl (by first | exact Or.inl rfl | exact Or.inr rfl) (pe_callD D__law_needs (hr.mono (by decide)) rfl (pa_cons (pv 4) pa_nil)))
  (pss_cons (ps_set (i := 10) sc_law.nd rfl (by first | exact Or.inl rfl | exact Or.inr rfl) (pe_callD D__law_shapes (hr.mono (by decide)) rfl (pa_cons (pv 0) (pa_cons (pv 1) (pa_cons (pv 4) pa_nil)))))
  (pss_cons (ps_set (i := 11) sc_law.nd rfl (by first | exact Or.inl rfl | exact Or.inr rfl) (pe_comp (frees := [("_law_script", 0)]) ⟨by decide +kernel, rfl, rfl, by decide +kernel, ⟨⟨rfl, rfl, rfl, by decide +kernel⟩, trivial⟩, by decide +kernel, cellsFor_at rfl, rfl⟩ rfl (pi_range1 rfl T.range (pa_cons pe_int pa_nil)) (fun _ _ _ _ => pifs_nil) (fun _ _ _ _ => by exact (pe_callD D__law_word (hr.mono (by decide)) rfl (pa_cons (pe_callD D__law_cell_at (hr.mono (by decide)) rfl (pa_cons (pv 1) (pa_cons pe_int pa_nil))) (pa_cons (pv 0) pa_nil))))))
  (pss_cons (ps_comp (i := 12) (frees := [("_law_names", 11), ("_law_shapes_here", 10)]) ⟨by decide +kernel, rfl, rfl, by decide +kernel, ⟨⟨rfl, rfl, rfl, by decide +kernel⟩, ⟨⟨rfl, rfl, rfl, by decide +kernel⟩, trivial⟩⟩, by decide +kernel, cellsFor_at rfl, rfl⟩ sc_law.nd rfl rfl rfl (pi_range1 rfl T.range (pa_cons (pe_callB call_len_seq rfl T.len PySem.boot_len (pa_cons (pv 10) pa_nil)) pa_nil)) (fun _ _ _ _ => pifs_nil) (fun _ _ _ _ => by exact (pe_callD D__law_printer (hr.mono (by decide)) rfl (pa_cons (pe_ixK (K := K) (r := rIxLA) rfl ix_listA (pv 1) (pv 0) (fun _ _ => rfl)) (pa_cons (pe_ixK (K := K) (r := rIxT) rfl ix_tup (pe_ixK (K := K) (r := rIxLA) rfl ix_listA (pv 2) (pv 0) (fun _ _ => rfl)) pe_int (fun _ _ => rfl)) (pa_cons (pe_ixK (K := K) (r := rIxT) rfl ix_tup (pe_ixK (K := K) (r := rIxLA) rfl ix_listA (pv 2) (pv 0) (fun _ _ => rfl)) pe_int (fun _ _ => rfl)) pa_nil))))))
  (pss_at (pss_cons (ps_comp (i := 13) (frees := [("_law_names", 11), ("_law_due", 9), ("_law_shapes_here", 10)]) ⟨by decide +kernel, rfl, rfl, by decide +kernel, ⟨⟨rfl, rfl, rfl, by decide +kernel⟩, ⟨⟨rfl, rfl, rfl, by decide +kernel⟩, ⟨⟨rfl, rfl, rfl, by decide +kernel⟩, trivial⟩⟩⟩, by decide +kernel, cellsFor_at rfl, rfl⟩ sc_law.nd rfl rfl rfl (pi_range1 rfl T.range (pa_cons (pe_callB call_len_seq rfl T.len PySem.boot_len (pa_cons (pv 10) pa_nil)) pa_nil)) (fun _ _ _ _ => pifs_nil) (fun _ _ _ _ => by exact (pe_tup (pa_cons (pe_ixK (K := K) (r := rIxLA) rfl ix_listA (pv 1) (pv 0) (fun _ _ => rfl)) (pa_cons (pe_callD D__law_lacking (hr.mono (by decide)) rfl (pa_cons (pv 2) (pa_cons (pe_ixK (K := K) (r := rIxT) rfl ix_tup (pe_ixK (K := K) (r := rIxLA) rfl ix_listA (pv 3) (pv 0) (fun _ _ => rfl)) pe_int (fun _ _ => rfl)) (pa_cons (pe_ixK (K := K) (r := rIxT) rfl ix_tup (pe_ixK (K := K) (r := rIxLA) rfl ix_listA (pv 3) (pv 0) (fun _ _ => rfl)) pe_int (fun _ _ => rfl)) pa_nil)))) pa_nil)))))
  (pss_cons (ps_comp (i := 14) (frees := []) ⟨by decide +kernel, rfl, rfl, by decide +kernel, trivial, by decide +kernel, cellsFor_at rfl, rfl⟩ sc_law.nd rfl rfl rfl (pi_list (pv 13)) (fun _ _ _ _ => by exact (pifs_one (pt_cmpR (op_eq_listK (K := K) rfl hu0) (pe_ixK (K := K) (r := rIxT) rfl ix_tup (pv 0) pe_int (fun _ _ => rfl)) (pe_lst pa_nil) (nomark _)))) (fun _ _ _ _ => by exact (pe_ixK (K := K) (r := rIxT) rfl ix_tup (pv 0) pe_int (fun _ _ => rfl))))
  (pss_cons (ps_set (i := 15) sc_law.nd rfl (by first | exact Or.inl rfl | exact Or.inr rfl) (pe_callTy call_list_of rfl T.list bt_list (pa_cons (pv 12) pa_nil)))
  (pss_cons (ps_asg (pe_callD D__law_asked (hr.mono (by decide)) rfl (pa_cons (pv 8) (pa_cons (pv 15) pa_nil))) (pg_tup rfl (pgs_cons (pg_name (i := 16) sc_law.nd rfl (by first | exact Or.inl rfl | exact Or.inr rfl)) (pgs_cons (pg_name (i := 17) sc_law.nd rfl (by first | exact Or.inl rfl | exact Or.inr rfl)) pgs_nil))))
  (pss_at (pss_cons (ps_if (pt_cmpR op_ne (pe_callB call_len_seq rfl T.len PySem.boot_len (pa_cons (pv 15) pa_nil)) (pe_callB call_len_seq rfl T.len PySem.boot_len (pa_cons (pv 12) pa_nil)) (nomark _)) (pss_one (ps_ret pe_bl)) pss_nil)
  (pss_cons (ps_if (pt_cmpR op_gt (pe_callB call_len_seq rfl T.len PySem.boot_len (pa_cons (pv 14) pa_nil)) pe_int (nomark _)) (pss_cons (ps_if (PW.pt (pw_or (pt_cmpR op_notN (pv 17) pe_non (nomark _)) (pw_or (pt_not (pt_truth (pe_callB call_isi rfl T.isinstance bt_isi (pa_cons (pv 16) (pa_cons (pe_bltn rfl T.list bt_list (rel_ty _)) pa_nil))) (fun _ => rfl))) (pw_or1 (pt_cmpR (op_ne_list hu0) (pv 16) (pv 14) (nomark _)))))) (pss_one (ps_ret pe_bl)) pss_nil)
  (pss_cons (ps_expr (pe_bm PySem.F.plainAttrs_list PySem.F.slot_list_append PySem.F.type_list_append mt_append (pv 16) (pa_cons pe_str pa_nil)))
  (pss_one (ps_ret (pe_and (pe_cmpR (op_eq_list hu0) (pe_callE D_fitting passE0 (hr.mono (by decide)) rfl (pa_cons (pv 8) (pa_cons (pv 15) pa_nil))) (pv 14) (nomark _)) (pe_one (pe_cmpR op_eq (pe_methE 5 passE0 (hr.mono (by decide)) (pe_ix ix_list (pv 12) pe_int (fun _ _ => rfl)) (pa_cons (pe_ix ix_list (pe_ix ix_tup (pe_ix ix_list (pv 10) pe_int (fun _ _ => rfl)) pe_int (fun _ _ => rfl)) pe_int (fun _ _ => rfl)) pa_nil)) pe_int (nomark _)))))))) pss_nil)
  (pss_cons (ps_if (PW.pt (pw_or (pt_cmpR op_notN (pv 16) pe_non (nomark _)) (pw_or (pt_cmpR op_isN (pv 17) pe_non (nomark _)) (pw_or (pt_cmpR op_ne (pe_ix ix_tup (pv 17) pe_int (fun _ _ => rfl)) (pv 7) (nomark _)) (pw_or1 (pt_not (pt_truth (pe_callD D__law_rows (hr.mono (by decide)) rfl (pa_cons (pe_ix ix_tup (pv 17) pe_int (fun _ _ => rfl)) (pa_cons (pv 13) pa_nil))) (fun _ => rfl)))))))) (pss_one (ps_ret pe_bl)) pss_nil)
  (pss_cons (ps_expr (pe_bm PySem.F.plainAttrs_list PySem.F.slot_list_append PySem.F.type_list_append mt_append (pv 15) (pa_cons (pe_callD D__law_printer (hr.mono (by decide)) rfl (pa_cons (pe_ix ix_list (pv 11) pe_int (fun _ _ => rfl)) (pa_cons (pe_lst (pa_cons pe_str (pa_cons pe_str (pa_cons pe_str pa_nil)))) (pa_cons (pv 1) pa_nil)))) pa_nil)))
  (pss_one (ps_ret (pe_cmpR (op_eq_list hu0) (pe_callE D_fitting passE0 (hr.mono (by decide)) rfl (pa_cons (pv 8) (pa_cons (pv 15) pa_nil))) (pe_lst (pa_cons (pe_ix ix_list (pv 11) pe_int (fun _ _ => rfl)) pa_nil)) (nomark _)))))))))))))))))))))))))))), ?_⟩
  generalize hc0 : ns.getD 0 0 = c0
  refine ⟨_, rfl, by decide, by decide, ?_⟩
  refine compB_seq (seq_range 0 (3 : Int).toNat H) (fun _ => true) (fun x => match x with | .int t => .str (wordP c0 t (wSize c0)) | v => v) (by rw [List.length_map, List.length_range]; exact small1000 (by decide)) (fun x hx H' R _ r => r) (fun x hx H' R sm _ r => ?_) (fun ka H1 s1 nka hka => ?_)
  · obtain ⟨j, hj, rfl⟩ := List.mem_map.mp hx
    refine ⟨_, rfl, a, 0, ns, rfl, sm.seq hS, by decide, _, rfl, _, _, rfl, ?_⟩
    rw [show ns.getD (Int.toNat 0) 0 = c0 from hc0]
    exact r
  obtain ⟨ks, hks, ndk, l3, l20⟩ : ∃ ks : List Str, H1 ka = some (.lst (ks.map V.str)) ∧ ks.Nodup ∧ ks.length = 3 ∧ ∀ z ∈ ks, z.length ≤ 20 := by
    refine ⟨(List.range 3).map fun j => wordP c0 ((j : Nat) : Int) (wSize c0), ?_, ?_, ?_, ?_⟩
    · rw [hka]
      refine congrArg (fun l => some (HO.lst l)) ?_
      rw [List.filter_eq_self.mpr fun _ _ => rfl, List.map_map, List.map_map]
      refine List.map_congr_left fun j _ => ?_
      show V.str (wordP c0 (0 + (j : Int)) _) = V.str (wordP c0 (j : Int) _)
      rw [Int.zero_add]
    · refine nd_map47 List.nodup_range fun x hx y hy e => ?_
      have hx' := List.mem_range.mp hx
      have hy' := List.mem_range.mp hy
      have := word_ne (c := c0) (t := (x : Int)) (u := (y : Int)) (by omega) (by omega) (by omega) (by omega) e
      omega
    · rw [List.length_map, List.length_range]
    · intro z hz
      obtain ⟨j, _, rfl⟩ := List.mem_map.mp hz
      rw [word_len]
      unfold wSize
      have := Int.emod_lt_of_pos c0 (show (0 : Int) < 12 by decide)
      omega
  clear hka
  refine ⟨_, rfl, a, 1, ns, rfl, s1.seq hS, by decide, ?_⟩
  generalize ns.getD (Int.toNat 1) 0 = c
  refine ⟨_, rfl, by decide, by decide, ?_⟩
  refine compB_any (seq_range 0 (3 : Int).toNat H1) (fun x y => ∃ o, y = V.str o) (by rw [List.length_map, List.length_range]; exact small1000 (by decide)) (fun x hx G1 R sm rr => ?_) (fun x hx G1 R sm rr => ?_) (fun wl H2 zs2 ys2 s2 nwl hwl hs2 ly2 gy2 => ?_)
  · obtain ⟨j, hj', rfl⟩ := List.mem_map.mp hx
    have hj3 : j < 3 := List.mem_range.mp hj'
    exact ⟨_, rfl, _, rfl, c, _, 2, rfl, by omega, by omega, by decide, fun G2 k2 => ⟨rfl, _, rfl, rr _ G2 k2⟩⟩
  · obtain ⟨j, hj', rfl⟩ := List.mem_map.mp hx
    have hj3 : j < 3 := List.mem_range.mp hj'
    refine ⟨z3, fun wp nwp => ?_⟩
    have k2 := same_new nwp (.lst (three48.map V.str))
    have hwp : upd G1 wp (.lst (three48.map V.str)) wp = some (.lst (three48.map V.str)) := upd_same
    refine ⟨_, rfl, wp, _, _, rfl, rfl, SqL.of hwp, by omega, by show 0 + (j : Int) < 3; omega, fun y hy => ?_⟩
    obtain ⟨o, rfl, _⟩ := str47 hy
    exact rr _ _ k2 ⟨o, rfl⟩
  obtain ⟨ws, rfl⟩ := strs47 ys2 fun y hy => by
    obtain ⟨n, hn⟩ := List.mem_iff_getElem?.mp hy
    have hln := (List.getElem?_eq_some_iff.mp hn).1
    exact gy2 n _ y (List.getElem?_eq_getElem (by omega)) hn
  clear gy2 ly2 hs2
  have lk : (((ks.map V.str).length : Nat) : Int) = 3 := by rw [List.length_map, l3]; rfl
  refine ⟨_, rfl, _, rfl, c, 4, 3, rfl, by decide, by decide, by decide, fun H3 s3 => ⟨ka, _, _, rfl, rfl, SqL.of ((s2.trans s3) _ _ hks), mix_lo (by decide), by rw [lk]; exact mix_hi (by decide), fun v hv => ?_⟩⟩
  obtain ⟨p, rfl, hp⟩ := str47 hv
  have s13 := s2.trans s3
  obtain ⟨k0, k1, k2, rfl⟩ : ∃ k0 k1 k2, ks = [k0, k1, k2] := by
    match ks, l3 with
    | [x, y, z], _ => exact ⟨x, y, z, rfl⟩
  have hk3 := s13 _ _ hks
  refine ⟨_, rfl, ka, _, 0, _, rfl, rfl, SqL.of hk3, rfl, _, rfl, ka, _, 1, _, rfl, rfl, SqL.of hk3, rfl, z3, fun p2 n2 => ?_⟩
  have t4 := same_new n2 (.lst [V.non, V.str k0, V.str k1])
  have hp2 : upd H3 p2 (.lst [V.non, V.str k0, V.str k1]) p2 = some (.lst [V.non, V.str k0, V.str k1]) := upd_same
  generalize upd H3 p2 (.lst [V.non, V.str k0, V.str k1]) = H4 at t4 hp2 ⊢
  refine ⟨_, rfl, c, 5, 3, rfl, by decide, by decide, by decide, fun H5 s5 => ⟨p2, _, _, rfl, rfl, SqL.of (s5 _ _ hp2), mix_lo (by decide), by show mixV c 5 3 < 3; exact mix_hi (by decide), fun v hv => ?_⟩⟩
  obtain ⟨cv, rfl, hcv⟩ : ∃ cv, v = cvV cv ∧ ∀ x, cv = some x → x ∈ [k0, k1, k2] := by
    have hm := List.mem_of_getElem? hv
    simp only [List.mem_cons, List.not_mem_nil, or_false] at hm
    rcases hm with rfl | rfl | rfl
    · exact ⟨none, rfl, fun x e => by cases e⟩
    · exact ⟨some k0, rfl, fun x e => by cases e; simp⟩
    · exact ⟨some k1, rfl, fun x e => by cases e; simp⟩
  have s15 := s13.trans (t4.trans s5)
  have t25 : Same H2 H5 := s3.trans (t4.trans s5)
  refine ⟨_, rfl, z3, fun ft nft => ?_⟩
  have t6 := same_new nft (.tup [V.str p, cvV cv, V.ref wl])
  have hft : upd H5 ft (.tup [V.str p, cvV cv, V.ref wl]) ft = some (.tup [V.str p, cvV cv, V.ref wl]) := upd_same
  generalize upd H5 ft (.tup [V.str p, cvV cv, V.ref wl]) = H6 at t6 hft ⊢
  have t26 := t25.trans t6
  have hwl6 := t26 _ _ hwl
  refine ⟨z2, fun i1 n1 => ?_⟩
  have t7 := same_new n1 (.lst [V.str (Str.ofString "both"), V.str (Str.ofString "up:3")])
  have hi1 : upd H6 i1 (.lst [V.str (Str.ofString "both"), V.str (Str.ofString "up:3")]) i1 = some (.lst ([boW, Str.ofString "up:3"].map V.str)) := upd_same
  generalize upd H6 i1 (.lst [V.str (Str.ofString "both"), V.str (Str.ofString "up:3")]) = H7 at t7 hi1 ⊢
  refine ⟨_, rfl, c, 6, 2, rfl, by decide, by decide, by decide, fun H8 s8 => ⟨i1, _, _, rfl, rfl, SqL.of (s8 _ _ hi1), mix_lo (by decide), by show mixV c 6 2 < 2; exact mix_hi (by decide), fun v hv => ?_⟩⟩
  obtain ⟨ly2, rfl, hly2⟩ := str47 hv
  have nly : ly2 ≠ Str.ofString "one" := by
    simp only [List.mem_cons, List.not_mem_nil, or_false] at hly2
    rcases hly2 with rfl | rfl <;> decide +kernel
  refine ⟨z2, fun i2 n2' => ?_⟩
  have t9 := same_new n2' (.lst [V.str (Str.ofString "one"), V.str ly2])
  have hi2 : upd H8 i2 (.lst [V.str (Str.ofString "one"), V.str ly2]) i2 = some (.lst [V.str (Str.ofString "one"), V.str ly2]) := upd_same
  generalize upd H8 i2 (.lst [V.str (Str.ofString "one"), V.str ly2]) = H9 at t9 hi2 ⊢
  have t69 := t7.trans (s8.trans t9)
  refine ⟨_, rfl, wl, _, rfl, .inl (SqL.of (t69 _ _ hwl6)), rfl, flat47 _, .inr ⟨_, rfl, ?_⟩⟩
  rw [if_neg (show ¬ (false = true) by decide), in_strs]
  obtain ⟨lay, elay, hone⟩ : ∃ lay : Str, ([V.str (Str.ofString "one"), V.str ly2])[(if decide (boW ∈ ws) = true then (1 : Int) else 0).toNat]? = some (V.str lay) ∧ decide (lay = Str.ofString "one") = !decide (boW ∈ ws) := by
    cases decide (boW ∈ ws) with
    | true => exact ⟨ly2, rfl, decide_eq_false nly⟩
    | false => exact ⟨Str.ofString "one", rfl, decide_eq_true rfl⟩
  refine ⟨i2, _, _, rfl, rfl, SqL.of hi2, by split <;> decide, by show (if decide (boW ∈ ws) = true then (1 : Int) else 0) < 2; split <;> decide, fun v hv => ?_⟩
  obtain rfl : V.str lay = v := Option.some.inj (elay.symm.trans hv)
  have s19 := s15.trans (t6.trans t69)
  have t29 := t26.trans t69
  clear hi1 hi2 hv elay
  refine ⟨[some (.ref a), some (.ref ka), some (.int c), some (.ref wl), some (.ref ft), some (.str lay), none, none, none, none, none, none, none, none, none, none, none, none], rfl, z2, fun u2 nu2 => ?_⟩
  have t10 := same_new nu2 (.tup [V.int 2, V.int 2])
  generalize upd H9 u2 (.tup [V.int 2, V.int 2]) = H10 at t10 ⊢
  refine ⟨z2, fun i3 n3 => ?_⟩
  have t11 := same_new n3 (.lst [V.non, V.ref u2])
  have hi3 : upd H10 i3 (.lst [V.non, V.ref u2]) i3 = some (.lst [V.non, V.ref u2]) := upd_same
  generalize upd H10 i3 (.lst [V.non, V.ref u2]) = H11 at t11 hi3 ⊢
  have t211 := t29.trans (t10.trans t11)
  refine ⟨_, rfl, wl, _, rfl, .inl (SqL.of (t211 _ _ hwl)), rfl, flat47 _, .inr ⟨_, rfl, ?_⟩⟩
  rw [if_neg (show ¬ (false = true) by decide), in_strs]
  obtain ⟨hc, ehc, hco⟩ : ∃ hc : V, ([V.non, V.ref u2])[(if decide (clW ∈ ws) = true then (1 : Int) else 0).toNat]? = some hc ∧ decide (hc ≠ .non) = decide (clW ∈ ws) := by
    cases decide (clW ∈ ws) with
    | true => exact ⟨V.ref u2, rfl, decide_eq_true (by intro z; cases z)⟩
    | false => exact ⟨V.non, rfl, decide_eq_false (fun z => z rfl)⟩
  refine ⟨i3, _, _, rfl, rfl, SqL.of hi3, by split <;> decide, by show (if decide (clW ∈ ws) = true then (1 : Int) else 0) < 2; split <;> decide, fun v hv => ?_⟩
  obtain rfl : hc = v := Option.some.inj (ehc.symm.trans hv)
  have s111 := s19.trans (t10.trans t11)
  have t611 := t69.trans (t10.trans t11)
  clear hv ehc hi3
  refine ⟨_, rfl, a, 2, ns, rfl, (s1.trans s111).seq hS, by decide, _, 0, rfl, ?_⟩
  generalize hc2 : ns.getD (Int.toNat 2) 0 = c2
  have hft11 := t611 _ _ hft
  have hwl11 := t211 _ _ hwl
  refine ⟨_, rfl, _, rfl, _, rfl, ft, _, 0, _, rfl, rfl, SqT.of hft11, rfl, _, rfl, ft, _, 1, _, rfl, rfl, SqT.of hft11, rfl, _, rfl, _, rfl, wl, _, rfl, .inl (SqL.of hwl11), rfl, flat47 _, Nat.zero_le _, fun j0 nj0 => ?_⟩
  rw [if_neg (show ¬ (false = true) by decide), in_strs]
  have t12 := same_new nj0 (.tup [])
  generalize upd H11 j0 (.tup []) = H12 at t12 ⊢
  refine fun x dx nx ndx nxd => ?_
  refine ⟨x, dx, _, _, _, _, _, _, _, _, _, _, rfl, upd_same, ⟨rfl, ?_⟩⟩
  have t13 : Same H12 (upd (upd (upd H12 dx (.own x)) x (.ins cJob dx [])) x (.ins cJob dx (jobF (.str (wordP c2 0 (wSize c2))) (.str (Str.ofString "ann")) (.int 2) (.int 1) (.str lay) (.str p) (cvV cv) hc (.bl (decide (stW ∈ ws))) (.ref j0)))) := fun b o e => by
    have b1 : b ≠ x := ne_of_none e nx
    rw [upd_ne b1, upd_ne b1, upd_ne (ne_of_none e ndx)]
    exact e
  have hx13 : upd (upd (upd H12 dx (.own x)) x (.ins cJob dx [])) x (.ins cJob dx (jobF (.str (wordP c2 0 (wSize c2))) (.str (Str.ofString "ann")) (.int 2) (.int 1) (.str lay) (.str p) (cvV cv) hc (.bl (decide (stW ∈ ws))) (.ref j0))) x = some (.ins cJob dx (jobF (.str (wordP c2 0 (wSize c2))) (.str (Str.ofString "ann")) (.int 2) (.int 1) (.str lay) (.str p) (cvV cv) hc (.bl (decide (stW ∈ ws))) (.ref j0))) := upd_same
  generalize upd (upd (upd H12 dx (.own x)) x (.ins cJob dx [])) x (.ins cJob dx (jobF (.str (wordP c2 0 (wSize c2))) (.str (Str.ofString "ann")) (.int 2) (.int 1) (.str lay) (.str p) (cvV cv) hc (.bl (decide (stW ∈ ws))) (.ref j0))) = H13 at t13 hx13 ⊢
  have J13 : JobN cJob H13 x (wordP c2 0 (wSize c2)) p cv (!decide (boW ∈ ws)) (decide (clW ∈ ws)) (decide (stW ∈ ws)) := ⟨dx, _, _, _, hc, _, lay, hx13, hone, hco⟩
  have t1113 := t12.trans t13
  have s113 := s111.trans t1113
  have lp : p.length ≤ 20 := l20 p hp
  have lc : ∀ z, cv = some z → z.length ≤ 20 := fun z e => l20 z (hcv z e)
  refine ⟨[some (.ref a), some (.ref ka), some (.int c), some (.ref wl), some (.ref ft), some (.str lay), some (hc), some (.str (wordP c2 0 (wSize c2))), some (.ref x), none, none, none, none, none, none, none, none, none], rfl, ?_⟩
  refine ⟨_, rfl, ft, wl, p, cv, ws, rfl, t1113 _ _ hft11, t1113 _ _ hwl11, lp, lc, fun da H14 s14 nda hda => ?_⟩
  have t1114 := t1113.trans s14
  have s114 := s111.trans t1114
  refine ⟨_, rfl, _, rfl, _, rfl, a, ka, ft, ns, [k0, k1, k2], p, cvV cv, V.ref wl, rfl, (s1.trans s114).seq hS, h63, s114 _ _ hks, rfl, ndk, t1114 _ _ hft11, fun sl sh H15 s15' nsl SH oks l8 => ?_⟩
  have s115 := s114.trans s15'
  refine ⟨_, rfl, by decide, by decide, ?_⟩
  refine compB_seq (seq_range 0 (10 : Int).toNat H15) (fun _ => true) (fun x => match x with | .int t => .str (wordP c2 t (wSize c2)) | v => v) (by rw [List.length_map, List.length_range]; exact small1000 (by decide)) (fun x hx H' R _ r => r) (fun x hx H' R sm _ r => ?_) (fun nl H16 s16 nnl hnl => ?_)
  · obtain ⟨j, hj, rfl⟩ := List.mem_map.mp hx
    refine ⟨_, rfl, a, 2, ns, rfl, ((s1.trans s115).trans sm).seq hS, by decide, _, rfl, _, _, rfl, ?_⟩
    rw [hc2]
    exact r
  have hnl' : H16 nl = some (.lst (((List.range 10).map fun j => wordP c2 ((j : Nat) : Int) (wSize c2)).map V.str)) := by
    rw [hnl]
    refine congrArg (fun l => some (HO.lst l)) ?_
    rw [List.filter_eq_self.mpr fun _ _ => rfl, List.map_map, List.map_map]
    refine List.map_congr_left fun j _ => ?_
    show V.str (wordP c2 (0 + (j : Int)) _) = V.str (wordP c2 (j : Int) _)
    rw [Int.zero_add]
  clear hnl
  have ln10 : (((((List.range 10).map fun j => wordP c2 ((j : Nat) : Int) (wSize c2)).map V.str).length : Nat) : Int) = 10 := by rw [List.length_map, List.length_map, List.length_range]; rfl
  have SH16 := SH.same s16
  have lsh : (sh.map fun s => V.ref s.1).length = sh.length := List.length_map _
  refine ⟨_, rfl, sl, _, rfl, .inl (SqL.of SH16.l), _, rfl, by omega, by omega, ?_⟩
  refine compB_off (seq_range 0 (((sh.map fun s => V.ref s.1).length : Nat) : Int).toNat H16) (fun D x y G => ∃ (j : Nat) (s : Sh48) (px : Addr) (d : PD), x = .int (0 + (j : Int)) ∧ sh[j]? = some s ∧ y = .ref px ∧ Pr47 cPrinter cStock cReady G px d s.2.2.2.1 ∧ d.name = wordP c2 (j : Int) (wSize c2) ∧ d.rs.map (·.1) = s.2.2.2.2 ∧ (∀ z0, s.2.2.2.2[0]? = some z0 → d.am.lookup z0 = some 7) ∧ d.ins ≠ D) (by rw [List.length_map, List.length_range]; exact small1000 (by omega)) (fun x hx H' R _ r => r) (fun D x y G G' ys hD k g => ?_) (fun D x hx G R ys sm hD rr => ?_) (fun pl H17 ys s17 npl hpl ly gy => ?_)
  · obtain ⟨j, s, px, d, e1, e2, e3, P, e4, e5, e6, ni⟩ := g
    exact ⟨j, s, px, d, e1, e2, e3, P.off hD ni k, e4, e5, e6, ni⟩
  · obtain ⟨j, hj, rfl⟩ := List.mem_map.mp hx
    have hj' : j < sh.length := by have := List.mem_range.mp hj; omega
    obtain ⟨s, es⟩ : ∃ s, sh[j]? = some s := ⟨_, List.getElem?_eq_getElem hj'⟩
    have ms := List.mem_of_getElem? es
    have SG := SH16.same sm
    obtain ⟨ndt, lt6, nn⟩ := oks s ms
    obtain ⟨z0, ez0⟩ : ∃ z0, s.2.2.2.2[0]? = some z0 := by
      cases e : s.2.2.2.2 with
      | nil => exact absurd e nn
      | cons z r => exact ⟨z, rfl⟩
    have ej : (0 + ((j : Nat) : Int)).toNat = j := by omega
    refine ⟨_, rfl, _, rfl, nl, _, _, rfl, rfl, SqL.of (sm _ _ hnl'), by omega, by rw [ln10]; omega, fun v hv => ?_⟩
    rw [ej] at hv
    obtain rfl := nm_at (by omega) hv
    refine ⟨_, rfl, _, rfl, sl, _, _, rfl, rfl, SqL.of SG.l, by omega, by rw [lsh]; omega, fun v hv => ?_⟩
    rw [ej] at hv
    obtain rfl := sh_at es hv
    refine ⟨s.1, _, 0, _, rfl, rfl, SqT.of (SG.t s ms), rfl, ?_⟩
    refine ⟨_, rfl, _, rfl, sl, _, _, rfl, rfl, SqL.of SG.l, by omega, by rw [lsh]; omega, fun v hv => ?_⟩
    rw [ej] at hv
    obtain rfl := sh_at es hv
    refine ⟨s.1, _, 1, _, rfl, rfl, SqT.of (SG.t s ms), rfl, ?_⟩
    refine ⟨_, s.2.1, s.2.2.1, s.2.2.2.1, s.2.2.2.2, z0, rfl, SG.c s ms, SG.y s ms, ndt, ez0, lt6, fun px d G' k npx P en er el ni => ?_⟩
    refine rr _ _ k ⟨j, s, px, d, rfl, es, rfl, P, en, er, fun z e => ?_, fun z => ?_⟩
    · rw [ez0] at e
      obtain rfl := Option.some.inj e
      exact el
    · rw [z, hD] at ni
      cases ni
  obtain ⟨prs, rfl, lpr, gpr⟩ := prs_of (ys := ys) (sh := sh) (PP := fun i s px d => Pr47 cPrinter cStock cReady H17 px d s.2.2.2.1 ∧ d.name = wordP c2 ((i : Nat) : Int) (wSize c2) ∧ d.rs.map (·.1) = s.2.2.2.2 ∧ (∀ z0, s.2.2.2.2[0]? = some z0 → d.am.lookup z0 = some 7)) (by rw [ly, List.length_map, List.length_range]; omega) fun i y s ey es => by
    have hi : i < sh.length := (List.getElem?_eq_some_iff.mp es).1
    obtain ⟨j, s', px, d, e1, e2, e3, P, e4, e5, e6, _⟩ := gy i (.int (0 + ((i : Nat) : Int))) y (by rw [List.getElem?_map, List.getElem?_range (by omega)]; rfl) ey
    injection e1 with e1
    have : j = i := by omega
    subst this
    rw [es] at e2
    obtain rfl := Option.some.inj e2
    exact ⟨px, d, e3, P, e4, e5, e6⟩
  clear gy ly
  have SH17 := SH16.same s17
  have s1417 : Same H14 H17 := s15'.trans (s16.trans s17)
  have hda17 := s1417 _ _ hda
  have hnl17 := s17 _ _ hnl'
  obtain ⟨l5, l100⟩ := len_needN (one := !decide (boW ∈ ws)) (co := decide (clW ∈ ws)) (st := decide (stW ∈ ws)) lp lc
  have hda17' : H17 da = some (.lst ((needN p cv (!decide (boW ∈ ws)) (decide (clW ∈ ws)) (decide (stW ∈ ws))).map fun n => V.str n.s)) := hda17
  generalize hone' : (!decide (boW ∈ ws)) = one at J13 l5 l100 hda17'
  generalize hco' : decide (clW ∈ ws) = co at J13 l5 l100 hda17'
  generalize hst' : decide (stW ∈ ws) = st at J13 l5 l100 hda17'
  generalize hNN : needN p cv one co st = NN at l5 l100 hda17'
  refine ⟨[some (.ref a), some (.ref ka), some (.int c), some (.ref wl), some (.ref ft), some (.str lay), some (hc), some (.str (wordP c2 0 (wSize c2))), some (.ref x), some (.ref da), some (.ref sl), some (.ref nl), some (.ref pl), none, none, none, none, none], rfl, ?_⟩
  refine ⟨_, rfl, sl, _, rfl, .inl (SqL.of SH17.l), _, rfl, by omega, by omega, ?_⟩
  refine compB_mk (seq_range 0 (((sh.map fun s => V.ref s.1).length : Nat) : Int).toNat H17) (fun x y G => ∃ (j : Nat) (q : Addr × PD × List Str), x = .int (0 + (j : Int)) ∧ prs[j]? = some q ∧ RowV G y (rowOf NN q)) (by rw [List.length_map, List.length_range]; exact small1000 (by omega)) (fun x hx H' R _ r => r) (fun x hx G R sm rr => ?_) (fun rl H18 ys s18 nrl hrl ly gy => ?_)
  · obtain ⟨j, hj, rfl⟩ := List.mem_map.mp hx
    have hj' : j < sh.length := by have := List.mem_range.mp hj; omega
    obtain ⟨s, es⟩ : ∃ s, sh[j]? = some s := ⟨_, List.getElem?_eq_getElem hj'⟩
    obtain ⟨q', eq'⟩ : ∃ q', prs[j]? = some q' := ⟨_, List.getElem?_eq_getElem (by omega)⟩
    obtain ⟨⟨_, en, er, _⟩, ec⟩ := gpr j q' s eq' es
    have ms := List.mem_of_getElem? es
    have SG := SH17.same sm
    have ej : (0 + ((j : Nat) : Int)).toNat = j := by omega
    refine ⟨_, rfl, _, rfl, nl, _, _, rfl, rfl, SqL.of (sm _ _ hnl17), by omega, by rw [ln10]; omega, fun v hv => ?_⟩
    rw [ej] at hv
    obtain rfl := nm_at (by omega) hv
    refine ⟨_, rfl, _, rfl, _, rfl, sl, _, _, rfl, rfl, SqL.of SG.l, by omega, by rw [lsh]; omega, fun v hv => ?_⟩
    rw [ej] at hv
    obtain rfl := sh_at es hv
    refine ⟨s.1, _, 0, _, rfl, rfl, SqT.of (SG.t s ms), rfl, ?_⟩
    refine ⟨_, rfl, _, rfl, sl, _, _, rfl, rfl, SqL.of SG.l, by omega, by rw [lsh]; omega, fun v hv => ?_⟩
    rw [ej] at hv
    obtain rfl := sh_at es hv
    refine ⟨s.1, _, 1, _, rfl, rfl, SqT.of (SG.t s ms), rfl, ?_⟩
    refine ⟨da, s.2.1, s.2.2.1, NN, s.2.2.2.1, s.2.2.2.2, rfl, sm _ _ hda17', SG.c s ms, SG.y s ms, l5, l100, fun m G1 k1 nm hm => ⟨z2, fun t nt => ?_⟩⟩
    have k2 := same_new nt (.tup [V.str (wordP c2 (j : Int) (wSize c2)), V.ref m])
    have erow : rowOf NN q' = (wordP c2 (j : Int) (wSize c2), lackN s.2.2.2.2 s.2.2.2.1 NN) := by
      unfold rowOf
      rw [en, er, ec]
    refine rr _ _ (k1.trans k2) ⟨fun b => b = t ∨ b = m, fun b hb => ?_, fun H3 h3 => ⟨j, q', rfl, eq', t, m, rfl, ?_, ?_⟩⟩
    · rcases hb with rfl | rfl
      · exact ⟨k1.free nt, _, upd_same⟩
      · exact ⟨nm, _, k2 _ _ hm⟩
    · rw [h3 t (.inl rfl), upd_same, erow]
    · rw [h3 m (.inr rfl), k2 _ _ hm, erow]
  have RV18 : RowsV H18 (.ref rl) (prs.map (rowOf NN)) := by
    refine ⟨rl, ys, rfl, hrl, by have := List.length_map (as := prs) (rowOf NN); rw [ly, List.length_map, List.length_range]; omega, fun i v r ev er => ?_⟩
    rw [List.getElem?_map] at er
    obtain ⟨q', eq', rfl⟩ := Option.map_eq_some_iff.mp er
    have hi := (List.getElem?_eq_some_iff.mp eq').1
    obtain ⟨j, q2, e1, e2, h⟩ := gy i (.int (0 + ((i : Nat) : Int))) v (by rw [List.getElem?_map, List.getElem?_range (by omega)]; rfl) ev
    injection e1 with e1
    have : j = i := by omega
    subst this
    rw [eq'] at e2
    obtain rfl := Option.some.inj e2
    exact h
  obtain ⟨_, _, eRl, hrl', lr, gr⟩ := id RV18
  cases eRl
  rw [hrl] at hrl'
  obtain rfl := inj_lst hrl'
  clear gy ly
  refine ⟨_, rfl, rl, rfl, ⟨_, SqL.of hrl⟩, ?_⟩
  refine compB_mkf (seq_list (K := K) (SqL.of hrl)) (pK H18) (fun x y _ => y = gK H18 x) (small1000 (by rw [lr, List.length_map]; omega)) (fun v hv G R sG rr => ?_) (fun v hv G R sG pp rr => ?_) (fun fl H19 ys' s19 nfl hfl ly' gy' => ?_)
  · obtain ⟨i, ei⟩ := List.mem_iff_getElem?.mp hv
    obtain ⟨r, er⟩ : ∃ r, (prs.map (rowOf NN))[i]? = some r := ⟨_, List.getElem?_eq_getElem (by rw [← lr]; exact (List.getElem?_eq_some_iff.mp ei).1)⟩
    have h := gr i v r ei er
    rw [pK_row h] at rr
    obtain ⟨t, m, rfl, ht, hm⟩ := h
    refine ⟨_, rfl, t, _, 1, _, rfl, rfl, SqT.of (sG _ _ ht), rfl, Nat.zero_le _, fun e ne => ⟨m, e, _, _, rfl, rfl, SqL.of (same_new ne _ _ _ (sG _ _ hm)), SqL.of upd_same, flatN _, rfl, _, rfl, ?_⟩⟩
    rw [if_neg (show ¬ (false = true) by decide), eq_nil48]
    exact rr _ (same_new ne _)
  · obtain ⟨i, ei⟩ := List.mem_iff_getElem?.mp hv
    obtain ⟨r, er⟩ : ∃ r, (prs.map (rowOf NN))[i]? = some r := ⟨_, List.getElem?_eq_getElem (by rw [← lr]; exact (List.getElem?_eq_some_iff.mp ei).1)⟩
    have h := gr i v r ei er
    have hg := gK_row h
    obtain ⟨t, m, rfl, ht, hm⟩ := h
    exact ⟨_, rfl, t, _, 0, _, rfl, rfl, SqT.of (sG _ _ ht), rfl, rr _ G (Same.refl _) (new47 hg.symm)⟩
  obtain rfl := ext48 ly' gy'
  rw [fit_rows lr gr] at hfl
  have t1719 := s18.trans s19
  have hpl19 := t1719 _ _ hpl
  refine ⟨_, rfl, pl, _, rfl, .inl (SqL.of hpl19), fun hd nhd => ?_⟩
  have k20 := same_new nhd (.lst (prs.map fun q => V.ref q.1))
  have hhd : upd H19 hd (.lst (prs.map fun q => V.ref q.1)) hd = some (.lst (prs.map fun q => V.ref q.1)) := upd_same
  generalize upd H19 hd (.lst (prs.map fun q => V.ref q.1)) = H20 at k20 hhd ⊢
  have t1720 := t1719.trans k20
  have t1320 : Same H13 H20 := s14.trans (s1417.trans t1720)
  have J20 := J13.same t1320
  have lpr9 : prs.length ≤ 900 := by omega
  have P17 : ∀ q' ∈ prs, Pr47 cPrinter cStock cReady H17 q'.1 q'.2.1 q'.2.2 := fun q' hq => by
    obtain ⟨i, ei⟩ := List.mem_iff_getElem?.mp hq
    obtain ⟨s, es⟩ : ∃ s, sh[i]? = some s := ⟨_, List.getElem?_eq_getElem (by rw [← lpr]; exact (List.getElem?_eq_some_iff.mp ei).1)⟩
    obtain ⟨⟨P, _⟩, ec⟩ := gpr i q' s ei es
    rw [ec]
    exact P
  have P20 : ∀ q' ∈ prs, Pr47 cPrinter cStock cReady H20 q'.1 q'.2.1 q'.2.2 := fun q' hq => (P17 q' hq).same t1720
  have lnfit : ∀ l : List Str, (((l.map V.str).length : Nat) : Int) = (l.length : Int) := fun l => by rw [List.length_map]
  refine ⟨_, rfl, _, rfl, x, hd, _, p, cv, one, co, st, prs, rfl, J20, lp, lc, hhd, lpr9, P20, ?_⟩
  rw [hNN]
  refine ⟨fun fne t n H21 s21 nn ht hn => ?_, fun fn0 t u y H21 s21 ht hu RV => ?_⟩
  · refine ⟨t, _, rfl, SqT.of ht, rfl, _, _, rfl, _, _, rfl, rfl, ?_⟩
    refine ⟨[some (.ref a), some (.ref ka), some (.int c), some (.ref wl), some (.ref ft), some (.str lay), some (hc), some (.str (wordP c2 0 (wSize c2))), some (.ref x), some (.ref da), some (.ref sl), some (.ref nl), some (.ref pl), some (.ref rl), some (.ref fl), some (.ref hd), some (.ref n), some (.non)], rfl, ?_⟩
    have hhd21 := s21 _ _ hhd
    have hpl21 := (k20.trans s21) _ _ hpl19
    have hfl21 := (k20.trans s21) _ _ hfl
    refine ⟨_, rfl, hd, _, rfl, .inl (SqL.of hhd21), _, rfl, pl, _, rfl, .inl (SqL.of hpl21), rfl, _, rfl, ite2 (fun c => ?_) (fun _ => ?_)⟩
    · simp at c
    refine ⟨_, rfl, fl, _, rfl, .inl (SqL.of hfl21), _, _, rfl, rfl, _, rfl, ite2 (fun _ => ?_) (fun c => ?_)⟩
    rotate_left
    · refine absurd (decide_eq_true ?_) c
      have : 0 < (fitNames (prs.map (rowOf NN))).length := List.length_pos_iff.mpr fne
      rw [lnfit]
      omega
    refine ⟨_, rfl, rfl, _, rfl, ite2 (fun c => ?_) (fun _ => ?_)⟩
    · simp at c
    refine ⟨_, rfl, _, _, _, true, rfl, TyOf.lst hn, kit_same _, true, rfl, iteF ?_⟩
    refine ⟨_, rfl, _, rfl, n, fl, _, _, rfl, rfl, SqL.of hn, SqL.of hfl21, flat47 _, flat47 _, _, rfl, ?_⟩
    rw [if_pos rfl, eqVs_refl (flat47 _)]
    have lrows : (fitNames (prs.map (rowOf NN))).length ≤ 900 := by
      unfold fitNames
      rw [List.length_map]
      have := List.length_filter_le (fun r : Row48 => r.2.isEmpty) (prs.map (rowOf NN))
      rw [List.length_map] at this
      omega
    refine iteF ⟨_, rfl, .inl ⟨rfl, _, SqL.of hn⟩, n, _, _, rfl, rfl, hn, small1000 (by rw [List.length_map]; omega), ?_⟩
    have s22 : Same H20 _ := same_on nn s21 (.lst ((fitNames (prs.map (rowOf NN))).map V.str ++ [V.str (Str.ofString "x")]))
    generalize upd H21 n (.lst ((fitNames (prs.map (rowOf NN))).map V.str ++ [V.str (Str.ofString "x")])) = H22 at s22 ⊢
    refine ⟨_, rfl, _, rfl, x, hd, _, p, cv, one, co, st, prs, rfl, J20.same s22, lp, lc, s22 _ _ hhd, lpr9, fun q' hq => (P20 q' hq).same s22, ?_⟩
    rw [hNN]
    refine ⟨fun _ n2 H23 s23 nn2 hn2 => ?_, fun fn0 => absurd fn0 fne⟩
    have hfl23 := (k20.trans (s22.trans s23)) _ _ hfl
    refine ⟨_, rfl, n2, fl, _, _, rfl, rfl, SqL.of hn2, SqL.of hfl23, flat47 _, flat47 _, _, rfl, ?_⟩
    rw [if_neg (show ¬ (false = true) by decide), eqVs_refl (flat47 _)]
    refine iteT ?_
    have t1723 := t1720.trans (s22.trans s23)
    obtain ⟨q0, eq0⟩ : ∃ q0, prs[0]? = some q0 := by
      cases e : prs with
      | nil => rw [e] at fne; exact absurd rfl fne
      | cons q0 r => exact ⟨q0, rfl⟩
    obtain ⟨s0, es0⟩ : ∃ s0, sh[0]? = some s0 := ⟨_, List.getElem?_eq_getElem (by rw [← lpr]; exact (List.getElem?_eq_some_iff.mp eq0).1)⟩
    obtain ⟨⟨_, _, _, lk7⟩, _⟩ := gpr 0 q0 s0 eq0 es0
    have m0 := List.mem_of_getElem? es0
    obtain ⟨_, _, nn0⟩ := oks s0 m0
    obtain ⟨z0, ez0⟩ : ∃ z0, s0.2.2.2.2[0]? = some z0 := by
      cases e : s0.2.2.2.2 with
      | nil => exact absurd e nn0
      | cons z r => exact ⟨z, rfl⟩
    have P23 := (P17 q0 (List.mem_of_getElem? eq0)).same t1723
    have SH23 := SH17.same t1723
    have at0 : atI (prs.map fun q => V.ref q.1) 0 = some (V.ref q0.1) := at_any48 (k := 0) (by rw [List.getElem?_map, eq0]; rfl)
    have at1 : atI (sh.map fun s => V.ref s.1) 0 = some (V.ref s0.1) := at_any48 (k := 0) (by rw [List.getElem?_map, es0]; rfl)
    have at2 : atI (s0.2.2.2.2.map V.str) 0 = some (V.str z0) := at_str48 (k := 0) ez0
    refine ⟨_, rfl, pl, _, 0, _, rfl, rfl, SqL.of (t1723 _ _ hpl), at0, q0.1, _, q0.2.1.dx, _, _, _, rfl, P23.P.o, rfl, T.cl_Printer, D_Printer_paper_left, _, rfl, sl, _, 0, _, rfl, rfl, SqL.of SH23.l, at1, s0.1, _, 1, _, rfl, rfl, SqT.of (SH23.t s0 m0), rfl, s0.2.2.1, _, 0, _, rfl, rfl, SqL.of (SH23.y s0 m0), at2, q0.1, q0.2.1, z0, 7, rfl, P23.P, lk7 z0 ez0, ?_⟩
    refine ⟨rfl, ?_⟩
    rw [show decide (V.int 7 = V.int 7) = true from decide_eq_true rfl]
    exact q _
  · refine ⟨t, _, rfl, SqT.of ht, rfl, _, _, rfl, _, _, rfl, rfl, ?_⟩
    refine ⟨[some (.ref a), some (.ref ka), some (.int c), some (.ref wl), some (.ref ft), some (.str lay), some (hc), some (.str (wordP c2 0 (wSize c2))), some (.ref x), some (.ref da), some (.ref sl), some (.ref nl), some (.ref pl), some (.ref rl), some (.ref fl), some (.ref hd), some (.non), some (.ref u)], rfl, ?_⟩
    have hhd21 := s21 _ _ hhd
    have hpl21 := (k20.trans s21) _ _ hpl19
    have hfl21 := (k20.trans s21) _ _ hfl
    refine ⟨_, rfl, hd, _, rfl, .inl (SqL.of hhd21), _, rfl, pl, _, rfl, .inl (SqL.of hpl21), rfl, _, rfl, ite2 (fun c => ?_) (fun _ => ?_)⟩
    · simp at c
    refine ⟨_, rfl, fl, _, rfl, .inl (SqL.of hfl21), _, _, rfl, rfl, _, rfl, ite2 (fun c => ?_) (fun _ => ?_)⟩
    · have c' := of_decide_eq_true c
      rw [lnfit, fn0] at c'
      exact absurd c' (by decide)
    refine ⟨_, rfl, rfl, _, rfl, ite2 (fun c => ?_) (fun _ => ?_)⟩
    · simp at c
    refine ⟨_, rfl, rfl, _, rfl, ite2 (fun c => ?_) (fun _ => ?_)⟩
    · simp at c
    refine ⟨_, rfl, u, _, 0, _, rfl, rfl, SqT.of hu, rfl, _, rfl, rfl, _, rfl, ite2 (fun c => ?_) (fun _ => ?_)⟩
    · simp at c
    have t1821 := s19.trans (k20.trans s21)
    refine ⟨_, rfl, u, _, 1, _, rfl, rfl, SqT.of hu, rfl, _, rfl, y, rl, _, rfl, RV, RV18.same t1821, by rw [List.length_map]; exact lpr9, true, rfl, iteF ?_⟩
    have t1721 := s18.trans t1821
    have hnl21 := t1721 _ _ hnl17
    have hka21 : H21 ka = some (.lst ([k0, k1, k2].map V.str)) := t1721 _ _ ((s16.trans s17) _ _ (s115 _ _ hks))
    have n9 : atI (((List.range 10).map fun j => wordP c2 ((j : Nat) : Int) (wSize c2)).map V.str) 9 = some (V.str (wordP c2 9 (wSize c2))) := at_str48 (k := 9) rfl
    refine ⟨_, rfl, .inl ⟨rfl, _, SqL.of hhd21⟩, _, rfl, nl, _, 9, _, rfl, rfl, SqL.of hnl21, n9, z3, fun cl ncl => ?_⟩
    have k22 := same_new ncl (.lst [V.str (Str.ofString "staple"), V.str (Str.ofString "colour"), V.str (Str.ofString "both")])
    have hcl : upd H21 cl (.lst [V.str (Str.ofString "staple"), V.str (Str.ofString "colour"), V.str (Str.ofString "both")]) cl = some (.lst ([stW, clW, boW].map V.str)) := upd_same
    generalize upd H21 cl (.lst [V.str (Str.ofString "staple"), V.str (Str.ofString "colour"), V.str (Str.ofString "both")]) = H22 at k22 hcl ⊢
    refine ⟨_, rfl, _, cl, ka, [stW, clW, boW], [k0, k1, k2], k0, rfl, hcl, k22 _ _ hka21, ndk, rfl, by show 3 ≤ 6; decide, fun px d H23 s23 npx P23 en er el ni => ?_⟩
    have k2123 := k22.trans s23
    have hhd23 := k2123 _ _ hhd21
    refine ⟨hd, _, _, rfl, rfl, hhd23, small1000 (by rw [List.length_map]; omega), ?_⟩
    have nhi : d.ins ≠ hd := fun z => by
      have := k22 _ _ hhd21
      rw [← z, ni] at this
      cases this
    have off : ∀ b o, b ≠ hd → H23 b = some o → upd H23 hd (.lst ((prs.map fun q => V.ref q.1) ++ [V.ref px])) b = some o := fun b o nb e => by rw [upd_ne nb]; exact e
    have h24 : upd H23 hd (.lst ((prs.map fun q => V.ref q.1) ++ [V.ref px])) hd = some (.lst ((prs ++ [(px, d, [stW, clW, boW])]).map fun q => V.ref q.1)) := by rw [upd_same, List.map_append]; rfl
    have P24 : ∀ q' ∈ prs ++ [(px, d, [stW, clW, boW])], Pr47 cPrinter cStock cReady (upd H23 hd (.lst ((prs.map fun q => V.ref q.1) ++ [V.ref px]))) q'.1 q'.2.1 q'.2.2 := fun q' hq => by
      rcases List.mem_append.mp hq with h | h
      · have P19 := (P17 q' h).same t1719
        have ne19 : q'.2.1.ins ≠ hd := ne_of_none P19.P.n nhd
        exact (P19.same (k20.trans (s21.trans k2123))).off hhd23 ne19 off
      · rw [List.mem_singleton.mp h]
        exact P23.off hhd23 nhi off
    have J24 : JobN cJob (upd H23 hd (.lst ((prs.map fun q => V.ref q.1) ++ [V.ref px]))) x (wordP c2 0 (wSize c2)) p cv one co st := by
      obtain ⟨dxj, b, cc, dd, hh, jj, lay', hxj, e1, e2⟩ := J20.same (s21.trans k2123)
      exact ⟨dxj, b, cc, dd, hh, jj, lay', off _ _ (ne_of hxj hhd23 (by intro z; cases z)) hxj, e1, e2⟩
    have hnl24 : upd H23 hd (.lst ((prs.map fun q => V.ref q.1) ++ [V.ref px])) nl = _ := off _ _ (fun z => by
      have := t1719 _ _ hnl17
      rw [z, nhd] at this
      cases this) (k2123 _ _ hnl21)
    generalize upd H23 hd (.lst ((prs.map fun q => V.ref q.1) ++ [V.ref px])) = H24 at h24 P24 J24 hnl24 ⊢
    have efit : fitNames ((prs ++ [(px, d, [stW, clW, boW])]).map (rowOf NN)) = [wordP c2 9 (wSize c2)] := by
      rw [List.map_append]
      have e1 : rowOf NN (px, d, [stW, clW, boW]) = (wordP c2 9 (wSize c2), []) := by
        unfold rowOf
        rw [en, er, ← hNN, need_ok hp hcv (by simp) (by simp) (by simp)]
      show fitNames (prs.map (rowOf NN) ++ [rowOf NN (px, d, [stW, clW, boW])]) = _
      rw [e1]
      exact fit_more fn0
    refine ⟨_, rfl, _, rfl, x, hd, _, p, cv, one, co, st, prs ++ [(px, d, [stW, clW, boW])], rfl, J24, lp, lc, h24, by rw [List.length_append]; show prs.length + 1 ≤ 900; omega, P24, ?_⟩
    rw [hNN, efit]
    refine ⟨fun _ n2 H25 s25 nn2 hn2 => ?_, fun z => nomatch z⟩
    refine ⟨_, rfl, nl, _, 9, _, rfl, rfl, SqL.of (s25 _ _ hnl24), n9, z1, fun e ne => ⟨n2, e, _, _, rfl, rfl, SqL.of (same_new ne _ _ _ hn2), SqL.of upd_same, flat47 _, rfl, ?_⟩⟩
    rw [if_neg (show ¬ (false = true) by decide)]
    have ee : eqVs ([wordP c2 9 (wSize c2)].map V.str) [V.str (wordP c2 9 (wSize c2))] = true := eqVs_refl (flat47 [wordP c2 9 (wSize c2)])
    rw [ee]
    exact q _

end
end My

def PySem.W.Fast.tw13961437667593498 : Nat := 0
def PySem.W.Fast.tw3025240823081717368 : Nat := 0
def PySem.W.Fast.tw11724418396815407315 : Nat := 0
def PySem.W.Fast.tw15133488358326524089 : Nat := 0
def PySem.W.Fast.tw11737392872837685196 : Nat := 0
def PySem.W.Fast.tw5150943801684489852 : Nat := 0
def PySem.W.Fast.tw8036860674634125068 : Nat := 0
def PySem.W.Fast.tw7161018917875770137 : Nat := 0
def PySem.W.Fast.tw6663888806180274454 : Nat := 0
def PySem.W.Fast.tw18036731583091134112 : Nat := 0
def PySem.W.Fast.tw14503288554256912724 : Nat := 0
def PySem.W.Fast.tw8893855520514100337 : Nat := 0
def PySem.W.Fast.tw6887773440437994011 : Nat := 0
def PySem.W.Fast.tw12058452310699582545 : Nat := 0
def PySem.W.Fast.tw13850043919702522353 : Nat := 0
def PySem.W.Fast.tw14811699786468284077 : Nat := 0
def PySem.W.Fast.tw16244625059299227555 : Nat := 0
def PySem.W.Fast.tw4741177718900666186 : Nat := 0
namespace My
open PySem L2
theorem all_mk {l : PySem.W.OpenLaw} {w : World} {K : PySem.W.Frag} {h : Heap} {mg : Str → Option Value} {fa cJob cState cReady cStock cPrinter cBadLine cUnknown cTooMuch cBusy cNoPrinter cNoWay cHallError f0 f1 f2 f3 f4 f5 f6 f7 f8 f9 f10 f11 f12 f13 f14 f15 f16 f17 f18 f19 f20 f21 f22 f23 f24 f25 f26 f27 f28 f29 f30 f31 : Addr} (X : K.In h) (G : h.Ns mainGlobals mg) (hfa : mg "law" = some (.ref fa))
    {od0 an0 od1 an1 od2 an2 od3 an3 od4 an4 od5 an5 od6 an6 od7 an7 od8 an8 od9 an9 od10 an10 od11 an11 od12 an12 od13 an13 od14 an14 od15 an15 od16 an16 od17 an17 od18 an18 od19 an19 od20 an20 od21 an21 od22 an22 od23 an23 od24 an24 od25 an25 od26 an26 od27 an27 od28 an28 od29 an29 od30 an30 od31 an31 : Option Addr} {sl0 sl1 sl2 sl3 sl4 sl5 sl6 sl7 sl8 sl9 sl10 sl11 sl12 sl13 sl14 sl15 sl16 sl17 sl18 sl19 sl20 sl21 sl22 sl23 sl24 sl25 sl26 sl27 sl28 sl29 sl30 sl31 : Array (Option Value)}
    {oc0 kV0 dc0 pm0 cd0 ct0 oc1 kV1 dc1 pm1 cd1 ct1 oc2 kV2 dc2 pm2 cd2 ct2 oc3 kV3 dc3 pm3 cd3 ct3 oc4 kV4 dc4 pm4 cd4 ct4 oc5 kV5 dc5 pm5 cd5 ct5 oc6 kV6 dc6 pm6 cd6 ct6 oc7 kV7 dc7 pm7 cd7 ct7 oc8 kV8 dc8 pm8 cd8 ct8 oc9 kV9 dc9 pm9 cd9 ct9 oc10 kV10 dc10 pm10 cd10 ct10 oc11 kV11 dc11 pm11 cd11 ct11 oc12 kV12 dc12 pm12 cd12 ct12 oc13 kV13 dc13 pm13 cd13 ct13 oc14 kV14 dc14 pm14 cd14 ct14 oc15 kV15 dc15 pm15 cd15 ct15 oc16 kV16 dc16 pm16 cd16 ct16 oc17 kV17 dc17 pm17 cd17 ct17 oc18 kV18 dc18 pm18 cd18 ct18 oc19 kV19 dc19 pm19 cd19 ct19 oc20 kV20 dc20 pm20 cd20 ct20 oc21 kV21 dc21 pm21 cd21 ct21 oc22 kV22 dc22 pm22 cd22 ct22 oc23 kV23 dc23 pm23 cd23 ct23 oc24 kV24 dc24 pm24 cd24 ct24 oc25 kV25 dc25 pm25 cd25 ct25 oc26 kV26 dc26 pm26 cd26 ct26 oc27 kV27 dc27 pm27 cd27 ct27 oc28 kV28 dc28 pm28 cd28 ct28 oc29 kV29 dc29 pm29 cd29 ct29 oc30 kV30 dc30 pm30 cd30 ct30 oc31 kV31 dc31 pm31 cd31 ct31 : Value}
    (aC_Job : PySem.W.nsIn K mainGlobals "Job" = some (some (.ref cJob)))
    (aC_State : PySem.W.nsIn K mainGlobals "State" = some (some (.ref cState)))
    (aC_Ready : PySem.W.nsIn K mainGlobals "Ready" = some (some (.ref cReady)))
    (aC_Stock : PySem.W.nsIn K mainGlobals "Stock" = some (some (.ref cStock)))
    (aC_Printer : PySem.W.nsIn K mainGlobals "Printer" = some (some (.ref cPrinter)))
    (aC_BadLine : PySem.W.nsIn K mainGlobals "BadLine" = some (some (.ref cBadLine)))
    (aC_Unknown : PySem.W.nsIn K mainGlobals "Unknown" = some (some (.ref cUnknown)))
    (aC_TooMuch : PySem.W.nsIn K mainGlobals "TooMuch" = some (some (.ref cTooMuch)))
    (aC_Busy : PySem.W.nsIn K mainGlobals "Busy" = some (some (.ref cBusy)))
    (aC_NoPrinter : PySem.W.nsIn K mainGlobals "NoPrinter" = some (some (.ref cNoPrinter)))
    (aC_NoWay : PySem.W.nsIn K mainGlobals "NoWay" = some (some (.ref cNoWay)))
    (aC_HallError : PySem.W.nsIn K mainGlobals "HallError" = some (some (.ref cHallError)))
    (a0 : PySem.W.nsIn K mainGlobals "own_copy" = some (some (.ref f0)))
    (l0 : K.lookup f0 = some ⟨oc0, od0, .func (PySem.W.fnOf "own_copy" "own_copy" (defArgs s_own_copy) (defBody s_own_copy) (defScope s_own_copy) .none kV0 dc0 pm0 an0 cd0 ct0), sl0⟩)
    (c0 : PySem.W.codeIn K cd0 "own_copy" = true)
    (k0 : PySem.W.keepIn K (.ref f0) = true)
    (a1 : PySem.W.findIn K (.ref cUnknown) "__init__" = some (some (.ref f1)))
    (i1 : PySem.W.isFn K (.ref f1) = true)
    (l1 : K.lookup f1 = some ⟨oc1, od1, .func (PySem.W.fnOf "__init__" "Unknown.__init__" (defArgs s_Unknown_init) (defBody s_Unknown_init) (defScope s_Unknown_init) .none kV1 dc1 pm1 an1 cd1 ct1), sl1⟩)
    (c1 : PySem.W.codeIn K cd1 "Unknown.__init__" = true)
    (k1 : PySem.W.keepIn K (.ref f1) = true)
    (a2 : PySem.W.findIn K (.ref cTooMuch) "__init__" = some (some (.ref f2)))
    (i2 : PySem.W.isFn K (.ref f2) = true)
    (l2 : K.lookup f2 = some ⟨oc2, od2, .func (PySem.W.fnOf "__init__" "TooMuch.__init__" (defArgs s_TooMuch_init) (defBody s_TooMuch_init) (defScope s_TooMuch_init) .none kV2 dc2 pm2 an2 cd2 ct2), sl2⟩)
    (c2 : PySem.W.codeIn K cd2 "TooMuch.__init__" = true)
    (k2 : PySem.W.keepIn K (.ref f2) = true)
    (a3 : PySem.W.findIn K (.ref cNoPrinter) "__init__" = some (some (.ref f3)))
    (i3 : PySem.W.isFn K (.ref f3) = true)
    (l3 : K.lookup f3 = some ⟨oc3, od3, .func (PySem.W.fnOf "__init__" "NoPrinter.__init__" (defArgs s_NoPrinter_init) (defBody s_NoPrinter_init) (defScope s_NoPrinter_init) .none kV3 dc3 pm3 an3 cd3 ct3), sl3⟩)
    (c3 : PySem.W.codeIn K cd3 "NoPrinter.__init__" = true)
    (k3 : PySem.W.keepIn K (.ref f3) = true)
    (a4 : PySem.W.findIn K (.ref cJob) "__init__" = some (some (.ref f4)))
    (i4 : PySem.W.isFn K (.ref f4) = true)
    (l4 : K.lookup f4 = some ⟨oc4, od4, .func (PySem.W.fnOf "__init__" "Job.__init__" (defArgs s_Job_init) (defBody s_Job_init) (defScope s_Job_init) .none kV4 dc4 pm4 an4 cd4 ct4), sl4⟩)
    (c4 : PySem.W.codeIn K cd4 "Job.__init__" = true)
    (k4 : PySem.W.keepIn K (.ref f4) = true)
    (a5 : PySem.W.nsIn K mainGlobals "needs" = some (some (.ref f5)))
    (l5 : K.lookup f5 = some ⟨oc5, od5, .func (PySem.W.fnOf "needs" "needs" (defArgs s_needs) (defBody s_needs) (defScope s_needs) .none kV5 dc5 pm5 an5 cd5 ct5), sl5⟩)
    (c5 : PySem.W.codeIn K cd5 "needs" = true)
    (k5 : PySem.W.keepIn K (.ref f5) = true)
    (a6 : PySem.W.nsIn K mainGlobals "lacks" = some (some (.ref f6)))
    (l6 : K.lookup f6 = some ⟨oc6, od6, .func (PySem.W.fnOf "lacks" "lacks" (defArgs s_lacks) (defBody s_lacks) (defScope s_lacks) .none kV6 dc6 pm6 an6 cd6 ct6), sl6⟩)
    (c6 : PySem.W.codeIn K cd6 "lacks" = true)
    (k6 : PySem.W.keepIn K (.ref f6) = true)
    (a7 : PySem.W.nsIn K mainGlobals "has" = some (some (.ref f7)))
    (l7 : K.lookup f7 = some ⟨oc7, od7, .func (PySem.W.fnOf "has" "has" (defArgs s_has) (defBody s_has) (defScope s_has) .none kV7 dc7 pm7 an7 cd7 ct7), sl7⟩)
    (c7 : PySem.W.codeIn K cd7 "has" = true)
    (k7 : PySem.W.keepIn K (.ref f7) = true)
    (a8 : PySem.W.nsIn K mainGlobals "fitting" = some (some (.ref f8)))
    (l8 : K.lookup f8 = some ⟨oc8, od8, .func (PySem.W.fnOf "fitting" "fitting" (defArgs s_fitting) (defBody s_fitting) (defScope s_fitting) .none kV8 dc8 pm8 an8 cd8 ct8), sl8⟩)
    (c8 : PySem.W.codeIn K cd8 "fitting" = true)
    (k8 : PySem.W.keepIn K (.ref f8) = true)
    (a9 : PySem.W.findIn K (.ref cState) "__init__" = some (some (.ref f9)))
    (i9 : PySem.W.isFn K (.ref f9) = true)
    (l9 : K.lookup f9 = some ⟨oc9, od9, .func (PySem.W.fnOf "__init__" "State.__init__" (defArgs s_State_init) (defBody s_State_init) (defScope s_State_init) .none kV9 dc9 pm9 an9 cd9 ct9), sl9⟩)
    (c9 : PySem.W.codeIn K cd9 "State.__init__" = true)
    (k9 : PySem.W.keepIn K (.ref f9) = true)
    (a10 : PySem.W.findIn K (.ref cReady) "__init__" = some (some (.ref f10)))
    (i10 : PySem.W.isFn K (.ref f10) = true)
    (l10 : K.lookup f10 = some ⟨oc10, od10, .func (PySem.W.fnOf "__init__" "Ready.__init__" (defArgs s_Ready_init) (defBody s_Ready_init) (defScope s_Ready_init) .none kV10 dc10 pm10 an10 cd10 ct10), sl10⟩)
    (c10 : PySem.W.codeIn K cd10 "Ready.__init__" = true)
    (k10 : PySem.W.keepIn K (.ref f10) = true)
    (a11 : PySem.W.findIn K (.ref cStock) "__init__" = some (some (.ref f11)))
    (i11 : PySem.W.isFn K (.ref f11) = true)
    (l11 : K.lookup f11 = some ⟨oc11, od11, .func (PySem.W.fnOf "__init__" "Stock.__init__" (defArgs s_Stock_init) (defBody s_Stock_init) (defScope s_Stock_init) .none kV11 dc11 pm11 an11 cd11 ct11), sl11⟩)
    (c11 : PySem.W.codeIn K cd11 "Stock.__init__" = true)
    (k11 : PySem.W.keepIn K (.ref f11) = true)
    (a12 : PySem.W.findIn K (.ref cStock) "held" = some (some (.ref f12)))
    (i12 : PySem.W.isFn K (.ref f12) = true)
    (l12 : K.lookup f12 = some ⟨oc12, od12, .func (PySem.W.fnOf "held" "Stock.held" (defArgs s_Stock_held) (defBody s_Stock_held) (defScope s_Stock_held) .none kV12 dc12 pm12 an12 cd12 ct12), sl12⟩)
    (c12 : PySem.W.codeIn K cd12 "Stock.held" = true)
    (k12 : PySem.W.keepIn K (.ref f12) = true)
    (a13 : PySem.W.findIn K (.ref cStock) "room" = some (some (.ref f13)))
    (i13 : PySem.W.isFn K (.ref f13) = true)
    (l13 : K.lookup f13 = some ⟨oc13, od13, .func (PySem.W.fnOf "room" "Stock.room" (defArgs s_Stock_room) (defBody s_Stock_room) (defScope s_Stock_room) .none kV13 dc13 pm13 an13 cd13 ct13), sl13⟩)
    (c13 : PySem.W.codeIn K cd13 "Stock.room" = true)
    (k13 : PySem.W.keepIn K (.ref f13) = true)
    (a14 : PySem.W.findIn K (.ref cStock) "know" = some (some (.ref f14)))
    (i14 : PySem.W.isFn K (.ref f14) = true)
    (l14 : K.lookup f14 = some ⟨oc14, od14, .func (PySem.W.fnOf "know" "Stock.know" (defArgs s_Stock_know) (defBody s_Stock_know) (defScope s_Stock_know) .none kV14 dc14 pm14 an14 cd14 ct14), sl14⟩)
    (c14 : PySem.W.codeIn K cd14 "Stock.know" = true)
    (k14 : PySem.W.keepIn K (.ref f14) = true)
    (a15 : PySem.W.findIn K (.ref cStock) "know_all" = some (some (.ref f15)))
    (i15 : PySem.W.isFn K (.ref f15) = true)
    (l15 : K.lookup f15 = some ⟨oc15, od15, .func (PySem.W.fnOf "know_all" "Stock.know_all" (defArgs s_Stock_know_all) (defBody s_Stock_know_all) (defScope s_Stock_know_all) .none kV15 dc15 pm15 an15 cd15 ct15), sl15⟩)
    (c15 : PySem.W.codeIn K cd15 "Stock.know_all" = true)
    (k15 : PySem.W.keepIn K (.ref f15) = true)
    (a16 : PySem.W.findIn K (.ref cStock) "put" = some (some (.ref f16)))
    (i16 : PySem.W.isFn K (.ref f16) = true)
    (l16 : K.lookup f16 = some ⟨oc16, od16, .func (PySem.W.fnOf "put" "Stock.put" (defArgs s_Stock_put) (defBody s_Stock_put) (defScope s_Stock_put) .none kV16 dc16 pm16 an16 cd16 ct16), sl16⟩)
    (c16 : PySem.W.codeIn K cd16 "Stock.put" = true)
    (k16 : PySem.W.keepIn K (.ref f16) = true)
    (a17 : PySem.W.findIn K (.ref cStock) "put_all" = some (some (.ref f17)))
    (i17 : PySem.W.isFn K (.ref f17) = true)
    (l17 : K.lookup f17 = some ⟨oc17, od17, .func (PySem.W.fnOf "put_all" "Stock.put_all" (defArgs s_Stock_put_all) (defBody s_Stock_put_all) (defScope s_Stock_put_all) .none kV17 dc17 pm17 an17 cd17 ct17), sl17⟩)
    (c17 : PySem.W.codeIn K cd17 "Stock.put_all" = true)
    (k17 : PySem.W.keepIn K (.ref f17) = true)
    (a18 : PySem.W.findIn K (.ref cPrinter) "__init__" = some (some (.ref f18)))
    (i18 : PySem.W.isFn K (.ref f18) = true)
    (l18 : K.lookup f18 = some ⟨oc18, od18, .func (PySem.W.fnOf "__init__" "Printer.__init__" (defArgs s_Printer_init) (defBody s_Printer_init) (defScope s_Printer_init) .none kV18 dc18 pm18 an18 cd18 ct18), sl18⟩)
    (c18 : PySem.W.codeIn K cd18 "Printer.__init__" = true)
    (k18 : PySem.W.keepIn K (.ref f18) = true)
    (a19 : PySem.W.findIn K (.ref cPrinter) "papers" = some (some (.ref f19)))
    (i19 : PySem.W.isFn K (.ref f19) = true)
    (l19 : K.lookup f19 = some ⟨oc19, od19, .func (PySem.W.fnOf "papers" "Printer.papers" (defArgs s_Printer_papers) (defBody s_Printer_papers) (defScope s_Printer_papers) .none kV19 dc19 pm19 an19 cd19 ct19), sl19⟩)
    (c19 : PySem.W.codeIn K cd19 "Printer.papers" = true)
    (k19 : PySem.W.keepIn K (.ref f19) = true)
    (a20 : PySem.W.findIn K (.ref cPrinter) "paper_left" = some (some (.ref f20)))
    (i20 : PySem.W.isFn K (.ref f20) = true)
    (l20 : K.lookup f20 = some ⟨oc20, od20, .func (PySem.W.fnOf "paper_left" "Printer.paper_left" (defArgs s_Printer_paper_left) (defBody s_Printer_paper_left) (defScope s_Printer_paper_left) .none kV20 dc20 pm20 an20 cd20 ct20), sl20⟩)
    (c20 : PySem.W.codeIn K cd20 "Printer.paper_left" = true)
    (k20 : PySem.W.keepIn K (.ref f20) = true)
    (a21 : PySem.W.findIn K (.ref cPrinter) "load" = some (some (.ref f21)))
    (i21 : PySem.W.isFn K (.ref f21) = true)
    (l21 : K.lookup f21 = some ⟨oc21, od21, .func (PySem.W.fnOf "load" "Printer.load" (defArgs s_Printer_load) (defBody s_Printer_load) (defScope s_Printer_load) .none kV21 dc21 pm21 an21 cd21 ct21), sl21⟩)
    (c21 : PySem.W.codeIn K cd21 "Printer.load" = true)
    (k21 : PySem.W.keepIn K (.ref f21) = true)
    (a22 : PySem.W.nsIn K mainGlobals "_law_cell_at" = some (some (.ref f22)))
    (l22 : K.lookup f22 = some ⟨oc22, od22, .func (PySem.W.fnOf "_law_cell_at" "_law_cell_at" (defArgs s__law_cell_at) (defBody s__law_cell_at) (defScope s__law_cell_at) .none kV22 dc22 pm22 an22 cd22 ct22), sl22⟩)
    (c22 : PySem.W.codeIn K cd22 "_law_cell_at" = true)
    (k22 : PySem.W.keepIn K (.ref f22) = true)
    (a23 : PySem.W.nsIn K mainGlobals "_law_mix" = some (some (.ref f23)))
    (l23 : K.lookup f23 = some ⟨oc23, od23, .func (PySem.W.fnOf "_law_mix" "_law_mix" (defArgs s__law_mix) (defBody s__law_mix) (defScope s__law_mix) .none kV23 dc23 pm23 an23 cd23 ct23), sl23⟩)
    (c23 : PySem.W.codeIn K cd23 "_law_mix" = true)
    (k23 : PySem.W.keepIn K (.ref f23) = true)
    (a24 : PySem.W.nsIn K mainGlobals "_law_word" = some (some (.ref f24)))
    (l24 : K.lookup f24 = some ⟨oc24, od24, .func (PySem.W.fnOf "_law_word" "_law_word" (defArgs s__law_word) (defBody s__law_word) (defScope s__law_word) .none kV24 dc24 pm24 an24 cd24 ct24), sl24⟩)
    (c24 : PySem.W.codeIn K cd24 "_law_word" = true)
    (k24 : PySem.W.keepIn K (.ref f24) = true)
    (a25 : PySem.W.nsIn K mainGlobals "_law_needs" = some (some (.ref f25)))
    (l25 : K.lookup f25 = some ⟨oc25, od25, .func (PySem.W.fnOf "_law_needs" "_law_needs" (defArgs s__law_needs) (defBody s__law_needs) (defScope s__law_needs) .none kV25 dc25 pm25 an25 cd25 ct25), sl25⟩)
    (c25 : PySem.W.codeIn K cd25 "_law_needs" = true)
    (k25 : PySem.W.keepIn K (.ref f25) = true)
    (a26 : PySem.W.nsIn K mainGlobals "_law_lacking" = some (some (.ref f26)))
    (l26 : K.lookup f26 = some ⟨oc26, od26, .func (PySem.W.fnOf "_law_lacking" "_law_lacking" (defArgs s__law_lacking) (defBody s__law_lacking) (defScope s__law_lacking) .none kV26 dc26 pm26 an26 cd26 ct26), sl26⟩)
    (c26 : PySem.W.codeIn K cd26 "_law_lacking" = true)
    (k26 : PySem.W.keepIn K (.ref f26) = true)
    (a27 : PySem.W.nsIn K mainGlobals "_law_shapes" = some (some (.ref f27)))
    (l27 : K.lookup f27 = some ⟨oc27, od27, .func (PySem.W.fnOf "_law_shapes" "_law_shapes" (defArgs s__law_shapes) (defBody s__law_shapes) (defScope s__law_shapes) .none kV27 dc27 pm27 an27 cd27 ct27), sl27⟩)
    (c27 : PySem.W.codeIn K cd27 "_law_shapes" = true)
    (k27 : PySem.W.keepIn K (.ref f27) = true)
    (a28 : PySem.W.nsIn K mainGlobals "_law_printer" = some (some (.ref f28)))
    (l28 : K.lookup f28 = some ⟨oc28, od28, .func (PySem.W.fnOf "_law_printer" "_law_printer" (defArgs s__law_printer) (defBody s__law_printer) (defScope s__law_printer) .none kV28 dc28 pm28 an28 cd28 ct28), sl28⟩)
    (c28 : PySem.W.codeIn K cd28 "_law_printer" = true)
    (k28 : PySem.W.keepIn K (.ref f28) = true)
    (a29 : PySem.W.nsIn K mainGlobals "_law_asked" = some (some (.ref f29)))
    (l29 : K.lookup f29 = some ⟨oc29, od29, .func (PySem.W.fnOf "_law_asked" "_law_asked" (defArgs s__law_asked) (defBody s__law_asked) (defScope s__law_asked) .none kV29 dc29 pm29 an29 cd29 ct29), sl29⟩)
    (c29 : PySem.W.codeIn K cd29 "_law_asked" = true)
    (k29 : PySem.W.keepIn K (.ref f29) = true)
    (a30 : PySem.W.nsIn K mainGlobals "_law_rows" = some (some (.ref f30)))
    (l30 : K.lookup f30 = some ⟨oc30, od30, .func (PySem.W.fnOf "_law_rows" "_law_rows" (defArgs s__law_rows) (defBody s__law_rows) (defScope s__law_rows) .none kV30 dc30 pm30 an30 cd30 ct30), sl30⟩)
    (c30 : PySem.W.codeIn K cd30 "_law_rows" = true)
    (k30 : PySem.W.keepIn K (.ref f30) = true)
    (a31 : PySem.W.nsIn K mainGlobals "law" = some (some (.ref f31)))
    (l31 : K.lookup f31 = some ⟨oc31, od31, .func (PySem.W.fnOf "law" "law" (defArgs s_law) (defBody s_law) (defScope s_law) .none kV31 dc31 pm31 an31 cd31 ct31), sl31⟩)
    (c31 : PySem.W.codeIn K cd31 "law" = true)
    (k31 : PySem.W.keepIn K (.ref f31) = true)
    (pg_Job : PySem.W.plainGet K cJob Str.empty = true)
    (hd_Job : PySem.W.hasDictIn K cJob = true)
    (po_Job : PySem.W.plainOver K cJob = true)
    (sa_Job : PySem.W.findIn K (.ref cJob) "__setattr__" = some (some (.builtin "object.__setattr__")))
    (mk_Job : PySem.W.makesIn K cJob = true)
    (kc_Job : PySem.W.keepIn K (.ref cJob) = true)
    (na_Job_name : PySem.W.findIn K (.ref cJob) "name" = some none)
    (na_Job_asker : PySem.W.findIn K (.ref cJob) "asker" = some none)
    (na_Job_pages : PySem.W.findIn K (.ref cJob) "pages" = some none)
    (na_Job_copies : PySem.W.findIn K (.ref cJob) "copies" = some none)
    (na_Job_layout : PySem.W.findIn K (.ref cJob) "layout" = some none)
    (na_Job_paper : PySem.W.findIn K (.ref cJob) "paper" = some none)
    (na_Job_cover : PySem.W.findIn K (.ref cJob) "cover" = some none)
    (na_Job_colour : PySem.W.findIn K (.ref cJob) "colour" = some none)
    (na_Job_staple : PySem.W.findIn K (.ref cJob) "staple" = some none)
    (na_Job_after : PySem.W.findIn K (.ref cJob) "after" = some none)
    (pg_State : PySem.W.plainGet K cState Str.empty = true)
    (hd_State : PySem.W.hasDictIn K cState = true)
    (po_State : PySem.W.plainOver K cState = true)
    (sa_State : PySem.W.findIn K (.ref cState) "__setattr__" = some (some (.builtin "object.__setattr__")))
    (mk_State : PySem.W.makesIn K cState = true)
    (kc_State : PySem.W.keepIn K (.ref cState) = true)
    (na_State_word : PySem.W.findIn K (.ref cState) "word" = some none)
    (pg_Ready : PySem.W.plainGet K cReady Str.empty = true)
    (hd_Ready : PySem.W.hasDictIn K cReady = true)
    (po_Ready : PySem.W.plainOver K cReady = true)
    (sa_Ready : PySem.W.findIn K (.ref cReady) "__setattr__" = some (some (.builtin "object.__setattr__")))
    (mk_Ready : PySem.W.makesIn K cReady = true)
    (kc_Ready : PySem.W.keepIn K (.ref cReady) = true)
    (na_Ready_word : PySem.W.findIn K (.ref cReady) "word" = some none)
    (pg_Stock : PySem.W.plainGet K cStock Str.empty = true)
    (hd_Stock : PySem.W.hasDictIn K cStock = true)
    (po_Stock : PySem.W.plainOver K cStock = true)
    (sa_Stock : PySem.W.findIn K (.ref cStock) "__setattr__" = some (some (.builtin "object.__setattr__")))
    (mk_Stock : PySem.W.makesIn K cStock = true)
    (kc_Stock : PySem.W.keepIn K (.ref cStock) = true)
    (na_Stock_rooms : PySem.W.findIn K (.ref cStock) "rooms" = some none)
    (na_Stock_amounts : PySem.W.findIn K (.ref cStock) "amounts" = some none)
    (pg_Printer : PySem.W.plainGet K cPrinter Str.empty = true)
    (hd_Printer : PySem.W.hasDictIn K cPrinter = true)
    (po_Printer : PySem.W.plainOver K cPrinter = true)
    (sa_Printer : PySem.W.findIn K (.ref cPrinter) "__setattr__" = some (some (.builtin "object.__setattr__")))
    (mk_Printer : PySem.W.makesIn K cPrinter = true)
    (kc_Printer : PySem.W.keepIn K (.ref cPrinter) = true)
    (na_Printer_name : PySem.W.findIn K (.ref cPrinter) "name" = some none)
    (na_Printer_can : PySem.W.findIn K (.ref cPrinter) "can" = some none)
    (na_Printer_path : PySem.W.findIn K (.ref cPrinter) "path" = some none)
    (na_Printer_rooms : PySem.W.findIn K (.ref cPrinter) "rooms" = some none)
    (na_Printer_trays : PySem.W.findIn K (.ref cPrinter) "trays" = some none)
    (na_Printer_inks : PySem.W.findIn K (.ref cPrinter) "inks" = some none)
    (na_Printer_state : PySem.W.findIn K (.ref cPrinter) "state" = some none)
    (na_Printer_inside : PySem.W.findIn K (.ref cPrinter) "inside" = some none)
    (xc_BadLine : xcls K cBadLine ["place"] = true)
    (xm_BadLine : PySem.W.excMk K cBadLine = true)
    (kc_BadLine : PySem.W.keepIn K (.ref cBadLine) = true)
    (xc_Unknown : xcls K cUnknown ["name"] = true)
    (xm_Unknown : PySem.W.excMk K cUnknown = true)
    (kc_Unknown : PySem.W.keepIn K (.ref cUnknown) = true)
    (xc_TooMuch : xcls K cTooMuch ["name"] = true)
    (xm_TooMuch : PySem.W.excMk K cTooMuch = true)
    (kc_TooMuch : PySem.W.keepIn K (.ref cTooMuch) = true)
    (xc_Busy : xcls K cBusy ["job"] = true)
    (xm_Busy : PySem.W.excMk K cBusy = true)
    (kc_Busy : PySem.W.keepIn K (.ref cBusy) = true)
    (xc_NoPrinter : xcls K cNoPrinter ["job", "lacks"] = true)
    (xm_NoPrinter : PySem.W.excMk K cNoPrinter = true)
    (kc_NoPrinter : PySem.W.keepIn K (.ref cNoPrinter) = true)
    (xc_NoWay : xcls K cNoWay ["place"] = true)
    (xm_NoWay : PySem.W.excMk K cNoWay = true)
    (kc_NoWay : PySem.W.keepIn K (.ref cNoWay) = true)
    (am_Printer_papers : PySem.W.findIn K (.ref cPrinter) "papers" = some (some (.ref f19)))
    (am_Stock_know : PySem.W.findIn K (.ref cStock) "know" = some (some (.ref f14)))
    (am_Stock_put_all : PySem.W.findIn K (.ref cStock) "put_all" = some (some (.ref f17)))
    (am_Stock_know_all : PySem.W.findIn K (.ref cStock) "know_all" = some (some (.ref f15)))
    (am_Stock_held : PySem.W.findIn K (.ref cStock) "held" = some (some (.ref f12)))
    (am_Stock_put : PySem.W.findIn K (.ref cStock) "put" = some (some (.ref f16)))
    (am_Printer_load : PySem.W.findIn K (.ref cPrinter) "load" = some (some (.ref f21)))
    (am_Printer_paper_left : PySem.W.findIn K (.ref cPrinter) "paper_left" = some (some (.ref f20)))
    (ib1_State : PySem.W.specialIn K (.ref cState) "__getattribute__" = some (some (.builtin "type.__getattribute__")))
    (ib2_State : PySem.W.readsIn K cState (.type "type") = true)
    (ib3_State : PySem.W.findCls K (.ref cState) (.type "type") "__init__" = some (.val (.ref f9)))
    (xq_HallError : PySem.W.excMk K cHallError = true)
    (mh_NoPrinter_NoPrinter : PySem.W.mroHas K cNoPrinter (.ref cNoPrinter) = true)
    (xcn : PySem.W.specialIn K (.builtin "object.__class__") "__get__" = some (some (.builtin "getset_descriptor.__get__")))
    (xct : PySem.W.takesIn K (.builtin "object.__class__") = some true)
    (xb1 : PySem.W.specialIn K (.ref cHallError) "__getattribute__" = some (some (.builtin "type.__getattribute__")))
    (xb2 : PySem.W.readsIn K cHallError (.type "type") = true)
    (xb3 : PySem.W.findCls K (.ref cHallError) (.type "type") "__init__" = some (.val (.builtin "ValueError.__init__")))
    (xkt : kitTab K [cBadLine, cUnknown, cTooMuch, cBusy, cNoPrinter, cNoWay] cHallError = true)
    {xPAPER : Str} {tPAPER : Tok}
    (gPAPER : PySem.W.nsIn K mainGlobals "PAPER" = some (some (.str xPAPER tPAPER)))
    (ePAPER : xPAPER = Str.ofString "paper:")
    {xCOVER : Str} {tCOVER : Tok}
    (gCOVER : PySem.W.nsIn K mainGlobals "COVER" = some (some (.str xCOVER tCOVER)))
    (eCOVER : xCOVER = Str.ofString "cover:")
    {xSTAPLE : Str} {tSTAPLE : Tok}
    (gSTAPLE : PySem.W.nsIn K mainGlobals "STAPLE" = some (some (.str xSTAPLE tSTAPLE)))
    (eSTAPLE : xSTAPLE = Str.ofString "staple")
    {xONE_LAYOUT : Str} {tONE_LAYOUT : Tok}
    (gONE_LAYOUT : PySem.W.nsIn K mainGlobals "ONE_LAYOUT" = some (some (.str xONE_LAYOUT tONE_LAYOUT)))
    (eONE_LAYOUT : xONE_LAYOUT = Str.ofString "one")
    {xBOTH_SIDES : Str} {tBOTH_SIDES : Tok}
    (gBOTH_SIDES : PySem.W.nsIn K mainGlobals "BOTH_SIDES" = some (some (.str xBOTH_SIDES tBOTH_SIDES)))
    (eBOTH_SIDES : xBOTH_SIDES = Str.ofString "both")
    {xCOLOURED : Str} {tCOLOURED : Tok}
    (gCOLOURED : PySem.W.nsIn K mainGlobals "COLOURED" = some (some (.str xCOLOURED tCOLOURED)))
    (eCOLOURED : xCOLOURED = Str.ofString "colour")
    {xREADY : Str} {tREADY : Tok}
    (gREADY : PySem.W.nsIn K mainGlobals "READY" = some (some (.str xREADY tREADY)))
    (eREADY : xREADY = Str.ofString "ready")
    {xBLACK : Str} {tBLACK : Tok}
    (gBLACK : PySem.W.nsIn K mainGlobals "BLACK" = some (some (.str xBLACK tBLACK)))
    (eBLACK : xBLACK = Str.ofString "black")
    {xCOLOUR : Str} {tCOLOUR : Tok}
    (gCOLOUR : PySem.W.nsIn K mainGlobals "COLOUR" = some (some (.str xCOLOUR tCOLOUR)))
    (eCOLOUR : xCOLOUR = Str.ofString "colour")
    (z_len : PySem.W.nsIn K mainGlobals "len" = some none)
    (z_range : PySem.W.nsIn K mainGlobals "range" = some none)
    (z_int : PySem.W.nsIn K mainGlobals "int" = some none)
    (z_tuple : PySem.W.nsIn K mainGlobals "tuple" = some none)
    (z_list : PySem.W.nsIn K mainGlobals "list" = some none)
    (z_isinstance : PySem.W.nsIn K mainGlobals "isinstance" = some none)
    (z_dict : PySem.W.nsIn K mainGlobals "dict" = some none)
    (z_ValueError : PySem.W.nsIn K mainGlobals "ValueError" = some none)
    : ∃ fd : FuncData, (∀ (s : Shared) (v : Value), BindsTo s fd ⟨[v], []⟩ [("_law_script", v)]) ∧ ∀ base : Heap, K.In base → base.Ns mainGlobals mg → FnOk l.prog w K mg base CX0 9 fa fd ["_law_script"] (sp_law K) := by
  have e := hfa.symm.trans (PySem.W.mg_of X G a31)
  cases e
  have F0 := fun_mk (st := s_own_copy) l0 c0 k0
  have F1 := fun_mk (st := s_Unknown_init) l1 c1 k1
  have F2 := fun_mk (st := s_TooMuch_init) l2 c2 k2
  have F3 := fun_mk (st := s_NoPrinter_init) l3 c3 k3
  have F4 := fun_mk (st := s_Job_init) l4 c4 k4
  have F5 := fun_mk (st := s_needs) l5 c5 k5
  have F6 := fun_mk (st := s_lacks) l6 c6 k6
  have F7 := fun_mk (st := s_has) l7 c7 k7
  have F8 := fun_mk (st := s_fitting) l8 c8 k8
  have F9 := fun_mk (st := s_State_init) l9 c9 k9
  have F10 := fun_mk (st := s_Ready_init) l10 c10 k10
  have F11 := fun_mk (st := s_Stock_init) l11 c11 k11
  have F12 := fun_mk (st := s_Stock_held) l12 c12 k12
  have F13 := fun_mk (st := s_Stock_room) l13 c13 k13
  have F14 := fun_mk (st := s_Stock_know) l14 c14 k14
  have F15 := fun_mk (st := s_Stock_know_all) l15 c15 k15
  have F16 := fun_mk (st := s_Stock_put) l16 c16 k16
  have F17 := fun_mk (st := s_Stock_put_all) l17 c17 k17
  have F18 := fun_mk (st := s_Printer_init) l18 c18 k18
  have F19 := fun_mk (st := s_Printer_papers) l19 c19 k19
  have F20 := fun_mk (st := s_Printer_paper_left) l20 c20 k20
  have F21 := fun_mk (st := s_Printer_load) l21 c21 k21
  have F22 := fun_mk (st := s__law_cell_at) l22 c22 k22
  have F23 := fun_mk (st := s__law_mix) l23 c23 k23
  have F24 := fun_mk (st := s__law_word) l24 c24 k24
  have F25 := fun_mk (st := s__law_needs) l25 c25 k25
  have F26 := fun_mk (st := s__law_lacking) l26 c26 k26
  have F27 := fun_mk (st := s__law_shapes) l27 c27 k27
  have F28 := fun_mk (st := s__law_printer) l28 c28 k28
  have F29 := fun_mk (st := s__law_asked) l29 c29 k29
  have F30 := fun_mk (st := s__law_rows) l30 c30 k30
  have F31 := fun_mk (st := s_law) l31 c31 k31
  have b0 := F0.binds (ps := ["value"]) fun _ _ _ _ _ _ us hl => match us, hl with | [_], _ => rfl
  have b1 := F1.binds (ps := ["self", "name"]) fun _ _ _ _ _ _ us hl => match us, hl with | [_, _], _ => rfl
  have b2 := F2.binds (ps := ["self", "name"]) fun _ _ _ _ _ _ us hl => match us, hl with | [_, _], _ => rfl
  have b3 := F3.binds (ps := ["self", "job", "lacks"]) fun _ _ _ _ _ _ us hl => match us, hl with | [_, _, _], _ => rfl
  have b4 := F4.binds (ps := ["self", "name", "asker", "pages", "copies", "layout", "paper", "cover", "colour", "staple", "after"]) fun _ _ _ _ _ _ us hl => match us, hl with | [_, _, _, _, _, _, _, _, _, _, _], _ => rfl
  have b5 := F5.binds (ps := ["job"]) fun _ _ _ _ _ _ us hl => match us, hl with | [_], _ => rfl
  have b6 := F6.binds (ps := ["job", "printer"]) fun _ _ _ _ _ _ us hl => match us, hl with | [_, _], _ => rfl
  have b7 := F7.binds (ps := ["printer", "need"]) fun _ _ _ _ _ _ us hl => match us, hl with | [_, _], _ => rfl
  have b8 := F8.binds (ps := ["job", "printers"]) fun _ _ _ _ _ _ us hl => match us, hl with | [_, _], _ => rfl
  have b9 := F9.binds (ps := ["self", "word"]) fun _ _ _ _ _ _ us hl => match us, hl with | [_, _], _ => rfl
  have b10 := F10.binds (ps := ["self"]) fun _ _ _ _ _ _ us hl => match us, hl with | [_], _ => rfl
  have b11 := F11.binds (ps := ["self", "rooms"]) fun _ _ _ _ _ _ us hl => match us, hl with | [_, _], _ => rfl
  have b12 := F12.binds (ps := ["self", "name"]) fun _ _ _ _ _ _ us hl => match us, hl with | [_, _], _ => rfl
  have b13 := F13.binds (ps := ["self", "name"]) fun _ _ _ _ _ _ us hl => match us, hl with | [_, _], _ => rfl
  have b14 := F14.binds (ps := ["self", "name"]) fun _ _ _ _ _ _ us hl => match us, hl with | [_, _], _ => rfl
  have b15 := F15.binds (ps := ["self", "rows"]) fun _ _ _ _ _ _ us hl => match us, hl with | [_, _], _ => rfl
  have b16 := F16.binds (ps := ["self", "name", "many"]) fun _ _ _ _ _ _ us hl => match us, hl with | [_, _, _], _ => rfl
  have b17 := F17.binds (ps := ["self", "gifts"]) fun _ _ _ _ _ _ us hl => match us, hl with | [_, _], _ => rfl
  have b18 := F18.binds (ps := ["self", "name", "can", "path", "papers", "black", "colour"]) fun _ _ _ _ _ _ us hl => match us, hl with | [_, _, _, _, _, _, _], _ => rfl
  have b19 := F19.binds (ps := ["self"]) fun _ _ _ _ _ _ us hl => match us, hl with | [_], _ => rfl
  have b20 := F20.binds (ps := ["self", "kind"]) fun _ _ _ _ _ _ us hl => match us, hl with | [_, _], _ => rfl
  have b21 := F21.binds (ps := ["self", "kind", "many"]) fun _ _ _ _ _ _ us hl => match us, hl with | [_, _, _], _ => rfl
  have b22 := F22.binds (ps := ["_law_script", "_law_k"]) fun _ _ _ _ _ _ us hl => match us, hl with | [_, _], _ => rfl
  have b23 := F23.binds (ps := ["_law_cell", "_law_k", "_law_many"]) fun _ _ _ _ _ _ us hl => match us, hl with | [_, _, _], _ => rfl
  have b24 := F24.binds (ps := ["_law_cell", "_law_turn"]) fun _ _ _ _ _ _ us hl => match us, hl with | [_, _], _ => rfl
  have b25 := F25.binds (ps := ["_law_job"]) fun _ _ _ _ _ _ us hl => match us, hl with | [_], _ => rfl
  have b26 := F26.binds (ps := ["_law_due", "_law_can", "_law_trays"]) fun _ _ _ _ _ _ us hl => match us, hl with | [_, _, _], _ => rfl
  have b27 := F27.binds (ps := ["_law_script", "_law_kinds", "_law_job"]) fun _ _ _ _ _ _ us hl => match us, hl with | [_, _, _], _ => rfl
  have b28 := F28.binds (ps := ["_law_name", "_law_can", "_law_trays"]) fun _ _ _ _ _ _ us hl => match us, hl with | [_, _, _], _ => rfl
  have b29 := F29.binds (ps := ["_law_job", "_law_printers"]) fun _ _ _ _ _ _ us hl => match us, hl with | [_, _], _ => rfl
  have b30 := F30.binds (ps := ["_law_told", "_law_due"]) fun _ _ _ _ _ _ us hl => match us, hl with | [_, _], _ => rfl
  have b31 := F31.binds (ps := ["_law_script"]) fun _ _ _ _ _ _ us hl => match us, hl with | [_], _ => rfl
  have T : Txt K mg cJob cState cReady cStock cPrinter cBadLine cUnknown cTooMuch cBusy cNoPrinter cNoWay cHallError := ⟨PySem.W.mg_none_of X G z_len, PySem.W.mg_none_of X G z_range, PySem.W.mg_none_of X G z_int, PySem.W.mg_none_of X G z_tuple, PySem.W.mg_none_of X G z_list, PySem.W.mg_none_of X G z_isinstance, PySem.W.mg_none_of X G z_dict, PySem.W.mg_none_of X G z_ValueError, ⟨⟨tPAPER, by rw [← ePAPER]; exact PySem.W.mg_of X G gPAPER⟩⟩, ⟨⟨tCOVER, by rw [← eCOVER]; exact PySem.W.mg_of X G gCOVER⟩⟩, ⟨⟨tSTAPLE, by rw [← eSTAPLE]; exact PySem.W.mg_of X G gSTAPLE⟩⟩, ⟨⟨tONE_LAYOUT, by rw [← eONE_LAYOUT]; exact PySem.W.mg_of X G gONE_LAYOUT⟩⟩, ⟨⟨tBOTH_SIDES, by rw [← eBOTH_SIDES]; exact PySem.W.mg_of X G gBOTH_SIDES⟩⟩, ⟨⟨tCOLOURED, by rw [← eCOLOURED]; exact PySem.W.mg_of X G gCOLOURED⟩⟩, ⟨⟨tREADY, by rw [← eREADY]; exact PySem.W.mg_of X G gREADY⟩⟩, ⟨⟨tBLACK, by rw [← eBLACK]; exact PySem.W.mg_of X G gBLACK⟩⟩, ⟨⟨tCOLOUR, by rw [← eCOLOUR]; exact PySem.W.mg_of X G gCOLOUR⟩⟩, ⟨pg_Job, hd_Job, po_Job, sa_Job⟩, PySem.W.mg_of X G aC_Job, na_Job_name, na_Job_asker, na_Job_pages, na_Job_copies, na_Job_layout, na_Job_paper, na_Job_cover, na_Job_colour, na_Job_staple, na_Job_after, ⟨pg_State, hd_State, po_State, sa_State⟩, PySem.W.mg_of X G aC_State, na_State_word, ⟨pg_Ready, hd_Ready, po_Ready, sa_Ready⟩, PySem.W.mg_of X G aC_Ready, na_Ready_word, ⟨pg_Stock, hd_Stock, po_Stock, sa_Stock⟩, PySem.W.mg_of X G aC_Stock, na_Stock_rooms, na_Stock_amounts, ⟨pg_Printer, hd_Printer, po_Printer, sa_Printer⟩, PySem.W.mg_of X G aC_Printer, na_Printer_name, na_Printer_can, na_Printer_path, na_Printer_rooms, na_Printer_trays, na_Printer_inks, na_Printer_state, na_Printer_inside, xq_HallError, mh_NoPrinter_NoPrinter, XCl.of xc_BadLine xm_BadLine xcn xct, PySem.W.mg_of X G aC_BadLine, XCl.of xc_Unknown xm_Unknown xcn xct, PySem.W.mg_of X G aC_Unknown, XCl.of xc_TooMuch xm_TooMuch xcn xct, PySem.W.mg_of X G aC_TooMuch, XCl.of xc_Busy xm_Busy xcn xct, PySem.W.mg_of X G aC_Busy, XCl.of xc_NoPrinter xm_NoPrinter xcn xct, PySem.W.mg_of X G aC_NoPrinter, XCl.of xc_NoWay xm_NoWay xcn xct, PySem.W.mg_of X G aC_NoWay, ⟨xb1, xb2, xb3⟩, PySem.W.mg_of X G aC_HallError, xkt⟩
  refine ⟨PySem.W.fnOf "law" "law" (defArgs s_law) (defBody s_law) (defScope s_law) .none kV31 dc31 pm31 an31 cd31 ct31, fun s v => .of_eq rfl, fun base _ _ => ?_⟩
  have D__law_cell_at : Dfn l.prog w K mg base 1 "_law_cell_at" ["_law_script", "_law_k"] (sp__law_cell_at K) := ⟨_, _, ok__law_cell_at F22 T, b22, k22, PySem.W.mg_of X G a22⟩
  have D__law_word : Dfn l.prog w K mg base 1 "_law_word" ["_law_cell", "_law_turn"] (sp__law_word K) := ⟨_, _, ok__law_word F24 T, b24, k24, PySem.W.mg_of X G a24⟩
  have okk4 : FnOk l.prog w K mg base CX0 1 _ _ ["self", "name", "asker", "pages", "copies", "layout", "paper", "cover", "colour", "staple", "after"] (sp_Job_init cJob) := ok_Job_init F4 T
  have M_Job : MkD l.prog w K mg base 1 "Job" cJob ["self", "name", "asker", "pages", "copies", "layout", "paper", "cover", "colour", "staple", "after"] (sp_Job_init cJob) := ⟨_, _, ⟨mk_Job, a4, i4, kc_Job⟩, okk4, b4, PySem.W.mg_of X G aC_Job⟩
  have D__law_needs : Dfn l.prog w K mg base 1 "_law_needs" ["_law_job"] (sp__law_needs K) := ⟨_, _, ok__law_needs F25 T, b25, k25, PySem.W.mg_of X G a25⟩
  have D__law_mix : Dfn l.prog w K mg base 1 "_law_mix" ["_law_cell", "_law_k", "_law_many"] (sp__law_mix K) := ⟨_, _, ok__law_mix F23 T, b23, k23, PySem.W.mg_of X G a23⟩
  have D__law_shapes : Dfn l.prog w K mg base 2 "_law_shapes" ["_law_script", "_law_kinds", "_law_job"] (sp__law_shapes K) := ⟨_, _, ok__law_shapes F27 T D__law_cell_at D__law_mix, b27, k27, PySem.W.mg_of X G a27⟩
  have D_own_copy0 : Dfn l.prog w K mg base 0 "own_copy" ["value"] (spK 0) := ⟨_, _, (never_K F0), b0, k0, PySem.W.mg_of X G a0⟩
  have D_own_copy1 : Dfn l.prog w K mg base 1 "own_copy" ["value"] (spK 1) := ⟨_, _, ok_own_copy F0 T D_own_copy0, b0, k0, PySem.W.mg_of X G a0⟩
  have D_own_copy2 : Dfn l.prog w K mg base 2 "own_copy" ["value"] (spK 2) := ⟨_, _, ok_own_copy F0 T D_own_copy1, b0, k0, PySem.W.mg_of X G a0⟩
  have D_own_copy3 : Dfn l.prog w K mg base 3 "own_copy" ["value"] (spK 3) := ⟨_, _, ok_own_copy F0 T D_own_copy2, b0, k0, PySem.W.mg_of X G a0⟩
  have D_own_copy : Dfn l.prog w K mg base 4 "own_copy" ["value"] (spK 4) := ⟨_, _, ok_own_copy F0 T D_own_copy3, b0, k0, PySem.W.mg_of X G a0⟩
  have X_NoPrinter : MkXD l.prog w K mg base 5 "NoPrinter" cNoPrinter ["self", "job", "lacks"] (sp_nop cNoPrinter) := ⟨⟨_, _, ⟨xm_NoPrinter, a3, i3, kc_NoPrinter⟩, ok_NoPrinter_init F3 T D_own_copy, b3, PySem.W.mg_of X G aC_NoPrinter⟩, by decide⟩
  have D_needs : Dfn l.prog w K mg base 1 "needs" ["job"] (sp_needs cJob) := ⟨_, _, ok_needs F5 T, b5, k5, PySem.W.mg_of X G a5⟩
  have okk19 : FnOk l.prog w K mg base CX0 1 _ _ ["self"] (sp_Pr_papers cPrinter cStock cReady) := ok_Printer_papers F19 T
  have D_Printer_papers : MtE l.prog w K mg base 1 "papers" cPrinter ["self"] (sp_Pr_papers cPrinter cStock cReady) := ⟨_, _, ⟨am_Printer_papers, i19, k19⟩, okk19.lift, b19⟩
  have D_has : Dfn l.prog w K mg base 2 "has" ["printer", "need"] (sp_has cPrinter cStock cReady) := ⟨_, _, ok_has F7 T D_Printer_papers, b7, k7, PySem.W.mg_of X G a7⟩
  have D_lacks : Dfn l.prog w K mg base 3 "lacks" ["job", "printer"] (sp_lacks cJob cPrinter cStock cReady) := ⟨_, _, ok_lacks F6 T D_needs D_has, b6, k6, PySem.W.mg_of X G a6⟩
  have D_fitting : DfE l.prog w K mg base 7 "fitting" ["job", "printers"] (sp_fitting cNoPrinter cJob cPrinter cStock cReady) := ⟨_, _, ok_fitting F8 T X_NoPrinter D_lacks, b8, k8, PySem.W.mg_of X G a8⟩
  have D__law_asked : Dfn l.prog w K mg base 8 "_law_asked" ["_law_job", "_law_printers"] (sp__law_asked cJob cPrinter cStock cReady) := ⟨_, _, ok__law_asked F29 T D_fitting, b29, k29, PySem.W.mg_of X G a29⟩
  have okk11 : FnOk l.prog w K mg base CX0 1 _ _ ["self", "rooms"] (sp_Stock_init cStock) := ok_Stock_init F11 T
  have M_Stock : MkD l.prog w K mg base 1 "Stock" cStock ["self", "rooms"] (sp_Stock_init cStock) := ⟨_, _, ⟨mk_Stock, a11, i11, kc_Stock⟩, okk11, b11, PySem.W.mg_of X G aC_Stock⟩
  have okk9 : FnOk l.prog w K mg base CX0 1 _ _ ["self", "word"] (sp_State_init K) := ok_State_init F9 T
  have M_State : MkD l.prog w K mg base 1 "State" cState ["self", "word"] (sp_State_init K) := ⟨_, _, ⟨mk_State, a9, i9, kc_State⟩, okk9, b9, PySem.W.mg_of X G aC_State⟩
  have I_State : InD l.prog w K mg base 1 "State" cState ["self", "word"] (sp_State_init K) := ⟨_, _, ⟨ib1_State, ib2_State, ib3_State⟩, okk9, b9, k9, PySem.W.mg_of X G aC_State⟩
  have okk10 : FnOk l.prog w K mg base CX0 2 _ _ ["self"] (sp_Ready_init cReady) := ok_Ready_init F10 T I_State
  have M_Ready : MkD l.prog w K mg base 2 "Ready" cReady ["self"] (sp_Ready_init cReady) := ⟨_, _, ⟨mk_Ready, a10, i10, kc_Ready⟩, okk10, b10, PySem.W.mg_of X G aC_Ready⟩
  have okk18 : FnOk l.prog w K mg base CX0 4 _ _ ["self", "name", "can", "path", "papers", "black", "colour"] (sp_Pr_init cPrinter cStock cReady) := ok_Printer_init F18 T M_Stock M_Ready
  have M_Printer : MkD l.prog w K mg base 4 "Printer" cPrinter ["self", "name", "can", "path", "papers", "black", "colour"] (sp_Pr_init cPrinter cStock cReady) := ⟨_, _, ⟨mk_Printer, a18, i18, kc_Printer⟩, okk18, b18, PySem.W.mg_of X G aC_Printer⟩
  have X_TooMuch : MkXD l.prog w K mg base 1 "TooMuch" cTooMuch ["self", "name"] (sp_one cTooMuch "name") := ⟨⟨_, _, ⟨xm_TooMuch, a2, i2, kc_TooMuch⟩, ok_TooMuch_init F2 T, b2, PySem.W.mg_of X G aC_TooMuch⟩, by decide⟩
  have X_Unknown : MkXD l.prog w K mg base 1 "Unknown" cUnknown ["self", "name"] (sp_one cUnknown "name") := ⟨⟨_, _, ⟨xm_Unknown, a1, i1, kc_Unknown⟩, ok_Unknown_init F1 T, b1, PySem.W.mg_of X G aC_Unknown⟩, by decide⟩
  have okk14 : FnOk l.prog w K mg base (CXe l.prog w) 3 _ _ ["self", "name"] (sp_know cStock cUnknown) := ok_Stock_know F14 T X_Unknown
  have D_Stock_know : MtE l.prog w K mg base 3 "know" cStock ["self", "name"] (sp_know cStock cUnknown) := ⟨_, _, ⟨am_Stock_know, i14, k14⟩, okk14, b14⟩
  have okk15 : FnOk l.prog w K mg base (CXe l.prog w) 4 _ _ ["self", "rows"] (sp_know_all cStock cUnknown) := ok_Stock_know_all F15 T D_Stock_know
  have D_Stock_know_all : MtE l.prog w K mg base 4 "know_all" cStock ["self", "rows"] (sp_know_all cStock cUnknown) := ⟨_, _, ⟨am_Stock_know_all, i15, k15⟩, okk15, b15⟩
  have okk17 : FnOk l.prog w K mg base (CXe l.prog w) 5 _ _ ["self", "gifts"] (sp_all cStock cUnknown cTooMuch 1 tooMuch) := ok_Stock_put_all F17 T X_TooMuch D_Stock_know_all
  have D_Stock_put_all : MtE l.prog w K mg base 5 "put_all" cStock ["self", "gifts"] (sp_all cStock cUnknown cTooMuch 1 tooMuch) := ⟨_, _, ⟨am_Stock_put_all, i17, k17⟩, okk17, b17⟩
  have okk16 : FnOk l.prog w K mg base (CXe l.prog w) 6 _ _ ["self", "name", "many"] (sp_put cStock cUnknown cTooMuch) := ok_Stock_put F16 T D_Stock_put_all
  have D_Stock_put : MtE l.prog w K mg base 6 "put" cStock ["self", "name", "many"] (sp_put cStock cUnknown cTooMuch) := ⟨_, _, ⟨am_Stock_put, i16, k16⟩, okk16, b16⟩
  have okk21 : FnOk l.prog w K mg base (CXe l.prog w) 7 _ _ ["self", "kind", "many"] (sp_Pr_load cPrinter cStock cReady) := ok_Printer_load F21 T D_Stock_put
  have D_Printer_load : MtE l.prog w K mg base 7 "load" cPrinter ["self", "kind", "many"] (sp_Pr_load cPrinter cStock cReady) := ⟨_, _, ⟨am_Printer_load, i21, k21⟩, okk21, b21⟩
  have D__law_printer : Dfn l.prog w K mg base 8 "_law_printer" ["_law_name", "_law_can", "_law_trays"] (sp__law_printer cPrinter cStock cReady) := ⟨_, _, ok__law_printer F28 T M_Printer D_Printer_load, b28, k28, PySem.W.mg_of X G a28⟩
  have D__law_lacking : Dfn l.prog w K mg base 1 "_law_lacking" ["_law_due", "_law_can", "_law_trays"] (sp__law_lacking K) := ⟨_, _, ok__law_lacking F26 T, b26, k26, PySem.W.mg_of X G a26⟩
  have D__law_rows : Dfn l.prog w K mg base 1 "_law_rows" ["_law_told", "_law_due"] (sp__law_rows K) := ⟨_, _, ok__law_rows F30 T, b30, k30, PySem.W.mg_of X G a30⟩
  have okk12 : FnOk l.prog w K mg base (CXe l.prog w) 4 _ _ ["self", "name"] (sp_held cStock cUnknown) := ok_Stock_held F12 T D_Stock_know
  have D_Stock_held : MtE l.prog w K mg base 4 "held" cStock ["self", "name"] (sp_held cStock cUnknown) := ⟨_, _, ⟨am_Stock_held, i12, k12⟩, okk12, b12⟩
  have okk20 : FnOk l.prog w K mg base (CXe l.prog w) 5 _ _ ["self", "kind"] (sp_Pr_paper_left cPrinter cStock cReady) := ok_Printer_paper_left F20 T D_Stock_held
  have D_Printer_paper_left : MtE l.prog w K mg base 5 "paper_left" cPrinter ["self", "kind"] (sp_Pr_paper_left cPrinter cStock cReady) := ⟨_, _, ⟨am_Printer_paper_left, i20, k20⟩, okk20, b20⟩
  exact ok_law F31 T D__law_cell_at D__law_word M_Job D__law_needs D__law_shapes D__law_asked D__law_printer D_fitting D__law_mix D__law_lacking D__law_rows D_Printer_paper_left
theorem walk {l : PySem.W.OpenLaw} {q : Program} {loose : List Str} {XP : (Str → Option Value) → Heap → Prop} {YP : World → Heap → Prop} {d : DefRec} {K : Params → PySem.W.Frag} (hn : l.most = some 63) (hdf : d.params.defaults = [])
    (hY : ∀ (w : World) (h : Heap), YP w h → (K w.params).In h)
    (F : ∀ (w : World) (mg : Str → Option Value) (fa : Addr) (h : Heap), (K w.params).In h → h.Ns mainGlobals mg → mg d.name = some (.ref fa) →
      ∃ fd : FuncData, (∀ (s : Shared) (u : Value), BindsTo s fd ⟨[u], []⟩ [("_law_script", u)]) ∧ ∀ base : Heap, (K w.params).In base → base.Ns mainGlobals mg → FnOk l.prog w (K w.params) mg base CX0 9 fa fd ["_law_script"] (sp_law (K w.params))) :
    PySem.W.WalkO q loose XP YP l.row.toRowW d [] (fun f vs => PySem.call f vs) :=
  L2.walk_of (n := 63) (k := 9) (x := "_law_script") (CX := fun _ => CX0) (sp := fun w => sp_law (K w.params)) hn (by decide) hdf ⟨rfl, by decide, by decide⟩ hY F (fun _ _ a ns hl _ hS => ⟨a, rfl, ⟨⟨ns, hS, hl⟩⟩, fun _ => rfl⟩) fun _ _ _ _ _ z => z
end My
open PySem PySem.W PyProof.Rows
set_option maxRecDepth 100000 in
set_option maxHeartbeats 0 in
theorem PySem.Challenge.cw_spoolhall_k48_fitting_or_refused_holds : PySem.Challenge.rw_spoolhall_k48_fitting_or_refused.Holds := by
  w_on; o_law; k_head; (case hw => w_witness2)
  k_fill
  refine My.walk (l := PySem.Challenge.rw_spoolhall_k48_fitting_or_refused) rfl rfl (fun w h Y => PySem.W.kIn_of Y) ?F
  case F =>
    intro w mg fa h KX G hmg
    refine' My.all_mk KX G hmg ?aC_Job ?aC_State ?aC_Ready ?aC_Stock ?aC_Printer ?aC_BadLine ?aC_Unknown ?aC_TooMuch ?aC_Busy ?aC_NoPrinter ?aC_NoWay ?aC_HallError ?a0 ?l0 ?c0 ?k0 ?a1 ?i1 ?l1 ?c1 ?k1 ?a2 ?i2 ?l2 ?c2 ?k2 ?a3 ?i3 ?l3 ?c3 ?k3 ?a4 ?i4 ?l4 ?c4 ?k4 ?a5 ?l5 ?c5 ?k5 ?a6 ?l6 ?c6 ?k6 ?a7 ?l7 ?c7 ?k7 ?a8 ?l8 ?c8 ?k8 ?a9 ?i9 ?l9 ?c9 ?k9 ?a10 ?i10 ?l10 ?c10 ?k10 ?a11 ?i11 ?l11 ?c11 ?k11 ?a12 ?i12 ?l12 ?c12 ?k12 ?a13 ?i13 ?l13 ?c13 ?k13 ?a14 ?i14 ?l14 ?c14 ?k14 ?a15 ?i15 ?l15 ?c15 ?k15 ?a16 ?i16 ?l16 ?c16 ?k16 ?a17 ?i17 ?l17 ?c17 ?k17 ?a18 ?i18 ?l18 ?c18 ?k18 ?a19 ?i19 ?l19 ?c19 ?k19 ?a20 ?i20 ?l20 ?c20 ?k20 ?a21 ?i21 ?l21 ?c21 ?k21 ?a22 ?l22 ?c22 ?k22 ?a23 ?l23 ?c23 ?k23 ?a24 ?l24 ?c24 ?k24 ?a25 ?l25 ?c25 ?k25 ?a26 ?l26 ?c26 ?k26 ?a27 ?l27 ?c27 ?k27 ?a28 ?l28 ?c28 ?k28 ?a29 ?l29 ?c29 ?k29 ?a30 ?l30 ?c30 ?k30 ?a31 ?l31 ?c31 ?k31 ?pg_Job ?hd_Job ?po_Job ?sa_Job ?mk_Job ?kc_Job ?na_Job_name ?na_Job_asker ?na_Job_pages ?na_Job_copies ?na_Job_layout ?na_Job_paper ?na_Job_cover ?na_Job_colour ?na_Job_staple ?na_Job_after ?pg_State ?hd_State ?po_State ?sa_State ?mk_State ?kc_State ?na_State_word ?pg_Ready ?hd_Ready ?po_Ready ?sa_Ready ?mk_Ready ?kc_Ready ?na_Ready_word ?pg_Stock ?hd_Stock ?po_Stock ?sa_Stock ?mk_Stock ?kc_Stock ?na_Stock_rooms ?na_Stock_amounts ?pg_Printer ?hd_Printer ?po_Printer ?sa_Printer ?mk_Printer ?kc_Printer ?na_Printer_name ?na_Printer_can ?na_Printer_path ?na_Printer_rooms ?na_Printer_trays ?na_Printer_inks ?na_Printer_state ?na_Printer_inside ?xc_BadLine ?xm_BadLine ?kc_BadLine ?xc_Unknown ?xm_Unknown ?kc_Unknown ?xc_TooMuch ?xm_TooMuch ?kc_TooMuch ?xc_Busy ?xm_Busy ?kc_Busy ?xc_NoPrinter ?xm_NoPrinter ?kc_NoPrinter ?xc_NoWay ?xm_NoWay ?kc_NoWay ?am_Printer_papers ?am_Stock_know ?am_Stock_put_all ?am_Stock_know_all ?am_Stock_held ?am_Stock_put ?am_Printer_load ?am_Printer_paper_left ?ib1_State ?ib2_State ?ib3_State ?xq_HallError ?mh_NoPrinter_NoPrinter ?xcn ?xct ?xb1 ?xb2 ?xb3 ?xkt ?gPAPER ?ePAPER ?gCOVER ?eCOVER ?gSTAPLE ?eSTAPLE ?gONE_LAYOUT ?eONE_LAYOUT ?gBOTH_SIDES ?eBOTH_SIDES ?gCOLOURED ?eCOLOURED ?gREADY ?eREADY ?gBLACK ?eBLACK ?gCOLOUR ?eCOLOUR ?z_len ?z_range ?z_int ?z_tuple ?z_list ?z_isinstance ?z_dict ?z_ValueError
    (case aC_Job => k_is)
    (case aC_State => k_is)
    (case aC_Ready => k_is)
    (case aC_Stock => k_is)
    (case aC_Printer => k_is)
    (case aC_BadLine => k_is)
    (case aC_Unknown => k_is)
    (case aC_TooMuch => k_is)
    (case aC_Busy => k_is)
    (case aC_NoPrinter => k_is)
    (case aC_NoWay => k_is)
    (case aC_HallError => k_is)
    (case a0 => k_is)
    (case l0 => k_is)
    (case c0 => k_is)
    (case k0 => k_is)
    (case a1 => k_is)
    (case i1 => k_is)
    (case l1 => k_is)
    (case c1 => k_is)
    (case k1 => k_is)
    (case a2 => k_is)
    (case i2 => k_is)
    (case l2 => k_is)
    (case c2 => k_is)
    (case k2 => k_is)
    (case a3 => k_is)
    (case i3 => k_is)
    (case l3 => k_is)
    (case c3 => k_is)
    (case k3 => k_is)
    (case a4 => k_is)
    (case i4 => k_is)
    (case l4 => k_is)
    (case c4 => k_is)
    (case k4 => k_is)
    (case a5 => k_is)
    (case l5 => k_is)
    (case c5 => k_is)
    (case k5 => k_is)
    (case a6 => k_is)
    (case l6 => k_is)
    (case c6 => k_is)
    (case k6 => k_is)
    (case a7 => k_is)
    (case l7 => k_is)
    (case c7 => k_is)
    (case k7 => k_is)
    (case a8 => k_is)
    (case l8 => k_is)
    (case c8 => k_is)
    (case k8 => k_is)
    (case a9 => k_is)
    (case i9 => k_is)
    (case l9 => k_is)
    (case c9 => k_is)
    (case k9 => k_is)
    (case a10 => k_is)
    (case i10 => k_is)
    (case l10 => k_is)
    (case c10 => k_is)
    (case k10 => k_is)
    (case a11 => k_is)
    (case i11 => k_is)
    (case l11 => k_is)
    (case c11 => k_is)
    (case k11 => k_is)
    (case a12 => k_is)
    (case i12 => k_is)
    (case l12 => k_is)
    (case c12 => k_is)
    (case k12 => k_is)
    (case a13 => k_is)
    (case i13 => k_is)
    (case l13 => k_is)
    (case c13 => k_is)
    (case k13 => k_is)
    (case a14 => k_is)
    (case i14 => k_is)
    (case l14 => k_is)
    (case c14 => k_is)
    (case k14 => k_is)
    (case a15 => k_is)
    (case i15 => k_is)
    (case l15 => k_is)
    (case c15 => k_is)
    (case k15 => k_is)
    (case a16 => k_is)
    (case i16 => k_is)
    (case l16 => k_is)
    (case c16 => k_is)
    (case k16 => k_is)
    (case a17 => k_is)
    (case i17 => k_is)
    (case l17 => k_is)
    (case c17 => k_is)
    (case k17 => k_is)
    (case a18 => k_is)
    (case i18 => k_is)
    (case l18 => k_is)
    (case c18 => k_is)
    (case k18 => k_is)
    (case a19 => k_is)
    (case i19 => k_is)
    (case l19 => k_is)
    (case c19 => k_is)
    (case k19 => k_is)
    (case a20 => k_is)
    (case i20 => k_is)
    (case l20 => k_is)
    (case c20 => k_is)
    (case k20 => k_is)
    (case a21 => k_is)
    (case i21 => k_is)
    (case l21 => k_is)
    (case c21 => k_is)
    (case k21 => k_is)
    (case a22 => k_is)
    (case l22 => k_is)
    (case c22 => k_is)
    (case k22 => k_is)
    (case a23 => k_is)
    (case l23 => k_is)
    (case c23 => k_is)
    (case k23 => k_is)
    (case a24 => k_is)
    (case l24 => k_is)
    (case c24 => k_is)
    (case k24 => k_is)
    (case a25 => k_is)
    (case l25 => k_is)
    (case c25 => k_is)
    (case k25 => k_is)
    (case a26 => k_is)
    (case l26 => k_is)
    (case c26 => k_is)
    (case k26 => k_is)
    (case a27 => k_is)
    (case l27 => k_is)
    (case c27 => k_is)
    (case k27 => k_is)
    (case a28 => k_is)
    (case l28 => k_is)
    (case c28 => k_is)
    (case k28 => k_is)
    (case a29 => k_is)
    (case l29 => k_is)
    (case c29 => k_is)
    (case k29 => k_is)
    (case a30 => k_is)
    (case l30 => k_is)
    (case c30 => k_is)
    (case k30 => k_is)
    (case a31 => k_is)
    (case l31 => k_is)
    (case c31 => k_is)
    (case k31 => k_is)
    (case pg_Job => k_is)
    (case hd_Job => k_is)
    (case po_Job => k_is)
    (case sa_Job => k_is)
    (case mk_Job => k_is)
    (case kc_Job => k_is)
    (case na_Job_name => k_is)
    (case na_Job_asker => k_is)
    (case na_Job_pages => k_is)
    (case na_Job_copies => k_is)
    (case na_Job_layout => k_is)
    (case na_Job_paper => k_is)
    (case na_Job_cover => k_is)
    (case na_Job_colour => k_is)
    (case na_Job_staple => k_is)
    (case na_Job_after => k_is)
    (case pg_State => k_is)
    (case hd_State => k_is)
    (case po_State => k_is)
    (case sa_State => k_is)
    (case mk_State => k_is)
    (case kc_State => k_is)
    (case na_State_word => k_is)
    (case pg_Ready => k_is)
    (case hd_Ready => k_is)
    (case po_Ready => k_is)
    (case sa_Ready => k_is)
    (case mk_Ready => k_is)
    (case kc_Ready => k_is)
    (case na_Ready_word => k_is)
    (case pg_Stock => k_is)
    (case hd_Stock => k_is)
    (case po_Stock => k_is)
    (case sa_Stock => k_is)
    (case mk_Stock => k_is)
    (case kc_Stock => k_is)
    (case na_Stock_rooms => k_is)
    (case na_Stock_amounts => k_is)
    (case pg_Printer => k_is)
    (case hd_Printer => k_is)
    (case po_Printer => k_is)
    (case sa_Printer => k_is)
    (case mk_Printer => k_is)
    (case kc_Printer => k_is)
    (case na_Printer_name => k_is)
    (case na_Printer_can => k_is)
    (case na_Printer_path => k_is)
    (case na_Printer_rooms => k_is)
    (case na_Printer_trays => k_is)
    (case na_Printer_inks => k_is)
    (case na_Printer_state => k_is)
    (case na_Printer_inside => k_is)
    (case xc_BadLine => kernel_rfl)
    (case xm_BadLine => kernel_rfl)
    (case kc_BadLine => k_is)
    (case xc_Unknown => kernel_rfl)
    (case xm_Unknown => kernel_rfl)
    (case kc_Unknown => k_is)
    (case xc_TooMuch => kernel_rfl)
    (case xm_TooMuch => kernel_rfl)
    (case kc_TooMuch => k_is)
    (case xc_Busy => kernel_rfl)
    (case xm_Busy => kernel_rfl)
    (case kc_Busy => k_is)
    (case xc_NoPrinter => kernel_rfl)
    (case xm_NoPrinter => kernel_rfl)
    (case kc_NoPrinter => k_is)
    (case xc_NoWay => kernel_rfl)
    (case xm_NoWay => kernel_rfl)
    (case kc_NoWay => k_is)
    (case am_Printer_papers => k_is)
    (case am_Stock_know => k_is)
    (case am_Stock_put_all => k_is)
    (case am_Stock_know_all => k_is)
    (case am_Stock_held => k_is)
    (case am_Stock_put => k_is)
    (case am_Printer_load => k_is)
    (case am_Printer_paper_left => k_is)
    (case ib1_State => k_is)
    (case ib2_State => k_is)
    (case ib3_State => k_is)
    (case xq_HallError => kernel_rfl)
    (case mh_NoPrinter_NoPrinter => kernel_rfl)
    (case xcn => k_is)
    (case xct => k_is)
    (case xb1 => k_is)
    (case xb2 => k_is)
    (case xb3 => k_is)
    (case xkt => kernel_rfl)
    (case gPAPER => k_is)
    (case ePAPER => first | rfl | decide +kernel)
    (case gCOVER => k_is)
    (case eCOVER => first | rfl | decide +kernel)
    (case gSTAPLE => k_is)
    (case eSTAPLE => first | rfl | decide +kernel)
    (case gONE_LAYOUT => k_is)
    (case eONE_LAYOUT => first | rfl | decide +kernel)
    (case gBOTH_SIDES => k_is)
    (case eBOTH_SIDES => first | rfl | decide +kernel)
    (case gCOLOURED => k_is)
    (case eCOLOURED => first | rfl | decide +kernel)
    (case gREADY => k_is)
    (case eREADY => first | rfl | decide +kernel)
    (case gBLACK => k_is)
    (case eBLACK => first | rfl | decide +kernel)
    (case gCOLOUR => k_is)
    (case eCOLOUR => first | rfl | decide +kernel)
    (case z_len => k_is)
    (case z_range => k_is)
    (case z_int => k_is)
    (case z_tuple => k_is)
    (case z_list => k_is)
    (case z_isinstance => k_is)
    (case z_dict => k_is)
    (case z_ValueError => k_is)
#print axioms PySem.Challenge.cw_spoolhall_k48_fitting_or_refused_holds
