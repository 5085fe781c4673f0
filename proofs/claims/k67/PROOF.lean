import PyProof.Rows.All
import Wide.All
import OpenK.AllK
import Wide.FinOn
import Lean
import PyProof.EqAt
import PyProof.EqKinds
import PyProof.TupleCall
import PyProof.EnumMake
import PyProof.Draws
import PyProof.InstStoreFacts
import PyProof.ExcArgs
import PyProof.ExcBaseAll.ValueError
import KE.KDictLaws
import OpenK.KOwn
import PyProof.ListRange
import PyProof.AttrMissHeap
import PyProof.MinMaxWalk
import PyProof.WalksMore
import PyProof.NeKinds
import KE.KDictList
import KE.KDictSum
import KE.KEqDict
import PySem.Challenge.RW_spoolhall_k67_book_sums
set_option Elab.async false
set_option linter.all false
set_option maxRecDepth 100000
/-! THE HAND LAYER, for ints, bools, texts, own classes, LISTS and tuples (index, slices, in, append, pop ..), calls, loops. Paste it whole ahead of your own text; what your proof does not reach may be deleted. -/
namespace L2
open PySem PySem.Spec PyProof.Rows

/-- a key: an int or a str -/
abbrev Key := Sum Int Str
def keyIs : Key → Value → Bool
  | .inl k, v => Value.isInt k v
  | .inr x, v => Value.isStrOf x v
def keyH (w : World) : Key → Int
  | .inl k => hashInt k
  | .inr x => hashStr w x
theorem keyIs_shape : ∀ {k : Key} {v : Value}, keyIs k v = true → (∃ i t, k = Sum.inl i ∧ v = Value.int i t) ∨ (∃ x t, k = Sum.inr x ∧ v = Value.str x t)
  | .inl i, v, h => by
    obtain ⟨t, e⟩ := Value.isInt_shape (k := i) (v := v) h
    exact .inl ⟨i, t, rfl, e⟩
  | .inr x, v, h => by
    obtain ⟨t, e⟩ := Value.isStrOf_shape (x := x) (v := v) h
    exact .inr ⟨x, t, rfl, e⟩
theorem keyIs_int (i : Int) (t : Tok) : keyIs (.inl i) (.int i t) = true := by simp [keyIs, Value.isInt]
theorem keyIs_str (x : Str) (t : Tok) : keyIs (.inr x) (.str x t) = true := by simp [keyIs, Value.isStrOf]
theorem key_ll (a b : Int) : decide ((Sum.inl a : Key) = Sum.inl b) = (a == b) := by
  by_cases e : a = b
  · subst e; simp
  · have h : ¬ (Sum.inl a : Key) = Sum.inl b := fun q => e (Sum.inl.inj q)
    rw [decide_eq_false h]
    exact (beq_eq_false_iff_ne.mpr e).symm
theorem key_rr (a b : Str) : decide ((Sum.inr a : Key) = Sum.inr b) = decide (a = b) := by
  by_cases e : a = b
  · subst e; simp
  · have h : ¬ (Sum.inr a : Key) = Sum.inr b := fun q => e (Sum.inr.inj q)
    rw [decide_eq_false h, decide_eq_false e]
theorem key_lr (a : Int) (b : Str) : decide ((Sum.inl a : Key) = Sum.inr b) = false := decide_eq_false (fun q => nomatch q)
theorem key_rl (a : Str) (b : Int) : decide ((Sum.inr a : Key) = Sum.inl b) = false := decide_eq_false (fun q => nomatch q)

def mixKind (prog : Program) (w : World) : PySem.KeyKind prog w Key where
  is := keyIs
  hash := keyH w
  inj := fun v a b ha hb => by
    rcases keyIs_shape ha with ⟨i, t, rfl, rfl⟩ | ⟨x, t, rfl, rfl⟩
    · rcases keyIs_shape hb with ⟨j, u, rfl, e⟩ | ⟨y, u, rfl, e⟩
      · injection e with e1 _; rw [e1]
      · exact nomatch e
    · rcases keyIs_shape hb with ⟨j, u, rfl, e⟩ | ⟨y, u, rfl, e⟩
      · exact nomatch e
      · injection e with e1 _; rw [e1]
  byValue := fun k v h => by
    rcases keyIs_shape h with ⟨i, t, rfl, rfl⟩ | ⟨x, t, rfl, rfl⟩ <;> rfl
  pyHash := fun hv h => by
    rcases keyIs_shape hv with ⟨i, t, rfl, rfl⟩ | ⟨x, t, rfl, rfl⟩
    · exact wpAny_pyHash_int h
    · exact wpAny_pyHash_str h
  eqBool := fun hu hv h => by
    rcases keyIs_shape hu with ⟨i, t, rfl, rfl⟩ | ⟨x, t, rfl, rfl⟩
    · rcases keyIs_shape hv with ⟨j, u, rfl, rfl⟩ | ⟨y, u, rfl, rfl⟩
      · rw [key_ll] at h; exact wpAny_eqBool_int h
      · rw [key_lr] at h; exact SeqAt.EqAt.int_str i t y u _ _ _ _ h
    · rcases keyIs_shape hv with ⟨j, u, rfl, rfl⟩ | ⟨y, u, rfl, rfl⟩
      · rw [key_rl] at h; exact SeqAt.EqAt.str_int x t j u _ _ _ _ h
      · rw [key_rr] at h; exact wpAny_eqBool_str h
  «strs» := fun k x t v h => by
    rcases keyIs_shape h with ⟨i, u, rfl, e⟩ | ⟨y, u, rfl, e⟩
    · exact nomatch e
    · injection e with e1 _
      subst e1
      cases v <;> rfl

theorem mixKind_int (prog : Program) (w : World) (i : Int) (t : Tok) : (mixKind prog w).is (.inl i) (.int i t) = true := keyIs_int i t
theorem mixKind_str (prog : Program) (w : World) (x : Str) (t : Tok) : (mixKind prog w).is (.inr x) (.str x t) = true := keyIs_str x t
end L2

namespace L2
open PySem PySem.Spec PyProof.Rows

/-- a value, without the heap -/
inductive V where
  | non | bl (b : Bool) | int (i : Int) | str (x : Str) | byt (b : Array UInt8) | flt (b : UInt64) | ref (a : Addr) | ty (n : String)
  deriving DecidableEq

def RelV : V → Value → Prop
  | .non, u => u = Value.none
  | .bl b, u => u = Value.bool b
  | .int i, u => ∃ t, u = Value.int i t
  | .str x, u => ∃ t, u = Value.str x t
  | .byt b, u => ∃ t, u = Value.bytes b t
  | .flt b, u => ∃ t, u = Value.float b t
  | .ref a, u => u = Value.ref a
  | .ty n, u => u = Value.type n

abbrev Vals : List V → List Value → Prop := Paired RelV
theorem Vals.length {xs : List V} {us : List Value} (r : Vals xs us) : xs.length = us.length := Paired.length r
theorem Vals.get : ∀ {xs : List V} {us : List Value} {i : Nat} {x : V}, Vals xs us → xs[i]? = some x → ∃ u, us[i]? = some u ∧ RelV x u
  | _, _, _, _, .nil, e => by simp at e
  | _, _, 0, _, .cons r _, e => by simp at e; subst e; exact ⟨_, rfl, r⟩
  | _, _, i + 1, x, .cons _ t, e => by
    obtain ⟨u, h1, h2⟩ := Vals.get (i := i) (x := x) t (by simpa using e)
    exact ⟨u, by simpa using h1, h2⟩
theorem Vals.set {x : V} {u : Value} (r : RelV x u) : ∀ {xs : List V} {us : List Value} (i : Nat), Vals xs us → Vals (xs.set i x) (us.set i u)
  | _, _, _, .nil => .nil
  | _, _, 0, .cons _ t => .cons r t
  | _, _, i + 1, .cons q t => .cons q (Vals.set r i t)
theorem Vals.append : ∀ {xs ys : List V} {us ws : List Value}, Vals xs us → Vals ys ws → Vals (xs ++ ys) (us ++ ws)
  | _, _, _, _, .nil, s => s
  | _, _, _, _, .cons r t, s => .cons r (Vals.append t s)
theorem Vals.take : ∀ {xs : List V} {us : List Value} (n : Nat), Vals xs us → Vals (xs.take n) (us.take n)
  | _, _, 0, _ => .nil
  | _, _, _ + 1, .nil => .nil
  | _, _, n + 1, .cons r t => .cons r (Vals.take n t)
theorem Vals.drop : ∀ {xs : List V} {us : List Value} (n : Nat), Vals xs us → Vals (xs.drop n) (us.drop n)
  | _, _, 0, r => r
  | _, _, _ + 1, .nil => .nil
  | _, _, n + 1, .cons _ t => Vals.drop n t
theorem Vals.none_of : ∀ {xs : List V} {us : List Value} {i : Nat}, Vals xs us → xs[i]? = none → us[i]? = none := fun {xs us i} r e => by
  have h1 := r.length
  have h2 : xs.length ≤ i := List.getElem?_eq_none_iff.mp e
  exact List.getElem?_eq_none_iff.mpr (by omega)

def RelO : Option V → Option Value → Prop
  | some v, some u => RelV v u
  | none, none => True
  | _, _ => False
def KV {κ : Type} : List (κ × V) → List (κ × Value) → Prop := Paired fun (p : κ × V) (q : κ × Value) => p.1 = q.1 ∧ RelV p.2 q.2

/-- a key of a dict (00_mix): an int or a text -/
def kV : Key → V
  | .inl i => .int i
  | .inr x => .str x

/-- what stands at a tracked address -/
inductive HO where
  /-- a list -/
  | lst (xs : List V)
  /-- a tuple (never changes) -/
  | tup (xs : List V)
  /-- a dict whose keys are ints and texts; one whose keys are tuples of ints and texts (the empty one is both) -/
  | dK (kvs : List (Key × V)) | dT (kvs : List (List Key × V))
  /-- a set of ints: its members, its size -/
  | set (S : Int → Bool) (n : Nat)
  /-- an instance of the class at C, its dict at dx, its attributes -/
  | ins (C dx : Addr) (fs : List (Str × V))
  /-- the dict of the instance at x -/
  | own (x : Addr)
  /-- the dict of an exception -/
  | xd (fs : List (Str × V))
  /-- a bound method, f of x -/
  | met (f x : Addr)
  /-- a range object lo, lo + 1, .. below hi -/
  | rng (lo hi : Int)
  /-- a thing that is known to the object (the script; a dict while a loop walks it): read, never written while it is so -/
  | frz (o : Obj) (u : HO)
  /-- a code object's table -/
  | tbl (ps : Array Value)
  /-- any other thing, by what is true of its one object (a def of one's own: SetO a S n := HO.ext fun h => ..) -/
  | ext (φ : Heap → Prop)

abbrev Hp := Addr → Option HO
def upd (H : Hp) (a : Addr) (o : HO) : Hp := fun b => if b = a then some o else H b
theorem upd_same {H : Hp} {a : Addr} {o : HO} : upd H a o a = some o := by unfold upd; rw [if_pos rfl]
theorem upd_ne {H : Hp} {a b : Addr} {o : HO} (h : b ≠ a) : upd H a o b = H b := by unfold upd; rw [if_neg h]
theorem upd_upd {H : Hp} {a : Addr} {o u : HO} : upd (upd H a o) a u = upd H a u := by
  funext b; unfold upd; split <;> rfl
/-- two objects of different content stand apart -/
theorem ne_of {H : Hp} {a b : Addr} {o u : HO} (h : H a = some o) (h' : H b = some u) (d : o ≠ u) : a ≠ b := by
  intro e; subst e; rw [h] at h'; exact d (Option.some.inj h')
theorem ne_of_none {H : Hp} {a b : Addr} {o : HO} (h : H a = some o) (h' : H b = none) : a ≠ b := by
  intro e; subst e; rw [h] at h'; cases h'

section
variable (P : Program) (w : World)
def ObjOk (H : Hp) (h : Heap) (a : Addr) : HO → Prop
  | .lst xs => xs.length ≤ sizeLine ∧ ∃ (its : List Value) (n : Nat), Vals xs its ∧ h.get? a = some { cls := .type "list", data := .seq its.toArray n }
  | .tup xs => xs.length ≤ sizeLine ∧ ∃ its : List Value, Vals xs its ∧ IsTup h a its.toArray
  | .dK kvs => kvs.length ≤ sizeLine ∧ (a == sysModules) = false ∧ ∃ vs, KV kvs vs ∧ h.DictOf (mixKind P w) a vs
  | .dT kvs => kvs.length ≤ sizeLine ∧ (a == sysModules) = false ∧ ∃ xs : List (List Key × Addr × Value),
      Paired (fun (p : List Key × V) (q : List Key × Addr × Value) => p.1 = q.1 ∧ H q.2.1 = some (.tup (p.1.map kV)) ∧ RelV p.2 q.2.2) kvs xs ∧
      ∃ o es ep, h.get? a = some o ∧ o.ExactDict ∧ o.data = .dict es ep ∧ es.toList = xs.map (entryOfKey (tupleKind (mixKind P w))) ∧ (xs.map (·.1)).Nodup
  | .set S n => h.SetOf (intKind P w) a S n
  | .ins C dx fs => H dx = some (.own a) ∧ fs.length ≤ 1000 ∧ dx ≠ a ∧ h.get? a = some (PySem.W.instObj C dx) ∧
      ∃ mA, h.Ns1 dx mA ∧ (∀ f, RelO (fs.lookup f) (mA f)) ∧ PySem.Within mA (fs.map (·.1))
  | .own _ => ∃ o, h.get? a = some o
  | .xd fs => ∃ mA, h.Ns1 a mA ∧ ∀ f, RelO (fs.lookup f) (mA f)
  | .rng lo hi => ∃ t u v, h.get? a = some { cls := .type "range", data := .fields #[.int lo t, .int hi u, .int 1 v] }
  | .frz o u => h.get? a = some o ∧ ObjOk H h a u
  | .tbl ps => h.get? a = some { cls := .none, data := .fields ps }
  | .met f x => h.get? a = some (PySem.W.methodObj (.ref f) (.ref x))
  | .ext φ => φ h ∧ (∃ o, h.get? a = some o) ∧ ∀ h1 h2 : Heap, φ h1 → (∀ o, h1.get? a = some o → h2.get? a = some o) → φ h2
/-- the abstract heap is held -/
def HOk (H : Hp) (h : Heap) : Prop := ∀ a o, H a = some o → ObjOk P w H h a o
end

section
variable {P : Program} {w : World} {H H' : Hp} {h h' : Heap} {a : Addr} {o : HO}
theorem ObjOk.lt (x : ObjOk P w H h a o) : a < h.objs.size := by
  cases o with
  | lst xs => obtain ⟨_, _, _, _, e⟩ := x; exact Heap.lt_size e
  | tup xs => obtain ⟨_, _, _, p⟩ := x; exact p.lt
  | dK kvs => obtain ⟨_, _, _, _, o, _, _, e, _⟩ := x; exact Heap.lt_size e
  | dT kvs => obtain ⟨_, _, _, _, o, _, _, e, _⟩ := x; exact Heap.lt_size e
  | set S n => obtain ⟨o, _, _, _, e, _⟩ := x; exact Heap.lt_size e
  | ins C dx fs => obtain ⟨_, _, _, e, _⟩ := x; exact Heap.lt_size e
  | own y => obtain ⟨_, e⟩ := x; exact Heap.lt_size e
  | xd fs => obtain ⟨_, ⟨_, _, _, e, _⟩, _⟩ := x; exact Heap.lt_size e
  | rng lo hi => obtain ⟨_, _, _, e⟩ := x; exact Heap.lt_size e
  | frz ob u => obtain ⟨e, _⟩ := x; exact Heap.lt_size e
  | tbl ps => exact Heap.lt_size (show h.get? a = some _ from x)
  | met f y => exact Heap.lt_size (show h.get? a = some _ from x)
  | ext φ => obtain ⟨_, ⟨_, e⟩, _⟩ := x; exact Heap.lt_size e
theorem Paired.mapP {α β : Type} {F G : α → β → Prop} : ∀ {l₁ : List α} {l₂ : List β}, Paired F l₁ l₂ → (∀ a b, F a b → G a b) → Paired G l₁ l₂
  | _, _, .nil, _ => .nil
  | _, _, .cons r t, f => .cons (f _ _ r) (Paired.mapP t f)
/-- what an object's description leans on: its own object, its own dict, the tuples -/
theorem ObjOk.stay (x : ObjOk P w H h a o) (k : ∀ b u, (b = a ∨ H b = some (.own a)) → h.get? b = some u → h'.get? b = some u)
    (ho : ∀ b, H b = some (.own a) → H' b = some (.own a)) (ht : ∀ b xs, H b = some (.tup xs) → H' b = some (.tup xs)) : ObjOk P w H' h' a o := by
  induction o with
  | lst xs => obtain ⟨z, its, n, r, e⟩ := x; exact ⟨z, its, n, r, k _ _ (.inl rfl) e⟩
  | tup xs => obtain ⟨z, its, r, ob, e, c⟩ := x; exact ⟨z, its, r, ob, k _ _ (.inl rfl) e, c⟩
  | dK kvs => obtain ⟨z, y, vs, r, ob, es, ep, e, c⟩ := x; exact ⟨z, y, vs, r, ob, es, ep, k _ _ (.inl rfl) e, c⟩
  | dT kvs =>
    obtain ⟨z, y, xs, r, ob, es, ep, e, c⟩ := x
    exact ⟨z, y, xs, Paired.mapP r fun p q z => ⟨z.1, ht _ _ z.2.1, z.2.2⟩, ob, es, ep, k _ _ (.inl rfl) e, c⟩
  | set S n => obtain ⟨ob, es, ep, t, e, c⟩ := x; exact ⟨ob, es, ep, t, k _ _ (.inl rfl) e, c⟩
  | ins C dx fs =>
    obtain ⟨d, z, ne, e, mA, ⟨od, es, ep, e2, c⟩, r⟩ := x
    exact ⟨ho _ d, z, ne, k _ _ (.inl rfl) e, mA, ⟨od, es, ep, k _ _ (.inr d) e2, c⟩, r⟩
  | own y => obtain ⟨ob, e⟩ := x; exact ⟨ob, k _ _ (.inl rfl) e⟩
  | xd fs => obtain ⟨mA, ⟨od, es, ep, e, c⟩, r⟩ := x; exact ⟨mA, ⟨od, es, ep, k _ _ (.inl rfl) e, c⟩, r⟩
  | rng lo hi => obtain ⟨t, u, v, e⟩ := x; exact ⟨t, u, v, k _ _ (.inl rfl) e⟩
  | frz ob u ih => obtain ⟨e, q⟩ := x; exact ⟨k _ _ (.inl rfl) e, ih q⟩
  | tbl ps =>
    have e : h.get? a = some { cls := .none, data := .fields ps } := x
    show h'.get? a = some { cls := .none, data := .fields ps }
    exact k a _ (.inl rfl) e
  | met f y =>
    have e : h.get? a = some (PySem.W.methodObj (.ref f) (.ref y)) := x
    show h'.get? a = some (PySem.W.methodObj (.ref f) (.ref y))
    exact k a _ (.inl rfl) e
  | ext φ => obtain ⟨p, ⟨o, e⟩, st⟩ := x; exact ⟨st _ _ p fun o q => k _ _ (.inl rfl) q, ⟨o, k _ _ (.inl rfl) e⟩, st⟩
theorem HOk.lt (x : HOk P w H h) (e : H a = some o) : a < h.objs.size := (x a o e).lt
theorem HOk.fresh (x : HOk P w H h) (e : h.objs.size ≤ a) : H a = none := by
  cases q : H a with
  | none => rfl
  | some u => exact absurd (Nat.lt_of_lt_of_le (x.lt q) e) (Nat.lt_irrefl _)
/-- every object of the heap is kept -/
theorem HOk.kept (x : HOk P w H h) (k : ∀ b u, h.get? b = some u → h'.get? b = some u) : HOk P w H h' := fun a o e =>
  (x a o e).stay (fun b u _ q => k b u q) (fun _ q => q) fun _ _ q => q
/-- a new object is laid and tracked -/
theorem HOk.laid (x : HOk P w H h) (k : ∀ b u, h.get? b = some u → h'.get? b = some u) (hp : h.objs.size ≤ a) (new : ObjOk P w (upd H a o) h' a o) : HOk P w (upd H a o) h' := fun b u e => by
  have hn := x.fresh hp
  by_cases hb : b = a
  · subst hb; rw [upd_same] at e; cases e; exact new
  · rw [upd_ne hb] at e
    exact (x b u e).stay (fun c v _ q => k c v q) (fun c q => by rw [upd_ne (ne_of_none q hn)]; exact q) fun c xs q => by rw [upd_ne (ne_of_none q hn)]; exact q
end

/-- what may be read as u: it is u, or a known u -/
def Rd (H : Hp) (a : Addr) (u : HO) : Prop := H a = some u ∨ ∃ o, H a = some (.frz o u)
theorem Rd.of {H : Hp} {a : Addr} {u : HO} (h : H a = some u) : Rd H a u := .inl h
theorem Rd.ok {P : Program} {w : World} {H : Hp} {h : Heap} {a : Addr} {u : HO} (r : Rd H a u) (x : HOk P w H h) : ObjOk P w H h a u := by
  rcases r with r | ⟨o, r⟩
  · exact x a u r
  · obtain ⟨_, q⟩ := x a _ r
    exact q
/-- what may be written -/
def Mut : Option HO → Prop
  | some (.lst _) => True
  | some (.dK _) => True
  | some (.dT _) => True
  | some (.set _ _) => True
  | some (.ins _ _ _) => True
  | some (.ext _) => True
  | _ => False
section
variable {P : Program} {w : World} {H : Hp} {h h' : Heap} {x e : Addr} {o' : HO}
/-- the object at e is changed: x itself, or the dict of the instance x -/
theorem HOk.write (ok : HOk P w H h) (mu : Mut (H x)) (he : e = x ∨ H e = some (.own x)) (k : ∀ b u, b ≠ e → h.get? b = some u → h'.get? b = some u) (heo : ∃ u, h'.get? e = some u)
    (new : ObjOk P w (upd H x o') h' x o') : HOk P w (upd H x o') h' := fun b u q => by
  have nown : ∀ c y, H c = some (.own y) → c ≠ x := fun c y r z => by subst z; rw [r] at mu; exact mu
  have ntup : ∀ c xs, H c = some (.tup xs) → c ≠ x := fun c xs r z => by subst z; rw [r] at mu; exact mu
  by_cases hb : b = x
  · subst hb; rw [upd_same] at q; cases q; exact new
  · rw [upd_ne hb] at q
    by_cases hbe : b = e
    · have q' : H b = some (.own x) := by
        rcases he with z | z
        · exact absurd (hbe.trans z) hb
        · rw [hbe]; exact z
      rw [q] at q'; cases q'
      obtain ⟨v, hv⟩ := heo
      exact ⟨v, by rw [hbe]; exact hv⟩
    · refine (ok b u q).stay (fun c v hc r => k c v ?_ r) (fun c r => by rw [upd_ne (nown c b r)]; exact r) fun c xs r => by rw [upd_ne (ntup c xs r)]; exact r
      rcases hc with rfl | hc
      · exact hbe
      · rintro rfl
        rcases he with z | z
        · exact nown c b hc z
        · rw [hc] at z; cases z; exact hb rfl
end

/-! ### kept unless tracked; of the frames at fs (the callers') the slots may change (an exception that passes writes there); of the records at ex (iterators) nothing is said -/
structure Un (fs ex : List Addr) (H H' : Hp) (h h' : Heap) : Prop where
  keep : ∀ b o, h.get? b = some o → H b = none → b ∉ fs → b ∉ ex → h'.get? b = some o
  slot : ∀ b o, h.get? b = some o → H b = none → b ∈ fs → b ∉ ex → ∃ sl, h'.get? b = some { o with slots := sl }
  free : ∀ b o, h.get? b = some o → H b = none → b ∉ ex → H' b = none
  there : ∀ b o, h.get? b = some o → b ∉ ex → ∃ o', h'.get? b = some o'
  tups : ∀ b xs, H b = some (.tup xs) → H' b = some (.tup xs)
  frzs : ∀ b o u, H b = some (.frz o u) → H' b = some (.frz o u)
  tbls : ∀ b ps, H b = some (.tbl ps) → ∃ more, H' b = some (.tbl (ps ++ more))
section
variable {fs fs' ex ex' : List Addr} {H H1 H2 : Hp} {h h1 h2 h' : Heap} {a x e : Addr} {o : HO}
theorem Un.any (u : Un fs ex H H1 h h1) {b : Addr} {ob : Obj} (q : h.get? b = some ob) (n : H b = none) (hx : b ∉ ex) : ∃ sl, h1.get? b = some { ob with slots := sl } := by
  by_cases hb : b ∈ fs
  · exact u.slot b ob q n hb hx
  · exact ⟨ob.slots, u.keep b ob q n hb hx⟩
theorem Un.trans (a : Un fs ex H H1 h h1) (b : Un fs ex H1 H2 h1 h2) : Un fs ex H H2 h h2 where
  keep := fun c ob q n hc hx => b.keep c ob (a.keep c ob q n hc hx) (a.free c ob q n hx) hc hx
  slot := fun c ob q n hc hx => by
    obtain ⟨sl, e1⟩ := a.slot c ob q n hc hx
    obtain ⟨sl', e2⟩ := b.slot c _ e1 (a.free c ob q n hx) hc hx
    exact ⟨sl', e2⟩
  free := fun c ob q n hx => by
    obtain ⟨o', e1⟩ := a.there c ob q hx
    exact b.free c o' e1 (a.free c ob q n hx) hx
  there := fun c ob q hx => by
    obtain ⟨o', e1⟩ := a.there c ob q hx
    exact b.there c o' e1 hx
  tups := fun c xs q => b.tups c xs (a.tups c xs q)
  frzs := fun c ob xs q => b.frzs c ob xs (a.frzs c ob xs q)
  tbls := fun c ps q => by
    obtain ⟨m1, e1⟩ := a.tbls c ps q
    obtain ⟨m2, e2⟩ := b.tbls c _ e1
    exact ⟨m1 ++ m2, by rw [e2, Array.append_assoc]⟩
theorem Un.kept (k : ∀ b u, h.get? b = some u → h'.get? b = some u) : Un fs ex H H h h' :=
  ⟨fun b ob q _ _ _ => k b ob q, fun b ob q _ _ _ => ⟨ob.slots, k b ob q⟩, fun _ _ _ n _ => n, fun b ob q _ => ⟨ob, k b ob q⟩, fun _ _ q => q, fun _ _ _ q => q, fun _ ps q => ⟨#[], by rw [q]; simp⟩⟩
theorem Un.refl : Un fs ex H H h h := Un.kept fun _ _ q => q
theorem Un.laid (k : ∀ b u, h.get? b = some u → h'.get? b = some u) (hp : h.objs.size ≤ a) (hn : H a = none) : Un fs ex H (upd H a o) h h' where
  keep := fun b u q _ _ _ => k b u q
  slot := fun b u q _ _ _ => ⟨u.slots, k b u q⟩
  free := fun b u q n _ => by rw [upd_ne (Nat.ne_of_lt (Nat.lt_of_lt_of_le (Heap.lt_size q) hp))]; exact n
  there := fun b u q _ => ⟨u, k b u q⟩
  tups := fun b xs q => by rw [upd_ne (ne_of_none q hn)]; exact q
  frzs := fun b u xs q => by rw [upd_ne (ne_of_none q hn)]; exact q
  tbls := fun b ps q => ⟨#[], by rw [upd_ne (ne_of_none q hn), q]; simp⟩
theorem Un.write (mu : Mut (H x)) (he : e = x ∨ H e = some (.own x)) (k : ∀ b u, b ≠ e → h.get? b = some u → h'.get? b = some u) (heo : ∃ u, h'.get? e = some u) : Un fs ex H (upd H x o) h h' := by
  have hx : ∀ b, H b = none → b ≠ x := fun b n z => by subst z; rw [n] at mu; exact mu
  have hb : ∀ b, H b = none → b ≠ e := fun b n z => by
    subst z
    rcases he with r | r
    · exact hx b n r
    · rw [n] at r; cases r
  have hm : ∀ b u, H b = some u → ¬ Mut (some u) → b ≠ x := fun b u q nm z => by subst z; rw [q] at mu; exact nm mu
  refine ⟨fun b u q n _ _ => k b u (hb b n) q, fun b u q n _ _ => ⟨u.slots, k b u (hb b n) q⟩, fun b u q n _ => by rw [upd_ne (hx b n)]; exact n, fun b u q _ => ?_,
    fun b xs q => by rw [upd_ne (hm b _ q fun z => z)]; exact q, fun b u xs q => by rw [upd_ne (hm b _ q fun z => z)]; exact q, fun b ps q => ⟨#[], by rw [upd_ne (hm b _ q fun z => z), q]; simp⟩⟩
  by_cases hbe : b = e
  · subst hbe; exact heo
  · exact ⟨u, k b u hbe q⟩
theorem Un.mono (u : Un fs ex H H1 h h1) (hs : ∀ b ∈ fs, b ∈ fs') (hx : ∀ b ∈ ex, b ∈ ex') : Un fs' ex' H H1 h h1 :=
  ⟨fun b ob q n hb he => u.keep b ob q n (fun z => hb (hs b z)) fun z => he (hx b z), fun _ _ q n _ he => u.any q n fun z => he (hx _ z), fun b ob q n he => u.free b ob q n fun z => he (hx b z), fun b ob q he => u.there b ob q fun z => he (hx b z), u.tups, u.frzs, u.tbls⟩
end

/-! ### the heap without what is tracked -/
def trk (h : Heap) (H : Hp) : List Addr := (List.range h.objs.size).filter fun a => (H a).isSome
def hidT (h : Heap) (H : Hp) : Heap := PySem.W.hideAll h (trk h H)
theorem hidT_size (h : Heap) (H : Hp) : (hidT h H).objs.size = h.objs.size := PySem.W.hideAll_size _ _
theorem hidT_get {h : Heap} {H : Hp} {b : Addr} {o : Obj} (e : h.get? b = some o) (n : H b = none) : (hidT h H).get? b = some o :=
  PySem.W.hideAll_get _ e fun hm => by
    have q : (H b).isSome = true := (List.mem_filter.mp hm).2
    rw [n] at q; simp at q
theorem of_hidT {h : Heap} {H : Hp} {b : Addr} {o : Obj} (e : (hidT h H).get? b = some o) : h.get? b = some o ∧ H b = none := by
  have e' : h.get? b = some o := PySem.W.of_hideAll (trk h H) e
  refine ⟨e', ?_⟩
  cases q : H b with
  | none => rfl
  | some x =>
    have hm : b ∈ trk h H := List.mem_filter.mpr ⟨List.mem_range.mpr (Heap.lt_size e'), by simp [q]⟩
    have z : (hidT h H).get? b = none := PySem.W.hideAll_none (trk h H) hm
    rw [z] at e; cases e

/-! ### OpenK's ledger, filled with every new object but one -/
def allNews (g h : Heap) (L : Addr) : List (Addr × Obj) := (List.range h.objs.size).filterMap fun a => if a = L ∨ (g.get? a).isSome = true then none else (h.get? a).map fun o => (a, o)
def rest (g h : Heap) (L d : Addr) : List (Addr × Obj) := (allNews g h L).filter fun p => decide (p.1 ≠ d)
end L2

namespace L2
open PySem PySem.Spec PyProof.Rows

/-- the module's facts, over the base: the heap at the law's entry without what is tracked there -/
structure Mod (K : PySem.W.Frag) (mg : Str → Option Value) (base : Heap) : Prop where
  kin : K.In base
  glob : base.Ns mainGlobals mg
  blt : ∃ mb, base.Ns builtinsNs mb ∧ ∀ x : Str, x ≠ "__name__" → mb x = bootBuiltins x
  nolimit : base.NoLimit

/-- the context: a def's body (or a comprehension's block) running. base: fixed through the whole law; s₀, H₀: the entry; outer: the frames whose slots others may change (a def's callers); stack: all frames that run;
   ex: iterators that were made ahead of the entry and are walked here (a comprehension's); fn: the names whose cells were made at the entry (a def: all; a comprehension's block: its own); calm: not within an except suite; pn: pins that every state bears; xe: what is wanted of an exception that leaves the code -/
structure Cx where
  prog : Program
  w : World
  K : PySem.W.Frag
  mg : Str → Option Value
  base : Heap
  A : Around
  N : List Str
  s₀ : Shared
  H₀ : Hp
  env : Env
  outer : List Env
  stack : List Env
  ex : List Addr
  fn : Str → Bool
  calm : Bool
  pn : List (Addr × Obj)
  xe : Value → Shared → Prop
/-- the callers' frames -/
def frs (l : List Env) : List Addr := l.filterMap (·.frame)
abbrev Cx.fs (X : Cx) : List Addr := frs X.outer

def Vis (sc : Scope) (x : Str) : Prop := sc.names.lookup x = some .local ∨ sc.names.lookup x = some .cell ∨ sc.names.lookup x = some .free
def Loc (sc : Scope) (x : Str) : Prop := sc.names.lookup x = some .local ∨ sc.names.lookup x = some .cell
def Look (env : Env) (h : Heap) (m : Str → Option Value) (x : Str) (u : Value) : Prop :=
  (env.kindOf x = some .local ∧ m x = some u) ∨ ((env.kindOf x = some .cell ∨ env.kindOf x = some .free) ∧ ∃ c, env.cells.lookup x = some c ∧ h.IsCell c (some u))

structure Cx.Ok (X : Cx) : Prop where
  mod : Mod X.K X.mg X.base
  kind : X.env.scope.kind = .function
  glob : X.env.globals = mainGlobals
  blt : X.env.builtins = builtinsNs
  above : X.s₀.heap.objs.size ≤ X.env.locals
  inj : ∀ x y c, X.env.cells.lookup x = some c → X.env.cells.lookup y = some c → x = y
  has : ∀ x, (X.env.kindOf x = some .cell ∨ X.env.kindOf x = some .free) → ∃ c, X.env.cells.lookup x = some c
  cab : ∀ x c, X.fn x = true → X.env.cells.lookup x = some c → X.s₀.heap.objs.size ≤ c
  hd : X.calm = true → X.A.handled = none
  frames : X.A.frames = some X.stack
  stk : X.stack = X.outer ∨ (X.stack = X.env :: X.outer ∧ X.env.frame = some X.env.locals)
  exf : ∀ b ∈ X.ex, b ≠ X.env.locals ∧ ∀ x c, X.env.cells.lookup x = some c → c ≠ b
  bs : ∀ b o, X.base.get? b = some o → X.s₀.heap.get? b = some o ∧ X.H₀ b = none
  bsz : X.base.objs.size ≤ X.s₀.heap.objs.size
  noex : ∀ b o, X.base.get? b = some o → b ∉ X.ex
  exfs : ∀ b ∈ X.ex, b ∉ X.fs
  funs : X.s₀.heap.FunFrames X.base X.outer
  frf : ∀ b ∈ X.fs, X.H₀ b = none

structure Inv (X : Cx) (pins : List (Addr × Obj)) (σ : List (Option V)) (H : Hp) (s : Shared) : Prop where
  ok : X.Ok
  os : s.os = X.s₀.os
  bare : AllBare s.gens
  base : Un X.fs X.ex X.H₀ H X.s₀.heap s.heap
  loc : ∃ m, s.heap.Ns X.env.locals m ∧ ∀ (i : Nat) (x : Str) (v : V), X.N[i]? = some x → σ[i]? = some (some v) → Vis X.env.scope x → ∃ u, RelV v u ∧ Look X.env s.heap m x u
  cell : ∀ x c, X.env.cells.lookup x = some c → ∃ v, s.heap.IsCell c v
  free : H X.env.locals = none
  freeC : ∀ x c, X.env.cells.lookup x = some c → H c = none
  pin : ∀ p ∈ X.pn ++ pins, s.heap.get? p.1 = some p.2 ∧ H p.1 = none ∧ p.1 ≠ X.env.locals ∧ p.1 ∉ X.fs ∧ ∀ v, p.2.data ≠ .cell v
  hok : HOk X.prog X.w H s.heap
  len : σ.length = X.N.length

section
variable {X : Cx} {pins : List (Addr × Obj)} {σ : List (Option V)} {H H' : Hp} {s : Shared} {h' : Heap}

theorem Cx.Ok.nofr (ok : X.Ok) {b : Addr} {o : Obj} (e : X.base.get? b = some o) : b ∉ X.fs := fun hb => by
  have := (ok.funs.mem hb).1
  rw [e] at this; cases this
theorem Inv.bs (I : Inv X pins σ H s) : ∀ b o, X.base.get? b = some o → s.heap.get? b = some o ∧ H b = none := fun b o e =>
  ⟨I.base.keep b o (I.ok.bs b o e).1 (I.ok.bs b o e).2 (I.ok.nofr e) (I.ok.noex b o e), I.base.free b o (I.ok.bs b o e).1 (I.ok.bs b o e).2 (I.ok.noex b o e)⟩
theorem Inv.bk (I : Inv X pins σ H s) : ∀ b o, X.base.get? b = some o → s.heap.get? b = some o := fun b o e => (I.bs b o e).1
theorem Inv.mod (I : Inv X pins σ H s) : Mod X.K X.mg X.base := I.ok.mod
theorem Inv.kIn (I : Inv X pins σ H s) : X.K.In s.heap := I.ok.mod.kin.keeps I.bk
theorem Inv.nolimit (I : Inv X pins σ H s) : s.heap.NoLimit := I.ok.mod.nolimit.keeps I.bk
/-- the frame over the base: for OpenK's rules (K.In X.base is I.mod.kin) -/
theorem Inv.fr (I : Inv X pins σ H s) : ∃ m, Fr X.base X.env.locals s.heap m :=
  let ⟨m, hn, _⟩ := I.loc
  ⟨m, hn, I.bk, Nat.le_trans I.ok.bsz I.ok.above⟩
theorem Inv.lt (I : Inv X pins σ H s) : X.env.locals < s.heap.objs.size := let ⟨_, hn, _⟩ := I.loc; hn.lt
theorem Inv.sz (I : Inv X pins σ H s) : X.s₀.heap.objs.size ≤ s.heap.objs.size := Nat.le_trans I.ok.above (Nat.le_of_lt I.lt)
theorem Inv.nofs (I : Inv X pins σ H s) {a : Addr} (h : s.heap.objs.size ≤ a) : a ∉ X.fs := fun hb => by
  obtain ⟨_, o, ho, _⟩ := I.ok.funs.mem hb
  exact absurd (Nat.lt_of_lt_of_le (Heap.lt_size ho) (Nat.le_trans I.sz h)) (Nat.lt_irrefl _)
theorem Inv.cne (I : Inv X pins σ H s) : ∀ x c, X.env.cells.lookup x = some c → c ≠ X.env.locals := fun x c e z => by
  obtain ⟨v, o, ho, hd⟩ := I.cell x c e
  obtain ⟨m, ⟨o', es, ep, ho', hd', _⟩, _⟩ := I.loc
  rw [z, ho'] at ho; cases ho; rw [hd'] at hd; cases hd
theorem Inv.funs (I : Inv X pins σ H s) : s.heap.FunFrames X.base X.outer := by
  have all : ∀ (l : List Env), (∀ b ∈ frs l, b ∈ X.fs) → X.s₀.heap.FunFrames X.base l → s.heap.FunFrames X.base l := by
    intro l
    induction l with
    | nil => intro _ _; trivial
    | cons env r ih =>
      intro hs hl
      obtain ⟨hk, ⟨L, o, hf, hn, ho, hd⟩, hr⟩ := hl
      have hL : L ∈ X.fs := hs L (by unfold frs; rw [List.filterMap_cons, hf]; exact List.mem_cons_self)
      obtain ⟨sl, e⟩ := I.base.slot L o ho (I.ok.frf L hL) hL fun z => I.ok.exfs L z hL
      exact ⟨hk, ⟨L, _, hf, hn, e, hd⟩, ih (fun b hb => hs b (by unfold frs; rw [List.filterMap_cons, hf]; exact List.mem_cons_of_mem _ hb)) hr⟩
  exact all X.outer (fun _ hb => hb) I.ok.funs

/-- the frames that run, for a call -/
theorem Inv.stack (I : Inv X pins σ H s) : s.heap.FunFrames X.base X.stack := by
  rcases I.ok.stk with e | ⟨e, hf⟩
  · rw [e]; exact I.funs
  · rw [e]
    obtain ⟨m, hn, _⟩ := I.loc
    refine .cons (by rw [I.ok.kind]; decide) hf hn ?_ I.funs
    exact Heap.get?_none_of_le (Nat.le_trans I.ok.bsz I.ok.above)
theorem Inv.stkSub (I : Inv X pins σ H s) : ∀ b ∈ frs X.stack, b ∈ X.env.locals :: X.fs := fun b hb => by
  rcases I.ok.stk with e | ⟨e, hf⟩
  · rw [e] at hb; exact List.mem_cons_of_mem _ hb
  · rw [e] at hb
    unfold frs at hb
    rw [List.filterMap_cons, hf] at hb
    exact hb
theorem Inv.stkFree (I : Inv X pins σ H s) : ∀ b ∈ frs X.stack, H b = none := fun b hb => by
  rcases List.mem_cons.mp (I.stkSub b hb) with e | hb
  · rw [e]; exact I.free
  · obtain ⟨_, o, ho, _⟩ := I.ok.funs.mem hb
    exact I.base.free b o ho (I.ok.frf b hb) fun z => I.ok.exfs b z hb

/-- THE STEP: the untracked objects but the frame and the records at ch are kept (the callers' frames up to slots), the frame's map is kept, the new abstract heap is held -/
theorem Inv.step {g' : Array GenState} {t' : Nat} {d' : Drawn} {ch : List Addr} (I : Inv X pins σ H s)
    (hch : ∀ b ∈ ch, (b ∈ X.ex ∨ X.s₀.heap.objs.size ≤ b) ∧ b ≠ X.env.locals ∧ (∀ x c, X.env.cells.lookup x = some c → c ≠ b) ∧ ∀ p ∈ X.pn ++ pins, p.1 ≠ b)
    (keep : ∀ b o, b ≠ X.env.locals → b ∉ X.fs → b ∉ ch → s.heap.get? b = some o → H b = none → h'.get? b = some o)
    (slot : ∀ b o, b ≠ X.env.locals → b ∈ X.fs → b ∉ ch → s.heap.get? b = some o → H b = none → ∃ sl, h'.get? b = some { o with slots := sl }) (free : ∀ b o, b ∉ ch → s.heap.get? b = some o → H b = none → H' b = none)
    (there : ∀ b o, b ∉ ch → s.heap.get? b = some o → ∃ o', h'.get? b = some o')
    (tups : ∀ b xs, H b = some (.tup xs) → H' b = some (.tup xs)) (frzs : ∀ b o u, H b = some (.frz o u) → H' b = some (.frz o u)) (tbls : ∀ b ps, H b = some (.tbl ps) → ∃ more, H' b = some (.tbl (ps ++ more)))
    (ns : ∀ m, s.heap.Ns X.env.locals m → h'.Ns X.env.locals m) (hok : HOk X.prog X.w H' h') (hg : AllBare g') :
    Inv X pins σ H' { s with heap := h', gens := g', drawn := d', toks := t' } := by
  have neL : ∀ b o, X.s₀.heap.get? b = some o → b ≠ X.env.locals := fun b o e => Nat.ne_of_lt (Nat.lt_of_lt_of_le (Heap.lt_size e) I.ok.above)
  have neC : ∀ b o, X.s₀.heap.get? b = some o → b ∉ X.ex → b ∉ ch := fun b o e hx hb => by
    rcases (hch b hb).1 with z | z
    · exact hx z
    · exact absurd (Nat.lt_of_lt_of_le (Heap.lt_size e) z) (Nat.lt_irrefl _)
  have cellK : ∀ x c, X.env.cells.lookup x = some c → ∀ v, s.heap.IsCell c v → h'.IsCell c v := fun x c e v ⟨o, ho, hd⟩ => by
    have nch : c ∉ ch := fun z => (hch c z).2.2.1 x c e rfl
    by_cases hc : c ∈ X.fs
    · obtain ⟨sl, q⟩ := slot c o (I.cne x c e) hc nch ho (I.freeC x c e)
      exact ⟨_, q, hd⟩
    · exact ⟨o, keep c o (I.cne x c e) hc nch ho (I.freeC x c e), hd⟩
  refine ⟨I.ok, I.os, hg, ⟨fun b o e n hb hx => ?_, fun b o e n hb hx => ?_, fun b o e n hx => ?_, fun b o e hx => ?_, fun b xs e => tups b xs (I.base.tups b xs e), fun b o xs e => frzs b o xs (I.base.frzs b o xs e), fun b ps e => ?_⟩, ?_, fun x c e => ?_, ?_, fun x c e => ?_, fun p hp => ?_, hok, I.len⟩
  · exact keep b o (neL b o e) hb (neC b o e hx) (I.base.keep b o e n hb hx) (I.base.free b o e n hx)
  · obtain ⟨sl, e1⟩ := I.base.slot b o e n hb hx
    obtain ⟨sl', e2⟩ := slot b _ (neL b o e) hb (neC b o e hx) e1 (I.base.free b o e n hx)
    exact ⟨sl', e2⟩
  · obtain ⟨o', e1⟩ := I.base.there b o e hx
    exact free b o' (neC b o e hx) e1 (I.base.free b o e n hx)
  · obtain ⟨o', e1⟩ := I.base.there b o e hx
    exact there b o' (neC b o e hx) e1
  · obtain ⟨m1, e1⟩ := I.base.tbls b ps e
    obtain ⟨m2, e2⟩ := tbls b _ e1
    exact ⟨m1 ++ m2, by rw [e2, Array.append_assoc]⟩
  · obtain ⟨m, hn, hl⟩ := I.loc
    refine ⟨m, ns m hn, fun i x v e1 e2 e3 => ?_⟩
    obtain ⟨u, r, l⟩ := hl i x v e1 e2 e3
    refine ⟨u, r, ?_⟩
    rcases l with l | ⟨k, c, e, z⟩
    · exact .inl l
    · exact .inr ⟨k, c, e, cellK x c e _ z⟩
  · obtain ⟨v, z⟩ := I.cell x c e
    exact ⟨v, cellK x c e v z⟩
  · obtain ⟨m, ⟨o, _, _, ho, _⟩, _⟩ := I.loc
    exact free _ o (fun z => (hch _ z).2.1 rfl) ho I.free
  · obtain ⟨v, o, ho, hd⟩ := I.cell x c e
    exact free c o (fun z => (hch c z).2.2.1 x c e rfl) ho (I.freeC x c e)
  · obtain ⟨e, n, ne, nf, d⟩ := I.pin p hp
    have nch : p.1 ∉ ch := fun z => (hch p.1 z).2.2.2 p hp rfl
    exact ⟨keep p.1 p.2 ne nf nch e n, free p.1 p.2 nch e n, ne, nf, d⟩
/-- .. where the frame's own object is kept too -/
theorem Inv.un {t' : Nat} (I : Inv X pins σ H s) (u : Un X.fs [] H H' s.heap h') (hok : HOk X.prog X.w H' h') : Inv X pins σ H' { s with heap := h', toks := t' } := by
  obtain ⟨m, ⟨o, es, ep, ho, r⟩, _⟩ := id I.loc
  obtain ⟨sl, hL⟩ := u.any ho I.free (by simp)
  exact I.step (g' := s.gens) (d' := s.drawn) (ch := []) (fun _ z => nomatch z) (fun b o _ hb _ e n => u.keep b o e n hb (by simp)) (fun b o _ hb _ e n => u.slot b o e n hb (by simp)) (fun b o _ e n => u.free b o e n (by simp)) (fun b o _ e => u.there b o e (by simp)) u.tups u.frzs u.tbls (fun m' hm => by
    obtain ⟨o', es', ep', ho', r'⟩ := hm
    rw [ho] at ho'; cases ho'
    exact ⟨_, es', ep', hL, r'⟩) hok I.bare
/-- behind a call (or a comprehension's block): the slots of this frame may have changed too, the records at ch may have turned -/
theorem Inv.call {g' : Array GenState} {t' : Nat} {d' : Drawn} {ch : List Addr} (I : Inv X pins σ H s) (u : Un (frs X.stack) ch H H' s.heap h') (hok : HOk X.prog X.w H' h') (hg : AllBare g')
    (hch : ∀ b ∈ ch, (b ∈ X.ex ∨ X.s₀.heap.objs.size ≤ b) ∧ b ≠ X.env.locals ∧ (∀ x c, X.env.cells.lookup x = some c → c ≠ b) ∧ ∀ p ∈ X.pn ++ pins, p.1 ≠ b) :
    Inv X pins σ H' { s with heap := h', gens := g', drawn := d', toks := t' } := by
  obtain ⟨m, ⟨o, es, ep, ho, r⟩, _⟩ := id I.loc
  obtain ⟨sl, hL⟩ := u.any ho I.free fun z => (hch _ z).2.1 rfl
  exact I.step (ch := ch) hch (fun b o hL hb hc e n => u.keep b o e n (fun z => (List.mem_cons.mp (I.stkSub b z)).elim hL hb) hc) (fun b o _ _ hc e n => u.any e n hc) (fun b o hc e n => u.free b o e n hc) (fun b o hc e => u.there b o e hc) u.tups u.frzs u.tbls (fun m' hm => by
    obtain ⟨o', es', ep', ho', r'⟩ := hm
    rw [ho] at ho'; cases ho'
    exact ⟨_, es', ep', hL, r'⟩) hok hg
/-- an untracked record of ours (an iterator) has turned -/
theorem Inv.turned {t' : Nat} {it : Addr} (I : Inv X pins σ H s) (k : ∀ b o, b ≠ it → s.heap.get? b = some o → h'.get? b = some o) (hn : H it = none) (hL : it ≠ X.env.locals)
    (h1 : it ∈ X.ex ∨ X.s₀.heap.objs.size ≤ it) (h2 : ∀ x c, X.env.cells.lookup x = some c → c ≠ it) (h3 : ∀ p ∈ X.pn ++ pins, p.1 ≠ it) : Inv X pins σ H { s with heap := h', toks := t' } := by
  have nit : ∀ b u, H b = some u → b ≠ it := fun b u e z => by rw [z, hn] at e; cases e
  refine I.step (g' := s.gens) (d' := s.drawn) (ch := [it]) (fun b hb => ?_) (fun b o _ _ hc e _ => k b o (fun z => hc (by simp [z])) e) (fun b o _ _ hc e _ => ⟨o.slots, k b o (fun z => hc (by simp [z])) e⟩) (fun _ _ _ _ n => n)
    (fun b o hc e => ⟨o, k b o (fun z => hc (by simp [z])) e⟩) (fun _ _ e => e) (fun _ _ _ e => e) (fun b ps e => ⟨#[], by rw [e]; simp⟩) (fun m hm => ?_) (fun b u e => ?_) I.bare
  · have e : b = it := by simpa using hb
    subst e
    exact ⟨h1, hL, h2, h3⟩
  · obtain ⟨o, es, ep, ho, r⟩ := hm
    exact ⟨o, es, ep, k _ o (Ne.symm hL) ho, r⟩
  · refine (I.hok b u e).stay (fun c v hc q => k c v ?_ q) (fun _ q => q) fun _ _ q => q
    rcases hc with z | z
    · rw [z]; exact nit b u e
    · exact nit c _ z
theorem Inv.tok (I : Inv X pins σ H s) (t : Nat) : Inv X pins σ H { s with toks := t } := I.un (h' := s.heap) (t' := t) Un.refl I.hok
/-- all objects kept -/
theorem Inv.kept {t' : Nat} (I : Inv X pins σ H s) (k : ∀ b u, s.heap.get? b = some u → h'.get? b = some u) : Inv X pins σ H { s with heap := h', toks := t' } := I.un (Un.kept k) (I.hok.kept k)
/-- a new object laid and tracked -/
theorem Inv.laid {a : Addr} {o : HO} {t' : Nat} (I : Inv X pins σ H s) (k : ∀ b u, s.heap.get? b = some u → h'.get? b = some u) (hp : s.heap.objs.size ≤ a) (new : ObjOk X.prog X.w (upd H a o) h' a o) :
    Inv X pins σ (upd H a o) { s with heap := h', toks := t' } := I.un (Un.laid k hp (I.hok.fresh hp)) (I.hok.laid k hp new)
/-- an object written -/
theorem Inv.write {x e : Addr} {o : HO} {t' : Nat} (I : Inv X pins σ H s) (mu : Mut (H x)) (he : e = x ∨ H e = some (.own x)) (k : ∀ b u, b ≠ e → s.heap.get? b = some u → h'.get? b = some u) (heo : ∃ u, h'.get? e = some u)
    (new : ObjOk X.prog X.w (upd H x o) h' x o) : Inv X pins σ (upd H x o) { s with heap := h', toks := t' } := I.un (Un.write mu he k heo) (I.hok.write mu he k heo new)
/-- forgetting slots, pins -/
theorem Inv.weak {σ' : List (Option V)} (I : Inv X pins σ H s) (hl : σ'.length = σ.length) (w : ∀ (i : Nat) v, σ'[i]? = some (some v) → σ[i]? = some (some v)) : Inv X pins σ' H s :=
  ⟨I.ok, I.os, I.bare, I.base, let ⟨m, hn, hl'⟩ := I.loc; ⟨m, hn, fun i x v e1 e2 e3 => hl' i x v e1 (w i v e2) e3⟩, I.cell, I.free, I.freeC, I.pin, I.hok, hl.trans I.len⟩
theorem Inv.pins_of {pins' : List (Addr × Obj)} (I : Inv X pins σ H s) (h : ∀ p ∈ pins', s.heap.get? p.1 = some p.2 ∧ H p.1 = none ∧ p.1 ≠ X.env.locals ∧ p.1 ∉ X.fs ∧ ∀ v, p.2.data ≠ .cell v) : Inv X pins' σ H s :=
  ⟨I.ok, I.os, I.bare, I.base, I.loc, I.cell, I.free, I.freeC, fun p hp => (List.mem_append.mp hp).elim (fun z => I.pin p (List.mem_append_left _ z)) (h p), I.hok, I.len⟩

theorem nodup_ix {N : List Str} (hN : N.Nodup) {i j : Nat} {x : Str} (a : N[i]? = some x) (b : N[j]? = some x) : i = j := by
  obtain ⟨h1, e1⟩ := List.getElem?_eq_some_iff.mp a
  obtain ⟨h2, e2⟩ := List.getElem?_eq_some_iff.mp b
  exact (List.getElem_inj hN).mp (e1.trans e2.symm)

/-- a name is stored; what changed -/
theorem store_ok2 {M : Model} {A : Around} {E : Value → Shared → Prop} {i : Nat} {x : Str} {v : V} {u : Value} {Q : Unit → Shared → Prop} (I : Inv X pins σ H s) (hN : X.N.Nodup) (hi : X.N[i]? = some x) (hx : Loc X.env.scope x) (r : RelV v u)
    (h : ∀ s', Inv X pins (σ.set i (some v)) H s' → (∃ a, Heap.SameBut a s.heap s'.heap ∧ (a = X.env.locals ∨ X.env.cells.lookup x = some a)) → Q () s') (hf : X.fn x = true ∨ X.env.scope.names.lookup x = some .local := by first | exact .inl rfl | exact .inr rfl | assumption) : wpAny M A (storeName X.env x u) Q E s := by
  obtain ⟨m, hn, hl⟩ := id I.loc
  have hcls : (X.env.scope.kind == .class || (X.env.scope.kind == .module && X.env.locals != X.env.globals)) = false := by rw [I.ok.kind]; rfl
  have hiσ : i < σ.length := by rw [I.len]; exact (List.getElem?_eq_some_iff.mp hi).1
  have cne := I.cne
  have tracked : ∀ {a : Addr} {h' : Heap}, (∃ o, s.heap.get? a = some o ∧ H a = none) → Heap.SameBut a s.heap h' → HOk X.prog X.w H h' := fun {a h'} ha hs b ob e => by
    obtain ⟨_, _, hfree⟩ := ha
    refine (I.hok b ob e).stay (fun c w' hc q => (hs.2 c ?_).trans q) (fun _ q => q) fun _ _ q => q
    rintro rfl
    rcases hc with rfl | hc
    · rw [hfree] at e; cases e
    · rw [hfree] at hc; cases hc
  rcases hx with hk | hk
  · refine wpAny_storeName_local hk hn (fun h' hn' hs => ?_) hcls
    obtain ⟨oL, _, _, hoL, _⟩ := id hn
    refine h _ ⟨I.ok, I.os, I.bare, ⟨fun b o e n hb hx => ?_, fun b o e n hb hx => ?_, I.base.free, fun b o e hx => ?_, I.base.tups, I.base.frzs, I.base.tbls⟩, ⟨_, hn', fun j y v' e1 e2 e3 => ?_⟩, fun y c e => ?_, I.free, I.freeC, fun p hp => ?_, tracked ⟨oL, hoL, I.free⟩ hs, by simpa using I.len⟩ ⟨_, hs, .inl rfl⟩
    · exact (hs.2 b (Nat.ne_of_lt (Nat.lt_of_lt_of_le (Heap.lt_size e) I.ok.above))).trans (I.base.keep b o e n hb hx)
    · obtain ⟨sl, e1⟩ := I.base.slot b o e n hb hx
      exact ⟨sl, (hs.2 b (Nat.ne_of_lt (Nat.lt_of_lt_of_le (Heap.lt_size e) I.ok.above))).trans e1⟩
    · obtain ⟨o', e1⟩ := I.base.there b o e hx
      exact ⟨o', (hs.2 b (Nat.ne_of_lt (Nat.lt_of_lt_of_le (Heap.lt_size e) I.ok.above))).trans e1⟩
    · by_cases hj : j = i
      · subst hj
        rw [hi] at e1; cases e1
        rw [List.getElem?_set_self hiσ] at e2
        cases e2
        exact ⟨u, r, .inl ⟨hk, by simp⟩⟩
      · rw [List.getElem?_set_ne (Ne.symm hj)] at e2
        obtain ⟨u', r', q⟩ := hl j y v' e1 e2 e3
        refine ⟨u', r', ?_⟩
        rcases q with ⟨k, e⟩ | ⟨k, c, e, z⟩
        · refine .inl ⟨k, ?_⟩
          have : y ≠ x := fun e => hj (nodup_ix hN e1 (e ▸ hi))
          simp [this, e]
        · exact .inr ⟨k, c, e, z.sameBut hs (cne y c e)⟩
    · obtain ⟨w', z⟩ := I.cell y c e
      exact ⟨w', z.sameBut hs (cne y c e)⟩
    · obtain ⟨e, n, ne, nf, d⟩ := I.pin p hp
      exact ⟨(hs.2 p.1 ne).trans e, n, ne, nf, d⟩
  · have hfn : X.fn x = true := by
      rcases hf with z | z
      · exact z
      · rw [z] at hk; cases hk
    obtain ⟨c, hc⟩ := I.ok.has x (.inl hk)
    obtain ⟨w', z⟩ := I.cell x c hc
    refine wpAny_storeName_cell I.ok.kind hk hc z (fun h' hc' hs => ?_)
    obtain ⟨oc, hoc, hocd⟩ := id z
    refine h { s with heap := h' } ⟨I.ok, I.os, I.bare, ⟨fun b o e n hb hx => ?_, fun b o e n hb hx => ?_, I.base.free, fun b o e hx => ?_, I.base.tups, I.base.frzs, I.base.tbls⟩, ⟨m, hn.sameBut hs (Ne.symm (cne x c hc)), fun j y v' e1 e2 e3 => ?_⟩, fun y c' e => ?_, I.free, I.freeC, fun p hp => ?_, tracked ⟨oc, hoc, I.freeC x c hc⟩ hs, by simpa using I.len⟩ ⟨c, hs, .inr hc⟩
    · exact (hs.2 b (Nat.ne_of_lt (Nat.lt_of_lt_of_le (Heap.lt_size e) (I.ok.cab x c hfn hc)))).trans (I.base.keep b o e n hb hx)
    · obtain ⟨sl, e1⟩ := I.base.slot b o e n hb hx
      exact ⟨sl, (hs.2 b (Nat.ne_of_lt (Nat.lt_of_lt_of_le (Heap.lt_size e) (I.ok.cab x c hfn hc)))).trans e1⟩
    · obtain ⟨o', e1⟩ := I.base.there b o e hx
      exact ⟨o', (hs.2 b (Nat.ne_of_lt (Nat.lt_of_lt_of_le (Heap.lt_size e) (I.ok.cab x c hfn hc)))).trans e1⟩
    · by_cases hj : j = i
      · subst hj
        rw [hi] at e1; cases e1
        rw [List.getElem?_set_self hiσ] at e2
        cases e2
        exact ⟨u, r, .inr ⟨.inl hk, c, hc, hc'⟩⟩
      · rw [List.getElem?_set_ne (Ne.symm hj)] at e2
        obtain ⟨u', r', q⟩ := hl j y v' e1 e2 e3
        refine ⟨u', r', ?_⟩
        rcases q with q | ⟨k, c', e, z'⟩
        · exact .inl q
        · refine .inr ⟨k, c', e, z'.sameBut hs ?_⟩
          rintro rfl
          exact hj (nodup_ix hN e1 (I.ok.inj _ _ _ e hc ▸ hi))
    · by_cases hcc : c' = c
      · subst hcc; exact ⟨_, hc'⟩
      · obtain ⟨w2, z2⟩ := I.cell y c' e
        exact ⟨w2, z2.sameBut hs hcc⟩
    · obtain ⟨e, n, ne, nf, d⟩ := I.pin p hp
      refine ⟨(hs.2 p.1 ?_).trans e, n, ne, nf, d⟩
      intro q
      rw [q, hoc] at e
      have q' : oc = p.2 := Option.some.inj e
      exact d w' (by rw [← q']; exact hocd)
theorem store_ok {M : Model} {A : Around} {E : Value → Shared → Prop} {i : Nat} {x : Str} {v : V} {u : Value} {Q : Unit → Shared → Prop} (I : Inv X pins σ H s) (hN : X.N.Nodup) (hi : X.N[i]? = some x) (hx : Loc X.env.scope x) (r : RelV v u)
    (h : ∀ s', Inv X pins (σ.set i (some v)) H s' → Q () s') (hf : X.fn x = true ∨ X.env.scope.names.lookup x = some .local := by first | exact .inl rfl | exact .inr rfl | assumption) : wpAny M A (storeName X.env x u) Q E s :=
  store_ok2 I hN hi hx r (fun s' I' _ => h s' I') hf
/-- behind a call or a block, the state as it is -/
theorem Inv.call' {s' : Shared} {ch : List Addr} (I : Inv X pins σ H s) (ho : s'.os = s.os) (u : Un (frs X.stack) ch H H' s.heap s'.heap) (hok : HOk X.prog X.w H' s'.heap) (hg : AllBare s'.gens)
    (hch : ∀ b ∈ ch, (b ∈ X.ex ∨ X.s₀.heap.objs.size ≤ b) ∧ b ≠ X.env.locals ∧ (∀ x c, X.env.cells.lookup x = some c → c ≠ b) ∧ ∀ p ∈ X.pn ++ pins, p.1 ≠ b) : Inv X pins σ H' s' := by
  obtain ⟨h', g', d', t', o'⟩ := s'
  have e : o' = s.os := ho
  subst e
  exact I.call (g' := g') (t' := t') (d' := d') u hok hg hch
end

/-! ### the judgements -/
/-- an exception: its class, its own dict's address (where it has one), the abstract heap behind it -/
abbrev XK := Value → Option Addr → Hp → Prop
abbrev St := List (Option V)
abbrev VK := V → Hp → Prop
/-- an expression's reading; a test's; an argument list's -/
abbrev TE := St → Hp → VK → Prop
abbrev TT := St → Hp → (Bool → Hp → Prop) → Prop
abbrev TA := St → Hp → (List V → Hp → Prop) → Prop
/-- what is wanted behind a statement -/
structure Ends where
  nx : St → Hp → Prop
  rt : VK
  bk : St → Hp → Prop := fun _ _ => False
  ct : St → Hp → Prop := fun _ _ => False
abbrev TS := Ends → St → Hp → Prop

def EP (X : Cx) (pins : List (Addr × Obj)) (σ : St) (Q : VK) (u : Value) (s' : Shared) : Prop := ∃ v H', Inv X pins σ H' s' ∧ RelV v u ∧ Q v H'
def TP (X : Cx) (pins : List (Addr × Obj)) (σ : St) (Q : Bool → Hp → Prop) (b : Bool) (s' : Shared) : Prop := ∃ H', Inv X pins σ H' s' ∧ Q b H'
def AP (X : Cx) (pins : List (Addr × Obj)) (σ : St) (Q : List V → Hp → Prop) (us : List Value) (s' : Shared) : Prop := ∃ vs H', Inv X pins σ H' s' ∧ Vals vs us ∧ Q vs H'
def SP (X : Cx) (pins : List (Addr × Obj)) (D : Ends) (f : Flow) (s' : Shared) : Prop :=
  match f with
  | .next => ∃ σ' H', Inv X pins σ' H' s' ∧ D.nx σ' H'
  | .brk => ∃ σ' H', Inv X pins σ' H' s' ∧ D.bk σ' H'
  | .cont => ∃ σ' H', Inv X pins σ' H' s' ∧ D.ct σ' H'
  | .ret u => ∃ v σ' H', Inv X pins σ' H' s' ∧ RelV v u ∧ D.rt v H'

def PE (X : Cx) (e : Expr) (t : TE) : Prop :=
  ∀ (pins : List (Addr × Obj)) (s : Shared) (σ : St) (H : Hp) (Q : VK), Inv X pins σ H s → t σ H Q → wpAny (model X.prog X.w) X.A (eval e X.env) (EP X pins σ Q) X.xe s
def PT (X : Cx) (e : Expr) (t : TT) : Prop :=
  ∀ (pins : List (Addr × Obj)) (s : Shared) (σ : St) (H : Hp) (Q : Bool → Hp → Prop), Inv X pins σ H s → t σ H Q → wpAny (model X.prog X.w) X.A (isTrue e X.env (eval e X.env)) (TP X pins σ Q) X.xe s
/-- a test whatever its 'whole' is (and, or) -/
def PW (X : Cx) (e : Expr) (t : TT) : Prop :=
  ∀ (whole : Sem Value) (pins : List (Addr × Obj)) (s : Shared) (σ : St) (H : Hp) (Q : Bool → Hp → Prop), Inv X pins σ H s → t σ H Q → wpAny (model X.prog X.w) X.A (isTrue e X.env whole) (TP X pins σ Q) X.xe s
theorem PW.pt {X : Cx} {e : Expr} {t : TT} (h : PW X e t) : PT X e t := h _
/-- an argument list (no star), from the left -/
def PA (X : Cx) (es : List Expr) (t : TA) : Prop :=
  ∀ (pos : Pos) (pins : List (Addr × Obj)) (s : Shared) (σ : St) (H : Hp) (Q : List V → Hp → Prop), Inv X pins σ H s → t σ H Q → wpAny (model X.prog X.w) X.A (spliced (backTo pos (starEach es X.env))) (AP X pins σ Q) X.xe s
def PS (X : Cx) (st : Stmt) (t : TS) : Prop :=
  ∀ (pins : List (Addr × Obj)) (s : Shared) (σ : St) (H : Hp) (D : Ends), Inv X pins σ H s → t D σ H → wpAny (model X.prog X.w) X.A (exec st X.env) (SP X pins D) X.xe s
def PSs (X : Cx) (st : List Stmt) (t : TS) : Prop :=
  ∀ (pins : List (Addr × Obj)) (s : Shared) (σ : St) (H : Hp) (D : Ends), Inv X pins σ H s → t D σ H → wpAny (model X.prog X.w) X.A (execs st X.env) (SP X pins D) X.xe s
/-- weaken the end -/
theorem thn {α : Type} {t : Sem α} {Q Q' : α → Shared → Prop} {M : Model} {A : Around} {E : Value → Shared → Prop} {s : Shared} (h : wpAny M A t Q E s) (hQ : ∀ a s, Q a s → Q' a s) : wpAny M A t Q' E s := wpAny_mono h hQ fun _ _ x => x
end L2

namespace L2
open PySem PySem.Spec PyProof.Rows
section
variable {X : Cx}

/-- two expressions in a row -/
theorem bin {a b : Expr} {ta tb : TE} (ha : PE X a ta) (hb : PE X b tb) {pins : List (Addr × Obj)} {s : Shared} {σ : St} {H : Hp} {R : V → V → Hp → Prop} (I : Inv X pins σ H s) (h : ta σ H fun x H1 => tb σ H1 fun y H2 => R x y H2)
    {α : Type} {Q : α → Shared → Prop} {f : Value → Value → Sem α}
    (hf : ∀ v u s2 x y H2, Inv X pins σ H2 s2 → RelV x v → RelV y u → R x y H2 → wpAny (model X.prog X.w) X.A (f v u) Q X.xe s2) :
    wpAny (model X.prog X.w) X.A (eval a X.env) (fun v s₁ => wpAny (model X.prog X.w) X.A (eval b X.env) (fun u s₂ => wpAny (model X.prog X.w) X.A (f v u) Q X.xe s₂) X.xe s₁) X.xe s := by
  refine thn (ha pins s σ H _ I h) fun v s1 ⟨x, H1, I1, r1, q1⟩ => ?_
  refine thn (hb pins s1 σ H1 _ I1 q1) fun u s2 ⟨y, H2, I2, r2, q2⟩ => ?_
  exact hf v u s2 x y H2 I2 r1 r2 q2

/-! ### names and constants -/
def tVar (i : Nat) : TE := fun σ H Q => ∃ v, σ[i]? = some (some v) ∧ Q v H
def tC (v : V) : TE := fun _ H Q => Q v H
theorem pe_var {i : Nat} {x : Str} {pos : Pos} (hN : X.N[i]? = some x) (hv : Vis X.env.scope x) (hd : (x == ("__debug__" : Str)) = false := by decide) (hcd : (x == ("__classdict__" : Str)) = false := by decide) : PE X (.Name x pos) (tVar i) := by
  intro pins s σ H Q I h
  obtain ⟨v, e, h⟩ := h
  obtain ⟨m, hn, hl⟩ := I.loc
  obtain ⟨u, r, l⟩ := hl i x v hN e hv
  have fin : EP X pins σ Q u s := ⟨v, H, I, r, h⟩
  rcases l with ⟨hk, hm⟩ | ⟨hk, c, hc, hcell⟩
  · exact wpAny_Name (wpAny_loadName_local I.ok.kind hk hn hm fin) hd
  · rcases hk with hk | hk
    · exact wpAny_Name (wpAny_loadName_cell I.ok.kind hk hc hcell fin) hd
    · exact wpAny_Name (wpAny_loadName_free I.ok.kind hk hc hcell fin hcd) hd
theorem pe_int {i j pos} : PE X (.Constant (.int i) j pos) (tC (.int i)) := fun _ _ _ H _ I h => wpAny_Constant_int ⟨.int i, H, I.tok _, ⟨_, rfl⟩, h⟩
theorem pe_bl {b j pos} : PE X (.Constant (.bool b) j pos) (tC (.bl b)) := fun _ _ _ H _ I h => Constant_bool ⟨.bl b, H, I, rfl, h⟩
theorem pe_non {j pos} : PE X (.Constant .none j pos) (tC .non) := fun _ _ _ H _ I h => Constant_none ⟨.non, H, I, rfl, h⟩
theorem pe_str {x j pos} : PE X (.Constant (.str x) j pos) (tC (.str x)) := fun _ _ _ H _ I h => Calls.Constant_str ⟨.str x, H, I.tok _, ⟨_, rfl⟩, h⟩

/-- a global name of the def -/
def Gl (X : Cx) (x : Str) : Prop := X.env.kindOf x = some .globalImplicit
theorem ld_glob {E : Value → Shared → Prop} {pins : List (Addr × Obj)} {s : Shared} {σ : St} {H : Hp} {x : Str} {u : Value} {pos : Pos} {Q : Value → Shared → Prop} (I : Inv X pins σ H s) (hg : Gl X x) (hm : X.mg x = some u) (h : Q u s)
    (hd : (x == ("__debug__" : Str)) = false := by decide) : wpAny (model X.prog X.w) X.A (eval (.Name x pos) X.env) Q E s :=
  Calls.Name_function_global I.ok.kind hg (Calls.loadGlobal_global (by rw [I.ok.glob]; exact I.mod.glob.keeps I.bk) hm h) hd
theorem ld_blt {E : Value → Shared → Prop} {pins : List (Addr × Obj)} {s : Shared} {σ : St} {H : Hp} {x : Str} {u : Value} {pos : Pos} {Q : Value → Shared → Prop} (I : Inv X pins σ H s) (hg : Gl X x) (hm : X.mg x = none) (hv : bootBuiltins x = some u) (h : Q u s)
    (hn : x ≠ "__name__" := by decide) (hd : (x == ("__debug__" : Str)) = false := by decide) : wpAny (model X.prog X.w) X.A (eval (.Name x pos) X.env) Q E s := by
  obtain ⟨mb, h1, h2⟩ := I.mod.blt
  exact Calls.Name_function_global I.ok.kind hg (Calls.loadGlobal_builtin (by rw [I.ok.glob]; exact I.mod.glob.keeps I.bk) hm (by rw [I.ok.blt]; exact h1.keeps I.bk) ((h2 x hn).trans hv) h) hd
/-- a module's constant, a class, a function, as a value -/
theorem pe_glob {x : Str} {v : V} {u : Value} {pos : Pos} (hg : Gl X x) (hm : X.mg x = some u) (r : RelV v u) (hd : (x == ("__debug__" : Str)) = false := by decide) : PE X (.Name x pos) (tC v) :=
  fun _ _ _ H _ I h => ld_glob I hg hm ⟨v, H, I, r, h⟩ hd
theorem pe_bltn {x : Str} {v : V} {u : Value} {pos : Pos} (hg : Gl X x) (hm : X.mg x = none) (hv : bootBuiltins x = some u) (r : RelV v u) (hn : x ≠ "__name__" := by decide) (hd : (x == ("__debug__" : Str)) = false := by decide) : PE X (.Name x pos) (tC v) :=
  fun _ _ _ H _ I h => ld_blt I hg hm hv ⟨v, H, I, r, h⟩ hn hd

/-! ### arithmetic -/
/-- two ints -/
def t2I (ta tb : TE) (k : Int → Int → Hp → Prop) : St → Hp → Prop := fun σ H => ta σ H fun x H1 => tb σ H1 fun y H2 => ∃ i j, x = .int i ∧ y = .int j ∧ k i j H2
def tAdd (ta tb : TE) : TE := fun σ H Q => t2I ta tb (fun i j H2 => Q (.int (i + j)) H2) σ H
def tSub (ta tb : TE) : TE := fun σ H Q => t2I ta tb (fun i j H2 => Q (.int (i - j)) H2) σ H
/-- the left factor below 2^64 -/
def tMul (ta tb : TE) : TE := fun σ H Q => t2I ta tb (fun i j H2 => (-(2 ^ 64) < i ∧ i < 2 ^ 64) ∧ Q (.int (i * j)) H2) σ H
variable {a b : Expr} {ta tb : TE} {pos : Pos}
/-! ### comparisons -/
def PC (X : Cx) (op : CmpOp) (a b : Expr) (t : TE) : Prop :=
  ∀ (pins : List (Addr × Obj)) (s : Shared) (σ : St) (H : Hp) (Q : VK), Inv X pins σ H s → t σ H Q →
    wpAny (model X.prog X.w) X.A (eval a X.env) (fun v s₁ => wpAny (model X.prog X.w) X.A (eval b X.env) (fun u s₂ => wpAny (model X.prog X.w) X.A (compareOp op v u) (EP X pins σ Q) X.xe s₂) X.xe s₁) X.xe s
theorem nobehind (b : Expr) {op : CmpOp} (h : op ≠ .In) (h2 : op ≠ .NotIn) : behindInMarks op b = false := by
  have e1 : (op == CmpOp.In) = false := by cases op <;> first | rfl | exact absurd rfl h
  have e2 : (op == CmpOp.NotIn) = false := by cases op <;> first | rfl | exact absurd rfl h2
  cases b <;> simp [behindInMarks, e1, e2]
def tCmp (p : Int → Int → Bool) (ta tb : TE) : TE := fun σ H Q => t2I ta tb (fun i j H2 => Q (.bl (p i j)) H2) σ H
abbrev tLt : TE → TE → TE := tCmp fun i j => decide (i < j)
abbrev tLe : TE → TE → TE := tCmp fun i j => decide (i ≤ j)
abbrev tGt : TE → TE → TE := tCmp fun i j => decide (j < i)
abbrev tGe : TE → TE → TE := tCmp fun i j => decide (j ≤ i)
abbrev tEqI : TE → TE → TE := tCmp fun i j => decide (i = j)
abbrev tNeI : TE → TE → TE := tCmp fun i j => !decide (i = j)
/-- is None -/
def tIsN (ta : TE) : TE := fun σ H Q => ta σ H fun x H1 => Q (.bl (decide (x = .non))) H1
def tNotN (ta : TE) : TE := fun σ H Q => ta σ H fun x H1 => Q (.bl (!decide (x = .non))) H1
/-- a comparison as a value, as a test -/
def tB (t : TE) : TT := fun σ H Q => t σ H fun x H1 => ∃ c, x = .bl c ∧ Q c H1
theorem pt_cmp {op : CmpOp} {t : TE} (h : PC X op a b t) (h1 : behindInMarks op b = false := by first | exact nobehind _ (by decide) (by decide) | rfl) : PT X (.Compare a [op] [b] pos) (tB t) := by
  intro pins s σ H Q I hw
  refine wpAny_isTrue_Compare1 (thn (h pins s σ H _ I hw) fun v s1 h1 => thn h1 fun u s2 h2 => thn h2 fun c s3 ⟨x, H1, I1, r1, q1⟩ => ?_) h1
  obtain ⟨d, rfl, q⟩ := q1
  cases r1
  exact wpAny_truthy_bool ⟨H1, I1, q⟩
/-! ### and, or, not -/
variable {tA tB' : TT} {rest : List Expr}
def tAnd (t u : TT) : TT := fun σ H Q => t σ H fun c H1 => if c = true then u σ H1 Q else Q false H1
def tOr (t u : TT) : TT := fun σ H Q => t σ H fun c H1 => if c = true then Q true H1 else u σ H1 Q
def tNot (t : TT) : TT := fun σ H Q => t σ H fun c H1 => Q (!c) H1
theorem pw_and1 (ha : PT X a tA) : PW X (.BoolOp .And [a] pos) tA := by
  intro wh pins s σ H Q I h
  refine isTrue_and (thn (ha pins s σ H Q I h) fun c s1 e => ?_)
  cases c with
  | true => exact isTrue_and_nil e
  | false => exact e
theorem pw_or1 (ha : PT X a tA) : PW X (.BoolOp .Or [a] pos) tA := by
  intro wh pins s σ H Q I h
  refine isTrue_or (thn (ha pins s σ H Q I h) fun c s1 e => ?_)
  cases c with
  | false => exact isTrue_or_nil e
  | true => exact e
theorem pw_and (ha : PT X a tA) (hb : PW X (.BoolOp .And (b :: rest) pos) tB') : PW X (.BoolOp .And (a :: b :: rest) pos) (tAnd tA tB') := by
  intro wh pins s σ H Q I h
  refine isTrue_and (thn (ha pins s σ H _ I h) fun c s1 ⟨H1, I1, q1⟩ => ?_)
  cases c with
  | true => exact hb wh pins s1 σ H1 Q I1 q1
  | false => exact ⟨H1, I1, q1⟩
theorem pw_or (ha : PT X a tA) (hb : PW X (.BoolOp .Or (b :: rest) pos) tB') : PW X (.BoolOp .Or (a :: b :: rest) pos) (tOr tA tB') := by
  intro wh pins s σ H Q I h
  refine isTrue_or (thn (ha pins s σ H _ I h) fun c s1 ⟨H1, I1, q1⟩ => ?_)
  cases c with
  | true => exact ⟨H1, I1, q1⟩
  | false => exact hb wh pins s1 σ H1 Q I1 q1
theorem pt_not (ha : PT X a tA) : PT X (.UnaryOp .Not a pos) (tNot tA) := by
  intro pins s σ H Q I h
  exact isTrue_not (ha pins s σ H (fun c H1 => Q (!c) H1) I h)
/-- .. as values (bools) -/
def tAndV (ta tb : TE) : TE := fun σ H Q => ta σ H fun x H1 => ∃ c, x = .bl c ∧ if c = true then tb σ H1 Q else Q (.bl false) H1
def tOrV (ta tb : TE) : TE := fun σ H Q => ta σ H fun x H1 => ∃ c, x = .bl c ∧ if c = true then Q (.bl true) H1 else tb σ H1 Q
def tNotV (ta : TE) : TE := fun σ H Q => ta σ H fun x H1 => ∃ c, x = .bl c ∧ Q (.bl (!c)) H1
theorem pe_one {op} {t : TE} (h : PE X a t) : PE X (.BoolOp op [a] pos) t := fun pins s σ H Q I hw => BoolOp_one (h pins s σ H Q I hw)
theorem pe_and (ha : PE X a ta) (hb : PE X (.BoolOp .And (b :: rest) pos) tb) : PE X (.BoolOp .And (a :: b :: rest) pos) (tAndV ta tb) := by
  intro pins s σ H Q I h
  refine BoolOp_and (thn (ha pins s σ H _ I h) fun v s1 ⟨x, H1, I1, r1, q1⟩ => ?_)
  obtain ⟨c, rfl, q1⟩ := q1
  cases r1
  refine wpAny_truthy_bool ?_
  cases c with
  | true => exact hb pins s1 σ H1 Q I1 q1
  | false => exact ⟨.bl false, H1, I1, rfl, q1⟩
theorem pe_not (ha : PE X a ta) : PE X (.UnaryOp .Not a pos) (tNotV ta) := by
  intro pins s σ H Q I h
  refine UnaryOp_ (thn (ha pins s σ H _ I h) fun v s1 ⟨x, H1, I1, r1, q1⟩ => ?_)
  obtain ⟨c, rfl, q1⟩ := q1
  cases r1
  exact not_of (wpAny_truthy_bool ⟨.bl (!c), H1, I1, rfl, q1⟩)
/-- a if t else b -/
def tIf (t : TT) (ta tb : TE) : TE := fun σ H Q => t σ H fun c H1 => if c = true then ta σ H1 Q else tb σ H1 Q
theorem pe_ifExp {c : Expr} (hc : PT X c tA) (ha : PE X a ta) (hb : PE X b tb) : PE X (.IfExp c a b pos) (tIf tA ta tb) := by
  intro pins s σ H Q I h
  refine wpAny_IfExp (thn (hc pins s σ H _ I h) fun d s1 ⟨H1, I1, q1⟩ => ?_)
  cases d with
  | true => exact ha pins s1 σ H1 Q I1 q1
  | false => exact hb pins s1 σ H1 Q I1 q1
end
end L2

namespace L2
open PySem PySem.Spec PyProof.Rows

/-! ### a list, a tuple that is read: tracked, frozen, or an object of the module -/
def SqL (K : PySem.W.Frag) (H : Hp) (a : Addr) (xs : List V) : Prop :=
  Rd H a (.lst xs) ∨
    ∃ (o : Obj) (its : Array Value) (n : Nat), K.lookup a = some o ∧ o.cls = .type "list" ∧ o.dict = none ∧ o.data = .seq its n ∧ its.size ≤ sizeLine ∧ Vals xs its.toList
def SqT (K : PySem.W.Frag) (H : Hp) (a : Addr) (xs : List V) : Prop :=
  Rd H a (.tup xs) ∨
    ∃ (o : Obj) (its : Array Value) (n : Nat), K.lookup a = some o ∧ o.cls = .type "tuple" ∧ o.data = .seq its n ∧ its.size ≤ sizeLine ∧ Vals xs its.toList
def absV : Value → Option V
  | .none => some .non
  | .bool b => some (.bl b)
  | .int i _ => some (.int i)
  | .str x _ => some (.str x)
  | .bytes b _ => some (.byt b)
  | .float b _ => some (.flt b)
  | .ref a => some (.ref a)
  | .type n => some (.ty n)
  | _ => none
theorem RelV.abs {x : V} {u : Value} (r : RelV x u) : absV u = some x := by
  cases x with
  | non => cases r; rfl
  | bl _ => cases r; rfl
  | int _ => obtain ⟨t, rfl⟩ := r; rfl
  | str _ => obtain ⟨t, rfl⟩ := r; rfl
  | byt _ => obtain ⟨t, rfl⟩ := r; rfl
  | flt _ => obtain ⟨t, rfl⟩ := r; rfl
  | ref _ => cases r; rfl
  | ty _ => cases r; rfl
theorem RelV.inj {x y : V} {u : Value} (r : RelV x u) (q : RelV y u) : x = y := Option.some.inj (r.abs.symm.trans q.abs)
theorem Vals.inj : ∀ {xs ys : List V} {us : List Value}, Vals xs us → Vals ys us → xs = ys
  | _, _, _, .nil, .nil => rfl
  | _, _, _, .cons r t, .cons r' t' => by rw [r.inj r', Vals.inj t t']
section
variable {X : Cx} {pins : List (Addr × Obj)} {σ : St} {H : Hp} {s : Shared} {a : Addr} {xs ys : List V}
theorem SqL.of {K : PySem.W.Frag} (h : H a = some (.lst xs)) : SqL K H a xs := .inl (.inl h)
theorem SqT.of {K : PySem.W.Frag} (h : H a = some (.tup xs)) : SqT K H a xs := .inl (.inl h)
theorem Inv.list (I : Inv X pins σ H s) (h : SqL X.K H a xs) : ∃ its : List Value, Vals xs its ∧ PlainL s.heap a its.toArray ∧ xs.length ≤ sizeLine := by
  rcases h with h | ⟨o, its, n, hk, hc, hd, hs, hz, r⟩
  · obtain ⟨z, its, n, r, e⟩ := h.ok I.hok
    exact ⟨its, r, ⟨_, n, e, rfl, rfl, rfl⟩, z⟩
  · refine ⟨its.toList, r, ⟨o, n, I.kIn a o hk, hc, hd, by simpa using hs⟩, ?_⟩
    have e := r.length
    simp only [Array.length_toList] at e
    omega
theorem Inv.tuple (I : Inv X pins σ H s) (h : SqT X.K H a xs) : ∃ its : List Value, Vals xs its ∧ IsTup s.heap a its.toArray ∧ xs.length ≤ sizeLine := by
  rcases h with h | ⟨o, its, n, hk, hc, hs, hz, r⟩
  · obtain ⟨z, its, r, p⟩ := h.ok I.hok
    exact ⟨its, r, p, z⟩
  · refine ⟨its.toList, r, ⟨o, I.kIn a o hk, hc, n, by simpa using hs⟩, ?_⟩
    have e := r.length
    simp only [Array.length_toList] at e
    omega
theorem Inv.list_inj (I : Inv X pins σ H s) (h : SqL X.K H a xs) (h' : SqL X.K H a ys) : xs = ys := by
  obtain ⟨its, r, ⟨o, n, e, _, _, d⟩, _⟩ := I.list h
  obtain ⟨its', r', ⟨o', n', e', _, _, d'⟩, _⟩ := I.list h'
  rw [e] at e'; cases e'
  rw [d] at d'
  injection d' with d1 _
  have : its = its' := by simpa using congrArg Array.toList d1
  subst this
  exact r.inj r'
end

/-! ### another wish about exceptions -/
abbrev Cx.wish (X : Cx) (E : Value → Shared → Prop) : Cx := { X with xe := E }
/-- no exception leaves -/
abbrev Cx.nox (X : Cx) : Cx := X.wish fun _ _ => False
theorem Cx.Ok.wish {X : Cx} (ok : X.Ok) (E : Value → Shared → Prop) : (X.wish E).Ok :=
  ⟨ok.mod, ok.kind, ok.glob, ok.blt, ok.above, ok.inj, ok.has, ok.cab, ok.hd, ok.frames, ok.stk, ok.exf, ok.bs, ok.bsz, ok.noex, ok.exfs, ok.funs, ok.frf⟩
theorem Cx.Ok.unwish {X : Cx} {E : Value → Shared → Prop} (ok : (X.wish E).Ok) : X.Ok :=
  ⟨ok.mod, ok.kind, ok.glob, ok.blt, ok.above, ok.inj, ok.has, ok.cab, ok.hd, ok.frames, ok.stk, ok.exf, ok.bs, ok.bsz, ok.noex, ok.exfs, ok.funs, ok.frf⟩
section
variable {X : Cx} {pins : List (Addr × Obj)} {σ : St} {H : Hp} {s : Shared} {E : Value → Shared → Prop}
theorem Inv.wish (I : Inv X pins σ H s) (E : Value → Shared → Prop) : Inv (X.wish E) pins σ H s := ⟨I.ok.wish E, I.os, I.bare, I.base, I.loc, I.cell, I.free, I.freeC, I.pin, I.hok, I.len⟩
theorem Inv.unwish (I : Inv (X.wish E) pins σ H s) : Inv X pins σ H s := ⟨I.ok.unwish, I.os, I.bare, I.base, I.loc, I.cell, I.free, I.freeC, I.pin, I.hok, I.len⟩
theorem SP.unwish {D : Ends} {f : Flow} {s' : Shared} (h : SP (X.wish E) pins D f s') : SP X pins D f s' := by
  cases f with
  | next => obtain ⟨σ', H', I, q⟩ := h; exact ⟨σ', H', I.unwish, q⟩
  | brk => obtain ⟨σ', H', I, q⟩ := h; exact ⟨σ', H', I.unwish, q⟩
  | cont => obtain ⟨σ', H', I, q⟩ := h; exact ⟨σ', H', I.unwish, q⟩
  | ret u => obtain ⟨v, σ', H', I, r, q⟩ := h; exact ⟨v, σ', H', I.unwish, r, q⟩
theorem PE.nox {e : Expr} {t : TE} (h : PE X.nox e t) : PE X e t := fun pins s σ H Q I hw =>
  wpAny_mono (h pins s σ H Q (I.wish _) hw) (fun _ _ ⟨v, H', I', r, q⟩ => ⟨v, H', I'.unwish, r, q⟩) fun _ _ z => False.elim z
theorem PT.nox {e : Expr} {t : TT} (h : PT X.nox e t) : PT X e t := fun pins s σ H Q I hw =>
  wpAny_mono (h pins s σ H Q (I.wish _) hw) (fun _ _ ⟨H', I', q⟩ => ⟨H', I'.unwish, q⟩) fun _ _ z => False.elim z
theorem PSs.nox {st : List Stmt} {t : TS} (h : PSs X.nox st t) : PSs X st t := fun pins s σ H D I hw =>
  wpAny_mono (h pins s σ H D (I.wish _) hw) (fun _ _ q => q.unwish) fun _ _ z => False.elim z
end

/-! ### blocks and small statements -/
section
variable {X : Cx} {st : Stmt} {rest : List Stmt} {t u : TS} {e : Expr} {te : TE} {pos : Pos}
def tNext : TS := fun D σ H => D.nx σ H
def tSeq (t u : TS) : TS := fun D σ H => t { D with nx := u D } σ H
theorem pss_nil : PSs X [] tNext := fun _ _ σ H _ I h => wpAny_execs_nil ⟨σ, H, I, h⟩
theorem pss_cons (h1 : PS X st t) (h2 : PSs X rest u) : PSs X (st :: rest) (tSeq t u) := by
  intro pins s σ H D I h
  refine wpAny_execs_cons (thn (h1 pins s σ H { D with nx := u D } I h) fun f s1 q => ?_)
  cases f with
  | next =>
    obtain ⟨σ', H', I', q⟩ := q
    exact h2 pins s1 σ' H' D I' q
  | ret v => exact q
  | brk => exact q
  | cont => exact q
theorem pss_one (h1 : PS X st t) : PSs X [st] t := by
  intro pins s σ H D I h
  refine wpAny_execs_cons (thn (h1 pins s σ H D I h) fun f s1 q => ?_)
  cases f with
  | next => exact wpAny_execs_nil q
  | ret v => exact q
  | brk => exact q
  | cont => exact q
def tBreak : TS := fun D σ H => D.bk σ H
def tCont : TS := fun D σ H => D.ct σ H
/-- in a def's body nothing is shown -/
theorem Inv.quiet {pins : List (Addr × Obj)} {σ : St} {H : Hp} {s : Shared} (I : Inv X pins σ H s) : interactive X.env = false := by simp [interactive, I.ok.kind]
/-- an expression whose value is dropped -/
def tDrop (te : TE) : TS := fun D σ H => te σ H fun _ H1 => D.nx σ H1
theorem ps_expr (he : PE X e te) (hs : swapsWith e none pos.line X.env = pure false := by rfl) : PS X (.Expr e pos) (tDrop te) := by
  intro pins s σ H D I h
  exact wpAny_Expr_any (thn (he pins s σ H _ I h) fun v s1 ⟨x, H1, I1, r1, q1⟩ => ⟨σ, H1, I1, q1⟩) I.quiet hs
def tRet (te : TE) : TS := fun D σ H => te σ H D.rt
theorem ps_ret (he : PE X e te) : PS X (.Return (some e) pos) (tRet te) := by
  intro pins s σ H D I h
  exact wpAny_Return_some (thn (he pins s σ H _ I h) fun v s1 ⟨x, H1, I1, r1, q1⟩ => ⟨x, σ, H1, I1, r1, q1⟩)
def tRetN : TS := fun D _ H => D.rt .non H
def tIfS (c : TT) (t u : TS) : TS := fun D σ H => c σ H fun b H1 => if b = true then t D σ H1 else u D σ H1
theorem ps_if {c : Expr} {a b : List Stmt} {tc : TT} (hc : PT X c tc) (ha : PSs X a t) (hb : PSs X b u) : PS X (.If c a b pos) (tIfS tc t u) := by
  intro pins s σ H D I h
  refine wpAny_If (thn (hc pins s σ H _ I h) fun d s1 ⟨H1, I1, q1⟩ => ?_)
  cases d with
  | true => exact ha pins s1 σ H1 D I1 q1
  | false => exact hb pins s1 σ H1 D I1 q1
/-- code that the proof never comes to -/
def tNever : TS := fun _ _ _ => False
end

/-! ### targets -/
abbrev TG := V → St → Hp → (St → Hp → Prop) → Prop
abbrev TGs := List V → St → Hp → (St → Hp → Prop) → Prop
def PG (X : Cx) (target : Expr) (t : TG) : Prop :=
  ∀ (pins : List (Addr × Obj)) (s : Shared) (σ : St) (H : Hp) (v : V) (u : Value) (Q : St → Hp → Prop), Inv X pins σ H s → RelV v u → t v σ H Q →
    wpAny (model X.prog X.w) X.A (assign target X.env u) (fun _ s' => ∃ σ' H', Inv X pins σ' H' s' ∧ Q σ' H') X.xe s
/-- several targets, one after another -/
def PGs (X : Cx) (ts : List Expr) (t : TGs) : Prop :=
  ∀ (pins : List (Addr × Obj)) (s : Shared) (σ : St) (H : Hp) (vs : List V) (us : List Value) (Q : St → Hp → Prop), Inv X pins σ H s → Vals vs us → t vs σ H Q →
    wpAny (model X.prog X.w) X.A (assignInOrder ((assignEach ts X.env).map (·.2)) us) (fun _ s' => ∃ σ' H', Inv X pins σ' H' s' ∧ Q σ' H') X.xe s
/-- o[i] = v, by values -/
abbrev TSet := V → V → V → Hp → (Hp → Prop) → Prop
def PSet (X : Cx) (t : TSet) : Prop :=
  ∀ (pins : List (Addr × Obj)) (s : Shared) (σ : St) (H : Hp) (o i v : V) (ov iv u : Value) (Q : Hp → Prop), Inv X pins σ H s → RelV o ov → RelV i iv → RelV v u → t o i v H Q →
    wpAny (model X.prog X.w) X.A (setItem ov iv u) (fun _ s' => ∃ H', Inv X pins σ H' s' ∧ Q H') X.xe s
/-- a op= b, by values -/
abbrev TIp := V → V → Hp → VK → Prop
def PIp (X : Cx) (op : Operator) (t : TIp) : Prop :=
  ∀ (pins : List (Addr × Obj)) (s : Shared) (σ : St) (H : Hp) (x y : V) (v u : Value) (Q : VK), Inv X pins σ H s → RelV x v → RelV y u → t x y H Q →
    wpAny (model X.prog X.w) X.A (inplaceOp op v u) (EP X pins σ Q) X.xe s
section
variable {X : Cx} {pos : Pos}
def gName (i : Nat) : TG := fun v σ H Q => Q (σ.set i (some v)) H
theorem pg_name {i : Nat} {x : Str} (hN : X.N.Nodup) (hi : X.N[i]? = some x) (hx : Loc X.env.scope x) (hf : X.fn x = true ∨ X.env.scope.names.lookup x = some .local := by first | exact .inl rfl | exact .inr rfl | assumption) : PG X (.Name x pos) (gName i) := by
  intro pins s σ H v u Q I r h
  exact wpAny_assign_Name (store_ok I hN hi hx r (fun s' I' => ⟨_, H, I', h⟩) hf)
def gNil : TGs := fun vs σ H Q => vs = [] ∧ Q σ H
def gCons (t : TG) (u : TGs) : TGs := fun vs σ H Q => ∃ v r, vs = v :: r ∧ t v σ H fun σ' H' => u r σ' H' Q
theorem pgs_nil : PGs X [] gNil := by
  intro pins s σ H vs us Q I r h
  obtain ⟨e, h⟩ := h
  subst e
  cases r
  exact assignInOrder_nil ⟨σ, H, I, h⟩
theorem pgs_cons {e : Expr} {es : List Expr} {t : TG} {u : TGs} (h1 : PG X e t) (h2 : PGs X es u)
    (hs : (assignEach (e :: es) X.env).map (·.2) = assign e X.env :: (assignEach es X.env).map (·.2) := by rfl) : PGs X (e :: es) (gCons t u) := by
  intro pins s σ H vs us Q I r h
  obtain ⟨v, vr, e1, h⟩ := h
  subst e1
  cases r with
  | cons r rr =>
    rw [hs]
    refine assignInOrder_cons (thn (h1 pins s σ H _ _ _ I r h) fun _ s1 ⟨σ1, H1, I1, q1⟩ => ?_)
    exact h2 pins s1 σ1 H1 _ _ Q I1 rr q1
/-- (a, b, ..) = a tuple of that length -/
def gTup (K : PySem.W.Frag) (n : Nat) (t : TGs) : TG := fun v σ H Q => ∃ a xs, v = .ref a ∧ SqT K H a xs ∧ xs.length = n ∧ t xs σ H Q
theorem pg_tup {es : List Expr} {k : Nat} {t : TGs} {n : Nat} (hc : X.calm = true) (h : PGs X es t)
    (hn : (assignEach es X.env).length = n := by rfl) (hst : (assignEach es X.env).findIdx? (·.1) = none := by rfl) : PG X (.Tuple es k pos) (gTup X.K n t) := by
  intro pins s σ H v u Q I r hw
  obtain ⟨a, xs, e1, hq, hl, hw⟩ := hw
  subst e1
  cases r
  obtain ⟨its, rv, ht, hz⟩ := I.tuple hq
  refine assign_Tuple_tuple (I.ok.hd hc) ht (by simp [hn, ← hl, rv.length]) hst fun h' hx => ?_
  have I1 : Inv X pins σ H { s with heap := h' } := I.kept (t' := s.toks) fun b o e => hx b o (Nat.ne_of_lt (Heap.lt_size e)) e
  exact h pins _ σ H xs _ Q I1 (by simpa using rv) hw
/-- o[i] = .. -/
def gSub (to ti : TE) (t : TSet) : TG := fun v σ H Q => to σ H fun o H1 => ti σ H1 fun i H2 => t o i v H2 fun H3 => Q σ H3
theorem pg_sub {o i : Expr} {to ti : TE} {t : TSet} (ho : PE X o to) (hi : PE X i ti) (hs : PSet X t)
    (ha : ∀ v, assign (.Subscript o i pos) X.env v = (do
      let ov ← holding [v] (eval o X.env)
      let iv ← holding [v, ov] (eval i X.env)
      standAt pos
      holding [v, ov, iv] (setItem ov iv v)
      release [v, ov, iv] []) := by intro _; rfl) : PG X (.Subscript o i pos) (gSub to ti t) := by
  intro pins s σ H v u Q I r h
  rw [ha]
  refine wpAny_bind (wpAny_holding (thn (ho pins s σ H _ I h) fun ov s1 ⟨x, H1, I1, r1, q1⟩ => ?_))
  refine wpAny_bind (wpAny_holding (thn (hi pins s1 σ H1 _ I1 q1) fun iv s2 ⟨y, H2, I2, r2, q2⟩ => ?_))
  refine wpAny_bind (wpAny_standAt (wpAny_bind (wpAny_holding (thn (hs pins s2 σ H2 x y v ov iv u _ I2 r1 r2 r q2) fun _ s3 ⟨H3, I3, q3⟩ => ?_))))
  exact wpAny_release ⟨σ, H3, I3, q3⟩
/-- target = value -/
def tAsg (te : TE) (g : TG) : TS := fun D σ H => te σ H fun x H1 => g x σ H1 D.nx
theorem ps_asg {tg e : Expr} {te : TE} {g : TG} (he : PE X e te) (hg : PG X tg g) (hs : swapsWithSole [tg] e pos.line X.env = pure false := by rfl) (hw : swappedStores [tg] e X.env = pure none := by rfl)
    (h1 : (assignEach [tg] X.env).map (·.2) = [assign tg X.env] := by rfl) : PS X (.Assign [tg] e pos) (tAsg te g) := by
  intro pins s σ H D I h
  refine wpAny_Assign_stores (thn (he pins s σ H _ I h) fun v s1 ⟨x, H1, I1, r1, q1⟩ => ?_) hs hw
  rw [h1]
  exact thn (hg pins s1 σ H1 x v _ I1 r1 q1) fun _ s2 q => q
/-- name = value -/
theorem ps_set {i : Nat} {x : Str} {e : Expr} {te : TE} {pos' : Pos} (hN : X.N.Nodup) (hi : X.N[i]? = some x) (hx : Loc X.env.scope x) (he : PE X e te) (hs : swapsWith e (some (.Name x pos')) pos.line X.env = pure false := by rfl) (hf : X.fn x = true ∨ X.env.scope.names.lookup x = some .local := by first | exact .inl rfl | exact .inr rfl | assumption) :
    PS X (.Assign [.Name x pos'] e pos) (tAsg te (gName i)) := by
  intro pins s σ H D I h
  refine wpAny_Assign_Name (thn (he pins s σ H _ I h) fun v s1 ⟨y, H1, I1, r1, q1⟩ => ?_) hs
  exact store_ok I1 hN hi hx r1 (fun s2 I2 => ⟨_, H1, I2, q1⟩) hf
/-- a, b = x, y with plain local names: stored from the right; the pair itself is not tracked (the opening rows as in PyProof/Rows/TupAssign.lean:23) -/
def tPar (i j : Nat) (ta : TA) : TS := fun D σ H => ta σ H fun vs H1 => ∃ v w, vs = [v, w] ∧ D.nx ((σ.set i (some v)).set j (some w)) H1
/-- name op= e -/
def tAug (i : Nat) (te : TE) (ti : TIp) : TS := fun D σ H => ∃ x, σ[i]? = some (some x) ∧ te σ H fun y H1 => ti x y H1 fun z H2 => D.nx (σ.set i (some z)) H2
/-- o[i] op= e -/
def tAugS (to ti te : TE) (tget : V → V → Hp → VK → Prop) (tip : TIp) (tset : TSet) : TS := fun D σ H => to σ H fun o H1 => ti σ H1 fun i H2 => tget o i H2 fun x H3 => te σ H3 fun y H4 => tip x y H4 fun z H5 => tset o i z H5 fun H6 => D.nx σ H6
/-- o[i], by values -/
def PGet (X : Cx) (t : V → V → Hp → VK → Prop) : Prop :=
  ∀ (pins : List (Addr × Obj)) (s : Shared) (σ : St) (H : Hp) (o i : V) (ov iv : Value) (Q : VK), Inv X pins σ H s → RelV o ov → RelV i iv → t o i H Q →
    wpAny (model X.prog X.w) X.A (getItem ov iv) (EP X pins σ Q) X.xe s
theorem ps_augS {o i e : Expr} {to ti te : TE} {tget : V → V → Hp → VK → Prop} {tip : TIp} {tset : TSet} {op : Operator} {tpos : Pos} (ho : PE X o to) (hi : PE X i ti) (hg : PGet X tget) (he : PE X e te) (hp : PIp X op tip) (hs : PSet X tset)
    (ha : ∀ ov iv new, augStore i ov iv new = (do holding [new, ov, iv] (setItem ov iv new); release [new, ov, iv] []; pure .next) := by intros; rfl) : PS X (.AugAssign (.Subscript o i tpos) op e pos) (tAugS to ti te tget tip tset) := by
  intro pins s σ H D I h
  refine wpAny_AugAssign_SubscriptAny (thn (ho pins s σ H _ I h) fun ov s1 ⟨x1, H1, I1, r1, q1⟩ => ?_) ha
  refine thn (hi pins s1 σ H1 _ I1 q1) fun iv s2 ⟨x2, H2, I2, r2, q2⟩ => ?_
  refine thn (hg pins s2 σ H2 x1 x2 ov iv _ I2 r1 r2 q2) fun old s3 ⟨x3, H3, I3, r3, q3⟩ => ?_
  refine thn (he pins s3 σ H3 _ I3 q3) fun v s4 ⟨x4, H4, I4, r4, q4⟩ => ?_
  refine thn (hp pins s4 σ H4 x3 x4 old v _ I4 r3 r4 q4) fun new s5 ⟨x5, H5, I5, r5, q5⟩ => ?_
  exact thn (hs pins s5 σ H5 x1 x2 x5 ov iv new _ I5 r1 r2 r5 q5) fun _ s6 ⟨H6, I6, q6⟩ => ⟨σ, H6, I6, q6⟩
/-- ints -/
def ipI (f : Int → Int → Int) : TIp := fun x y H Q => ∃ i j, x = .int i ∧ y = .int j ∧ Q (.int (f i j)) H
theorem ip_add : PIp X .Add (ipI fun i j => i + j) := by
  intro pins s σ H x y v u Q I r1 r2 h
  obtain ⟨i, j, e1, e2, q⟩ := h
  subst e1; subst e2
  obtain ⟨t, rfl⟩ := r1
  obtain ⟨t', rfl⟩ := r2
  exact iadd_int ⟨.int _, H, I.tok _, ⟨_, rfl⟩, q⟩
end

/-! ### while -/
section
variable {X : Cx} {pos : Pos}
/-- the invariant W with its measure -/
def tWhile (c : TT) (tb : TS) : TS := fun D σ H => ∃ W : Nat → St → Hp → Prop, (∃ m, W m σ H) ∧ ∀ m σ H, W m σ H →
  c σ H fun b H1 => if b = true then ∃ N : St → Hp → Prop, (∀ σ' H', N σ' H' → ∃ m', m' < m ∧ W m' σ' H') ∧ tb { D with nx := N, ct := N, bk := D.nx } σ H1 else D.nx σ H1
end

/-! ### what a loop or a comprehension walks -/
/-- at turn i: it yields x (the heap may grow), or it stops -/
structure It where
  go : Nat → Hp → Prop
  yld : Nat → Hp → V → Hp → Prop
  stop : Nat → Hp → Prop
/-- the iterator's own objects may turn: they are not the frame's, not pinned, younger than the entry (or a comprehension's own) -/
def FpOk (X : Cx) (pins : List (Addr × Obj)) (H : Hp) (b : Addr) : Prop :=
  H b = none ∧ b ≠ X.env.locals ∧ b ∉ X.fs ∧ (b ∈ X.ex ∨ X.s₀.heap.objs.size ≤ b) ∧ (∀ x c, X.env.cells.lookup x = some c → c ≠ b) ∧ ∀ p ∈ X.pn ++ pins, p.1 ≠ b
theorem Inv.fpOk {X : Cx} {pins : List (Addr × Obj)} {σ : St} {H H' : Hp} {s : Shared} {b : Addr} (I : Inv X pins σ H s) (hb : s.heap.objs.size ≤ b) (hn : H' b = none) : FpOk X pins H' b := by
  refine ⟨hn, Nat.ne_of_gt (Nat.lt_of_lt_of_le I.lt hb), I.nofs hb, .inr (Nat.le_trans I.sz hb), fun x c e z => ?_, fun p hp z => ?_⟩
  · obtain ⟨v, q⟩ := I.cell x c e
    exact absurd (Nat.lt_of_lt_of_le q.lt (by rw [z]; exact hb)) (Nat.lt_irrefl _)
  · exact absurd (Nat.lt_of_lt_of_le (Heap.lt_size (I.pin p hp).1) (by rw [z]; exact hb)) (Nat.lt_irrefl _)
structure Turn (P : Program) (w : World) (K : PySem.W.Frag) (tg : Expr) (J : It) (fp : List Addr) (it : Addr) (tn : Nat → Heap → Prop) : Prop where
  mem : it ∈ fp
  obj : ∀ i h, tn i h → ∀ b ∈ fp, ∃ o, h.get? b = some o ∧ ∀ v, o.data ≠ .cell v
  keep : ∀ i h h', tn i h → (∀ b ∈ fp, ∀ o, h.get? b = some o → h'.get? b = some o) → tn i h'
  item : ∀ (X : Cx), X.prog = P → X.w = w → X.K = K → X.calm = true → ∀ (i : Nat) (pins : List (Addr × Obj)) (s : Shared) (σ : St) (H : Hp) (E : Value → Shared → Prop), Inv X pins σ H s → (∀ b ∈ fp, FpOk X pins H b) → tn i s.heap → J.go i H →
    wpAny (model P w) X.A (pyNext (.ref it)) (fun r s1 => ∃ u, r = some u ∧
      wpAny (model P w) X.A (letOwnedTupleGo tg (.ref it) u) (fun _ s2 => ∃ x H', Inv X pins σ H' s2 ∧ RelV x u ∧ J.yld i H x H' ∧ tn (i + 1) s2.heap ∧ ∀ b ∈ fp, H' b = none) E s1) E s
  done : ∀ (X : Cx), X.prog = P → X.w = w → X.K = K → X.calm = true → ∀ (i : Nat) (pins : List (Addr × Obj)) (s : Shared) (σ : St) (H : Hp) (E : Value → Shared → Prop), Inv X pins σ H s → (∀ b ∈ fp, FpOk X pins H b) → tn i s.heap → J.stop i H →
    wpAny (model P w) X.A (pyNext (.ref it)) (fun r s1 => r = none ∧ Inv X pins σ H s1) E s
  self : ∀ (A : Around) (i : Nat) (s : Shared) (Q : Value → Shared → Prop) (E : Value → Shared → Prop), tn i s.heap → Q (.ref it) s → wpAny (model P w) A (pyIter (.ref it)) Q E s
abbrev TI := St → Hp → (It → Hp → Prop) → Prop
/-- an iterator has come -/
def PIE (X : Cx) (pins : List (Addr × Obj)) (σ : St) (tg : Expr) (R : It → Hp → Prop) (itv : Value) (s2 : Shared) : Prop :=
  ∃ (it : Addr) (fp : List Addr) (tn : Nat → Heap → Prop) (J : It) (H' : Hp), itv = .ref it ∧ Inv X pins σ H' s2 ∧ Turn X.prog X.w X.K tg J fp it tn ∧ tn 0 s2.heap ∧ (∀ b ∈ fp, FpOk X pins H' b) ∧ R J H'
def PI (X : Cx) (tg iter : Expr) (wi : TI) : Prop :=
  ∀ (pins : List (Addr × Obj)) (s : Shared) (σ : St) (H : Hp) (R : It → Hp → Prop), Inv X pins σ H s → wi σ H R →
    wpAny (model X.prog X.w) X.A (eval iter X.env) (fun v s1 => wpAny (model X.prog X.w) X.A (pyIter v) (PIE X pins σ tg R) X.xe s1) X.xe s

/-- the step ahead of the store is nothing for an iterator that keeps no tuple -/
theorem go_of {M : Model} {A : Around} {E : Value → Shared → Prop} {s : Shared} {tg : Expr} {it : Addr} {u : Value} {o : Obj} {n : String} {vs : Array Value} {Q : Unit → Shared → Prop} (ho : s.heap.get? it = some o) (hc : o.cls = .type n) (hd : o.data = .fields vs)
    (hn : ["enumerate", "zip", "dict_itemiterator", "dict_reverseitemiterator", "odict_iterator", "itertools.zip_longest", "itertools.pairwise"].contains n = false) (hQ : Q () s) : wpAny M A (letOwnedTupleGo tg (.ref it) u) Q E s := by
  unfold letOwnedTupleGo
  cases tg <;> first
    | exact wpAny_pure hQ
    | (cases u <;> first
        | exact wpAny_pure hQ
        | (refine wpAny_bind (wpAny_load ho ?_)
           rw [hc, hd]
           show wpAny M A (if (["enumerate", "zip", "dict_itemiterator", "dict_reverseitemiterator", "odict_iterator", "itertools.zip_longest", "itertools.pairwise"].contains n && vs[0]? == some (rawInt _)) = true then _ else _) Q E s
           rw [if_neg (by intro h; rw [hn, Bool.false_and] at h; cases h)]
           exact wpAny_pure hQ))

/-- the list at a, as it stands at each turn (a loop may append to it) -/
def Itl (K : PySem.W.Frag) (a : Addr) : It :=
  ⟨fun i H => ∃ xs x, SqL K H a xs ∧ xs[i]? = some x, fun i H x H' => H' = H ∧ ∀ xs, SqL K H a xs → xs[i]? = some x, fun i H => ∃ xs, SqL K H a xs ∧ xs.length ≤ i⟩
def Itt (K : PySem.W.Frag) (a : Addr) : It :=
  ⟨fun i H => ∃ xs x, SqT K H a xs ∧ xs[i]? = some x, fun i H x H' => H' = H ∧ ∀ xs, SqT K H a xs → xs[i]? = some x, fun i H => ∃ xs, SqT K H a xs ∧ xs.length ≤ i⟩
/-- lo, lo + 1, .. (n of them) -/
def Itr (lo : Int) (n : Nat) : It := ⟨fun i _ => i < n, fun i H x H' => H' = H ∧ x = .int (lo + i), fun i _ => n ≤ i⟩
theorem turn_list {P : Program} {w : World} {K : PySem.W.Frag} {tg : Expr} (a it : Addr) : Turn P w K tg (Itl K a) [it] it (fun i h => h.IsListIter it a i) where
  mem := by simp
  obj := fun i h st b hb => by
    have e : b = it := by simpa using hb
    subst e
    obtain ⟨o, e, c, d⟩ := st
    exact ⟨o, e, fun v z => by rw [d] at z; cases z⟩
  keep := fun i h h' st k => st.at fun o e => k it (by simp) o e
  item := by
    intro X hP hw hK hc i pins s σ H E I hf st hg
    subst hP hw hK
    obtain ⟨xs, x, hq, hx⟩ := hg
    obtain ⟨its, rv, p, hz⟩ := I.list hq
    obtain ⟨u, hu, ru⟩ := rv.get hx
    obtain ⟨f0, f1, f2, f3, f4, f5⟩ := hf it (by simp)
    refine wpAny_pyNext_list_item st p.isList (x := u) (by simpa using hu) fun h' st' sb => ?_
    have I1 : Inv X pins σ H { s with heap := h' } := I.turned (t' := s.toks) (fun b o hb e => (sb.2 b hb).trans e) f0 f1 f3 f4 f5
    obtain ⟨o, e, c, d⟩ := id st'
    exact ⟨u, rfl, go_of (s := { s with heap := h' }) e c d (by decide) ⟨x, H, I1, ru, ⟨rfl, fun ys hy => by rw [I.list_inj hy hq]; exact hx⟩, st', fun b hb => (hf b hb).1⟩⟩
  done := by
    intro X hP hw hK hc i pins s σ H E I hf st hg
    subst hP hw hK
    obtain ⟨xs, hq, hx⟩ := hg
    obtain ⟨its, rv, p, hz⟩ := I.list hq
    obtain ⟨f0, f1, f2, f3, f4, f5⟩ := hf it (by simp)
    have hl := rv.length
    exact wpAny_pyNext_list_end (I.ok.hd hc) st p.isList (by simp; omega) fun h' eb => ⟨rfl, I.turned (t' := s.toks) (fun b o hb e => eb b o hb e) f0 f1 f3 f4 f5⟩
  self := fun _ _ _ _ _ st h => wpAny_pyIter_listiter st h
theorem turn_range {P : Program} {w : World} {K : PySem.W.Frag} {tg : Expr} (it : Addr) (lo : Int) (n : Nat) : Turn P w K tg (Itr lo n) [it] it (fun i h => IsRangeIter h it (lo + (i : Nat) * 1) ((n : Int) - (i : Nat)) 1) where
  mem := by simp
  obj := fun i h st b hb => by
    have e : b = it := by simpa using hb
    subst e
    exact ⟨_, st, fun v z => by
      have z' : Data.fields _ = Data.cell v := z
      cases z'⟩
  keep := fun i h h' st k => k it (by simp) _ st
  item := by
    intro X hP hw hK hc i pins s σ H E I hf st hg
    subst hP hw hK
    obtain ⟨f0, f1, f2, f3, f4, f5⟩ := hf it (by simp)
    have W := Walks.range (prog := X.prog) (w := X.w) (I.ok.hd hc) it lo 1 n
    refine W.item i s _ _ hg st fun v h' tk hv st' kk => ?_
    obtain ⟨t, rfl⟩ := hv
    have I1 : Inv X pins σ H { s with heap := h', toks := tk } := I.turned (fun b o hb e => kk b o (by simpa using hb) e) f0 f1 f3 f4 f5
    refine ⟨_, rfl, go_of (s := { s with heap := h', toks := tk }) (n := "range_iterator") st' rfl rfl (by decide) ⟨.int (lo + i), H, I1, ⟨t, ?_⟩, ⟨rfl, rfl⟩, st', fun b hb => (hf b hb).1⟩⟩
    rw [Int.mul_one]
  done := by
    intro X hP hw hK hc i pins s σ H E I hf st hg
    subst hP hw hK
    obtain ⟨f0, f1, f2, f3, f4, f5⟩ := hf it (by simp)
    exact wpAny_pyNext_range_end (I.ok.hd hc) st (by have : n ≤ i := hg; omega) fun h' eb => ⟨rfl, I.turned (t' := s.toks) (fun b o hb e => eb b o hb e) f0 f1 f3 f4 f5⟩
  self := fun _ _ _ _ _ st h => wpAny_pyIter_rangeiter st h
end L2

namespace L2
open PySem PySem.Spec PyProof.Rows
section
variable {X : Cx} {tg : Expr}
def iList (K : PySem.W.Frag) (tl : TE) : TI := fun σ H R => tl σ H fun x H1 => ∃ a, x = .ref a ∧ (∃ xs, SqL K H1 a xs) ∧ R (Itl K a) H1
def iTup (K : PySem.W.Frag) (tl : TE) : TI := fun σ H R => tl σ H fun x H1 => ∃ a, x = .ref a ∧ (∃ xs, SqT K H1 a xs) ∧ R (Itt K a) H1
theorem pi_list {l : Expr} {tl : TE} (hl : PE X l tl) : PI X tg l (iList X.K tl) := by
  intro pins s σ H R I h
  refine thn (hl pins s σ H _ I h) fun v s1 ⟨x, H1, I1, r1, q1⟩ => ?_
  obtain ⟨a, e, ⟨xs, hq⟩, q⟩ := q1
  subst e
  cases r1
  obtain ⟨its, rv, p, hz⟩ := I1.list hq
  refine wpAny_pyIter_list p.isList ?_
  refine ⟨s1.heap.objs.size, [s1.heap.objs.size], _, _, H1, rfl, I1.kept (t' := s1.toks) fun b o e => Heap.get?_push_of_some _ e, turn_list a _, ⟨_, Heap.get?_push_size _ rfl, rfl, rfl⟩, fun b hb => ?_, q⟩
  have e : b = s1.heap.objs.size := by simpa using hb
  subst e
  exact I1.fpOk (Nat.le_refl _) (I1.hok.fresh (Nat.le_refl _))
/-- a range object just made, walked -/
theorem range_it {pins : List (Addr × Obj)} {σ : St} {H : Hp} {s : Shared} {R : It → Hp → Prop} {E : Value → Shared → Prop} {lo hi : Int} {t u v : Tok} {tk : Nat} (I : Inv X pins σ H s) (h1 : -(2 ^ 62) ≤ lo) (h2 : lo < 2 ^ 62) (h3 : -(2 ^ 62) ≤ hi) (h4 : hi < 2 ^ 62)
    (q : R (Itr lo (hi - lo).toNat) H) : wpAny (model X.prog X.w) X.A (pyIter (.ref s.heap.objs.size)) (PIE X pins σ tg R) E { s with heap := s.heap.push { cls := .type "range", data := .fields #[.int lo t, .int hi u, .int 1 v] }, toks := tk } := by
  refine wpAny_pyIter_range (IsRange.new ..) (small_one h1 h2 h3 h4) ?_
  have I1 : Inv X pins σ H { s with heap := s.heap.push { cls := .type "range", data := .fields #[.int lo t, .int hi u, .int 1 v] }, toks := tk } := I.kept fun b o e => Heap.get?_push_of_some _ e
  refine ⟨(s.heap.push { cls := .type "range", data := .fields #[.int lo t, .int hi u, .int 1 v] }).objs.size, [(s.heap.push { cls := .type "range", data := .fields #[.int lo t, .int hi u, .int 1 v] }).objs.size], _, _, H, rfl,
    I1.kept (t' := tk) fun b o e => Heap.get?_push_of_some _ e, turn_range _ lo (hi - lo).toNat, ?_, fun b hb => ?_, q⟩
  · have e1 : lo + ((0 : Nat) : Int) * 1 = lo := by simp
    have e2 : (((hi - lo).toNat : Nat) : Int) - ((0 : Nat) : Int) = Builtin.Range.rangeSize lo hi 1 := by rw [rangeSize_one]; split <;> omega
    show IsRangeIter _ _ (lo + ((0 : Nat) : Int) * 1) ((((hi - lo).toNat : Nat) : Int) - ((0 : Nat) : Int)) 1
    rw [e1, e2]
    exact Heap.get?_push_size _ rfl
  · have e : b = (s.heap.push { cls := .type "range", data := .fields #[.int lo t, .int hi u, .int 1 v] }).objs.size := by simpa using hb
    subst e
    exact I1.fpOk (Nat.le_refl _) (I1.hok.fresh (Nat.le_refl _))
def iRng1 (ta : TA) : TI := fun σ H R => ta σ H fun vs H1 => ∃ j : Int, vs = [.int j] ∧ -(2 ^ 62) ≤ j ∧ j < 2 ^ 62 ∧ R (Itr 0 j.toNat) H1
def iRng2 (ta : TA) : TI := fun σ H R => ta σ H fun vs H1 => ∃ i j : Int, vs = [.int i, .int j] ∧ (-(2 ^ 62) ≤ i ∧ i < 2 ^ 62 ∧ -(2 ^ 62) ≤ j ∧ j < 2 ^ 62) ∧ R (Itr i (j - i).toNat) H1
theorem pi_range1 {a : Expr} {ta : TA} {p pos : Pos} (hg : Gl X "range") (hm : X.mg "range" = none) (ha : PA X [a] ta) (hs : starEach [a] X.env = [(false, eval a X.env)] := by rfl) : PI X tg (.Call (.Name "range" p) [a] [] pos) (iRng1 ta) := by
  intro pins s σ H R I h
  refine Call_ (ld_blt I hg hm boot_range (PyProof.Rows.callWith_type1 (thn (ha pos pins s σ H _ I h) fun us s1 ⟨vs, H1, I1, r1, q1⟩ => ?_) hs rfl))
  obtain ⟨j, e, q1, q2, q⟩ := q1
  subst e
  cases r1 with
  | cons r rr =>
    cases rr
    obtain ⟨t, rfl⟩ := r
    exact call_range_1 (range_it I1 (by omega) (by omega) q1 q2 (by simpa using q))
/-! ### for -/
/-- W: the invariant by the turn and a measure; N: what the body is to reach -/
def tFor (wi : TI) (g : TG) (tb : TS) : TS := fun D σ H => wi σ H fun J H1 => ∃ W : Nat → Nat → St → Hp → Prop, (∃ m, W 0 m σ H1) ∧ ∀ i m σ H, W i m σ H →
  (J.stop i H ∧ D.nx σ H) ∨ (J.go i H ∧ ∃ N : St → Hp → Prop, (∀ σ' H', N σ' H' → ∃ m', m' < m ∧ W (i + 1) m' σ' H') ∧ ∀ x H', J.yld i H x H' → g x σ H' fun σ2 H2 => tb { D with nx := N, ct := N, bk := D.nx } σ2 H2)
/-- the records at fp as they stand -/
def pinsAt (fp : List Addr) (h : Heap) : List (Addr × Obj) := fp.filterMap fun b => (h.get? b).map fun o => (b, o)
theorem mem_pinsAt {fp : List Addr} {h : Heap} {b : Addr} {o : Obj} (hb : b ∈ fp) (e : h.get? b = some o) : (b, o) ∈ pinsAt fp h := List.mem_filterMap.mpr ⟨b, hb, by rw [e]; rfl⟩
theorem of_pinsAt {fp : List Addr} {h : Heap} {p : Addr × Obj} (hp : p ∈ pinsAt fp h) : p.1 ∈ fp ∧ h.get? p.1 = some p.2 := by
  obtain ⟨b, hb, e⟩ := List.mem_filterMap.mp hp
  cases q : h.get? b with
  | none => rw [q] at e; cases e
  | some o =>
    rw [q] at e
    have e' : (b, o) = p := Option.some.inj e
    subst e'
    exact ⟨hb, q⟩
theorem Inv.pinned {pins : List (Addr × Obj)} {σ : St} {H : Hp} {s : Shared} {fp : List Addr} (I : Inv X pins σ H s) (hf : ∀ b ∈ fp, FpOk X pins H b) (ho : ∀ b ∈ fp, ∃ o, s.heap.get? b = some o ∧ ∀ v, o.data ≠ .cell v) : Inv X (pins ++ pinsAt fp s.heap) σ H s :=
  I.pins_of fun p hp => (List.mem_append.mp hp).elim (fun z => I.pin p (List.mem_append_right _ z)) fun z => by
    obtain ⟨hb, e⟩ := of_pinsAt z
    obtain ⟨f0, f1, f2, _⟩ := hf p.1 hb
    obtain ⟨o, e', d⟩ := ho p.1 hb
    rw [e] at e'; cases e'
    exact ⟨e, f0, f1, f2, d⟩
theorem Inv.unpinned {pins pl : List (Addr × Obj)} {σ : St} {H : Hp} {s : Shared} (I : Inv X (pins ++ pl) σ H s) : Inv X pins σ H s := I.pins_of fun p hp => I.pin p (List.mem_append_right _ (List.mem_append_left _ hp))
theorem ps_for {iter : Expr} {body : List Stmt} {wi : TI} {g : TG} {tb : TS} {pos : Pos} (hp : PassesOwn (model X.prog X.w) X.A X.env X.xe) (hc : X.calm = true) (hi : PI X tg iter wi) (hg : PG X tg g) (hb : PSs X body tb)
    (hs : ∀ x, foldedSetIterable iter X.env x = pure x := by intro _; rfl) : PS X (.For tg iter body [] pos) (tFor wi g tb) := by
  intro pins s σ H D I h
  refine wpAny_For (thn (hi pins s σ H _ I h) fun v s1 h1 => thn h1 fun itv s2 h2 => ?_) hs
  obtain ⟨it, fp, tn, J, H2, e, I2, T, st2, f2, W, ⟨m0, w0⟩, turn⟩ := h2
  subst e
  -- what stays true of the iterator's objects through the loop
  have stat : ∀ {H' : Hp}, (∀ b ∈ fp, H' b = none) → ∀ b ∈ fp, FpOk X pins H' b := fun hn b hb => ⟨hn b hb, (f2 b hb).2⟩
  refine codeAny_forLoop_any (fun n s' => ∃ i σ' H', Inv X pins σ' H' s' ∧ tn i s'.heap ∧ (∀ b ∈ fp, H' b = none) ∧ W i n σ' H') ?_ m0 ⟨0, σ, H2, I2, st2, fun b hb => (f2 b hb).1, w0⟩
  rintro n s3 ⟨i, σ3, H3, I3, st3, fr3, w3⟩
  rcases turn i n σ3 H3 w3 with ⟨stop, qn⟩ | ⟨go, N, hN, step⟩
  · refine wpAny_passesOwn hp (thn (T.done X rfl rfl rfl hc i pins s3 σ3 H3 X.xe I3 (stat fr3) st3 stop) fun r s4 ⟨hr, I4⟩ => ?_)
    subst hr
    exact wpAny_execs_nil ⟨σ3, H3, I4, qn⟩
  · refine wpAny_passesOwn hp (thn (T.item X rfl rfl rfl hc i pins s3 σ3 H3 X.xe I3 (stat fr3) st3 go) fun r s4 ⟨u, hr, h4⟩ => ?_)
    subst hr
    refine wpAny_passesOwn hp (thn h4 fun _ s5 ⟨x, H5, I5, r5, y5, st5, fr5⟩ => ?_)
    have I5' := I5.pinned (stat fr5) (T.obj _ _ st5)
    refine wpAny_passesOwn hp (thn (hg _ s5 σ3 H5 x u _ I5' r5 (step x H5 y5)) fun _ s6 ⟨σ6, H6, I6, q6⟩ => ?_)
    refine wpAny_passesOwn hp (thn (hb _ s6 σ6 H6 _ I6 q6) fun f s7 q7 => ?_)
    have again : ∀ {σ7 : St} {H7 : Hp}, Inv X (pins ++ pinsAt fp s5.heap) σ7 H7 s7 → N σ7 H7 → ∃ m, m < n ∧ ∃ i σ' H', Inv X pins σ' H' s7 ∧ tn i s7.heap ∧ (∀ b ∈ fp, H' b = none) ∧ W i m σ' H' := fun {σ7 H7} I7 n7 => by
      obtain ⟨m', hm, w7⟩ := hN σ7 H7 n7
      refine ⟨m', hm, i + 1, σ7, H7, I7.unpinned, T.keep _ _ _ st5 fun b hb o e => (I7.pin (b, o) (List.mem_append_right _ (List.mem_append_right _ (mem_pinsAt hb e)))).1, fun b hb => ?_, w7⟩
      obtain ⟨o, e, d⟩ := T.obj _ _ st5 b hb
      exact (I7.pin (b, o) (List.mem_append_right _ (List.mem_append_right _ (mem_pinsAt hb e)))).2.1
    cases f with
    | next => obtain ⟨σ7, H7, I7, n7⟩ := q7; exact again I7 n7
    | cont => obtain ⟨σ7, H7, I7, n7⟩ := q7; exact again I7 n7
    | brk => obtain ⟨σ7, H7, I7, q7⟩ := q7; exact ⟨σ7, H7, I7.unpinned, q7⟩
    | ret v => obtain ⟨x7, σ7, H7, I7, r7, q7⟩ := q7; exact ⟨x7, σ7, H7, I7.unpinned, r7, q7⟩
end

/-! ### the forms one uses -/
/-- over a list that the body leaves as it is -/
theorem for_list {K : PySem.W.Frag} {a : Addr} {xs : List V} {g : TG} {tb : TS} {D : Ends} {σ : St} {H : Hp} (Pv : Nat → St → Hp → Prop) (h0 : Pv 0 σ H) (hl : ∀ i σ H, i ≤ xs.length → Pv i σ H → SqL K H a xs)
    (hs : ∀ i x σ H, xs[i]? = some x → Pv i σ H → g x σ H fun σ2 H2 => tb { D with nx := Pv (i + 1), ct := Pv (i + 1), bk := D.nx } σ2 H2) (hd : ∀ σ H, Pv xs.length σ H → D.nx σ H) :
    ∃ W : Nat → Nat → St → Hp → Prop, (∃ m, W 0 m σ H) ∧ ∀ i m σ H, W i m σ H →
      ((Itl K a).stop i H ∧ D.nx σ H) ∨ ((Itl K a).go i H ∧ ∃ N : St → Hp → Prop, (∀ σ' H', N σ' H' → ∃ m', m' < m ∧ W (i + 1) m' σ' H') ∧ ∀ x H', (Itl K a).yld i H x H' → g x σ H' fun σ2 H2 => tb { D with nx := N, ct := N, bk := D.nx } σ2 H2) := by
  refine ⟨fun i m σ H => m = xs.length - i ∧ i ≤ xs.length ∧ Pv i σ H, ⟨xs.length, by simp, Nat.zero_le _, h0⟩, ?_⟩
  rintro i m σ H ⟨rfl, hi, p⟩
  have q := hl i σ H hi p
  by_cases hlt : i < xs.length
  · refine .inr ⟨⟨xs, xs[i], q, by simp [hlt]⟩, Pv (i + 1), fun σ' H' p' => ⟨xs.length - (i + 1), by omega, rfl, hlt, p'⟩, fun x H' y => ?_⟩
    obtain ⟨e, y⟩ := y
    subst e
    exact hs i x σ _ (y xs q) p
  · have e : i = xs.length := by omega
    subst e
    exact .inl ⟨⟨xs, q, Nat.le_refl _⟩, hd σ H p⟩
theorem for_range {lo : Int} {n : Nat} {g : TG} {tb : TS} {D : Ends} {σ : St} {H : Hp} (Pv : Nat → St → Hp → Prop) (h0 : Pv 0 σ H)
    (hs : ∀ i σ H, i < n → Pv i σ H → g (.int (lo + i)) σ H fun σ2 H2 => tb { D with nx := Pv (i + 1), ct := Pv (i + 1), bk := D.nx } σ2 H2) (hd : ∀ σ H, Pv n σ H → D.nx σ H) :
    ∃ W : Nat → Nat → St → Hp → Prop, (∃ m, W 0 m σ H) ∧ ∀ i m σ H, W i m σ H →
      ((Itr lo n).stop i H ∧ D.nx σ H) ∨ ((Itr lo n).go i H ∧ ∃ N : St → Hp → Prop, (∀ σ' H', N σ' H' → ∃ m', m' < m ∧ W (i + 1) m' σ' H') ∧ ∀ x H', (Itr lo n).yld i H x H' → g x σ H' fun σ2 H2 => tb { D with nx := N, ct := N, bk := D.nx } σ2 H2) := by
  refine ⟨fun i m σ H => m = n - i ∧ i ≤ n ∧ Pv i σ H, ⟨n, by simp, Nat.zero_le _, h0⟩, ?_⟩
  rintro i m σ H ⟨rfl, hi, p⟩
  by_cases hlt : i < n
  · refine .inr ⟨hlt, Pv (i + 1), fun σ' H' p' => ⟨n - (i + 1), by omega, rfl, hlt, p'⟩, fun x H' y => ?_⟩
    obtain ⟨e, y⟩ := y
    subst e y
    exact hs i σ _ hlt p
  · have e : i = n := by omega
    subst e
    exact .inl ⟨Nat.le_refl _, hd σ H p⟩
end L2

namespace L2
open PySem PySem.Spec PyProof.Rows

abbrev R2 := V → V → Hp → VK → Prop
/-- a two-place operation on values: f is binaryOp op, inplaceOp op or compareOp op -/
def OpR (X : Cx) (f : Value → Value → Sem Value) (r : R2) : Prop :=
  ∀ (pins : List (Addr × Obj)) (s : Shared) (σ : St) (H : Hp) (x y : V) (v u : Value) (Q : VK), Inv X pins σ H s → RelV x v → RelV y u → r x y H Q →
    wpAny (model X.prog X.w) X.A (f v u) (EP X pins σ Q) X.xe s
/-- a one-place operation -/
def UnR (X : Cx) (f : Value → Sem Value) (r : V → Hp → VK → Prop) : Prop :=
  ∀ (pins : List (Addr × Obj)) (s : Shared) (σ : St) (H : Hp) (x : V) (v : Value) (Q : VK), Inv X pins σ H s → RelV x v → r x H Q →
    wpAny (model X.prog X.w) X.A (f v) (EP X pins σ Q) X.xe s
/-- a call of a value that is known (a builtin, a type) with values -/
def CallR (X : Cx) (f : Value) (r : List V → Hp → VK → Prop) : Prop :=
  ∀ (pins : List (Addr × Obj)) (s : Shared) (σ : St) (H : Hp) (xs : List V) (us : List Value) (Q : VK), Inv X pins σ H s → Vals xs us → r xs H Q →
    wpAny (model X.prog X.w) X.A (call f us) (EP X pins σ Q) X.xe s
/-- a value's truth -/
def TruR (X : Cx) (r : V → Hp → (Bool → Hp → Prop) → Prop) : Prop :=
  ∀ (pins : List (Addr × Obj)) (s : Shared) (σ : St) (H : Hp) (x : V) (v : Value) (Q : Bool → Hp → Prop), Inv X pins σ H s → RelV x v → r x H Q →
    wpAny (model X.prog X.w) X.A (truthy v) (TP X pins σ Q) X.xe s

def tOp (r : R2) (ta tb : TE) : TE := fun σ H Q => ta σ H fun x H1 => tb σ H1 fun y H2 => r x y H2 Q
def tUn (r : V → Hp → VK → Prop) (ta : TE) : TE := fun σ H Q => ta σ H fun x H1 => r x H1 Q
/-- ints in, under C, and a value out -/
def rI (C : Int → Int → Prop) (g : Int → Int → V) : R2 := fun x y H Q => ∃ i j, x = .int i ∧ y = .int j ∧ C i j ∧ Q (g i j) H
def rI0 (g : Int → Int → V) : R2 := fun x y H Q => ∃ i j, x = .int i ∧ y = .int j ∧ Q (g i j) H
def rU (g : Int → V) : V → Hp → VK → Prop := fun x H Q => ∃ i, x = .int i ∧ Q (g i) H

section
variable {X : Cx} {a b c : Expr} {ta tb tc : TE} {pos : Pos}

theorem binT (ha : PE X a ta) (hb : PE X b tb) {pins : List (Addr × Obj)} {s : Shared} {σ : St} {H : Hp} {R : V → V → Hp → Prop} (I : Inv X pins σ H s)
    (h : ta σ H fun x H1 => tb σ H1 fun y H2 => R x y H2) {Q : Value → Shared → Prop} {f : Value → Value → Sem Value}
    (hf : ∀ v u s2 x y H2, Inv X pins σ H2 s2 → RelV x v → RelV y u → R x y H2 → wpAny (model X.prog X.w) X.A (f v u) Q X.xe s2) :
    wpAny (model X.prog X.w) X.A (eval a X.env) (fun v s₁ => wpAny (model X.prog X.w) X.A (eval b X.env) (fun u s₂ => wpAny (model X.prog X.w) X.A (f v u) Q X.xe s₂) X.xe s₁) X.xe s := by
  refine thn (ha pins s σ H _ I h) fun v s1 ⟨x, H1, I1, r1, q1⟩ => ?_
  refine thn (hb pins s1 σ H1 _ I1 q1) fun u s2 ⟨y, H2, I2, r2, q2⟩ => ?_
  exact hf v u s2 x y H2 I2 r1 r2 q2

theorem pe_op {op : Operator} {r : R2} (ho : OpR X (binaryOp op) r) (ha : PE X a ta) (hb : PE X b tb) : PE X (.BinOp a op b pos) (tOp r ta tb) := by
  intro pins s σ H Q I h
  exact wpAny_BinOp (binT ha hb I h fun v u s2 x y H2 I2 rx ry q => ho pins s2 σ H2 x y v u Q I2 rx ry q)
/-! ### ints -/
theorem opI {f : Value → Value → Sem Value} {C : Int → Int → Prop} {g : Int → Int → Int}
    (rule : ∀ (i j : Int) (t u : Tok) (s : Shared) (Q : Value → Shared → Prop) (E : Value → Shared → Prop), C i j → Q (.int (g i j) s.toks) { s with toks := s.toks + 1 } → wpAny (model X.prog X.w) X.A (f (.int i t) (.int j u)) Q E s) :
    OpR X f (rI C fun i j => .int (g i j)) := by
  intro pins s σ H x y v u Q I rx ry h
  obtain ⟨i, j, rfl, rfl, hc, q⟩ := h
  obtain ⟨t, rfl⟩ := rx
  obtain ⟨t', rfl⟩ := ry
  exact rule i j t t' s _ _ hc ⟨.int (g i j), H, I.tok _, ⟨_, rfl⟩, q⟩
theorem opI0 {f : Value → Value → Sem Value} {g : Int → Int → Int}
    (rule : ∀ (i j : Int) (t u : Tok) (s : Shared) (Q : Value → Shared → Prop) (E : Value → Shared → Prop), Q (.int (g i j) s.toks) { s with toks := s.toks + 1 } → wpAny (model X.prog X.w) X.A (f (.int i t) (.int j u)) Q E s) :
    OpR X f (rI0 fun i j => .int (g i j)) := by
  intro pins s σ H x y v u Q I rx ry h
  obtain ⟨i, j, rfl, rfl, q⟩ := h
  obtain ⟨t, rfl⟩ := rx
  obtain ⟨t', rfl⟩ := ry
  exact rule i j t t' s _ _ ⟨.int (g i j), H, I.tok _, ⟨_, rfl⟩, q⟩
theorem opB0 {f : Value → Value → Sem Value} {g : Int → Int → Bool}
    (rule : ∀ (i j : Int) (t u : Tok) (s : Shared) (Q : Value → Shared → Prop) (E : Value → Shared → Prop), Q (.bool (g i j)) s → wpAny (model X.prog X.w) X.A (f (.int i t) (.int j u)) Q E s) :
    OpR X f (rI0 fun i j => .bl (g i j)) := by
  intro pins s σ H x y v u Q I rx ry h
  obtain ⟨i, j, rfl, rfl, q⟩ := h
  obtain ⟨t, rfl⟩ := rx
  obtain ⟨t', rfl⟩ := ry
  exact rule i j t t' s _ _ ⟨.bl (g i j), H, I, rfl, q⟩

def CDiv (i j : Int) : Prop := 0 < j ∧ j < 1073741824
def CDivN (i j : Int) : Prop := j ≠ 0 ∧ j.natAbs < 1073741824
def CPow (i j : Int) : Prop := 0 ≤ j ∧ j ≤ 1000000 ∧ i.natAbs < 2 ^ 64
def CMul (i j : Int) : Prop := (-(2 ^ 64) < i ∧ i < 2 ^ 64) ∨ (-(2 ^ 64) < j ∧ j < 2 ^ 64)
theorem CMul.ok {i j : Int} (h : CMul i j) : IntMulOk i j := by
  rcases h with ⟨h1, h2⟩ | ⟨h1, h2⟩
  · exact .of_left (intBits_le_64 h1 h2)
  · exact .of_right (intBits_le_64 h1 h2)
theorem op_add : OpR X (binaryOp .Add) (rI0 fun i j => .int (i + j)) := opI0 fun _ _ _ _ _ _ _ q => add_int q
theorem op_sub : OpR X (binaryOp .Sub) (rI0 fun i j => .int (i - j)) := opI0 fun _ _ _ _ _ _ _ q => sub_int q
theorem op_mul : OpR X (binaryOp .Mult) (rI CMul fun i j => .int (i * j)) := opI fun _ _ _ _ _ _ _ hc q => mul_int q hc.ok
/-- % by a positive divisor of any size -/
theorem op_mod : OpR X (binaryOp .Mod) (rI (fun _ j => 0 < j) fun i j => .int (i % j)) := opI fun i j _ _ _ _ _ hc q => by
  have h1 : (0 : Int) < j := hc
  exact mod_int' (by omega) (by rw [Int.fmod_eq_emod_of_nonneg i (by omega)]; exact q)
theorem op_pow : OpR X (binaryOp .Pow) (rI CPow fun i j => .int (i ^ j.toNat)) := opI fun _ _ _ _ _ _ _ hc q => pow_int_small hc.1 hc.2.1 hc.2.2 q
/-! ### bools among ints: n += (a < b) -/
end

/-! ### comparisons -/
/-- the scalars that == tells apart as data does -/
def scal : V → V → Bool
  | .non, .non => true | .non, .int _ => true | .int _, .non => true | .non, .bl _ => true | .bl _, .non => true | .non, .str _ => true | .str _, .non => true
  | .int _, .int _ => true | .bl _, .bl _ => true | .str _, .str _ => true | .byt _, .byt _ => true
  | .int _, .str _ => true | .str _, .int _ => true | .bl _, .str _ => true | .str _, .bl _ => true
  | _, _ => false
def rEq : R2 := fun x y H Q => scal x y = true ∧ Q (.bl (decide (x = y))) H
def rNe : R2 := fun x y H Q => scal x y = true ∧ Q (.bl (!decide (x = y))) H

theorem dec_int {i j : Int} : decide (V.int i = V.int j) = (i == j) := by
  rw [Bool.eq_iff_iff]
  simp
theorem dec_bl {i j : Bool} : decide (V.bl i = V.bl j) = (i == j) := by
  rw [Bool.eq_iff_iff]
  simp
theorem dec_str {i j : Str} : decide (V.str i = V.str j) = (i == j) := by
  rw [Bool.eq_iff_iff]
  simp
theorem dec_byt {i j : Array UInt8} : decide (V.byt i = V.byt j) = (i.toList == j.toList) := by
  rw [Bool.eq_iff_iff]
  cases i
  cases j
  simp

section
variable {X : Cx} {a b c : Expr} {ta tb tc : TE} {pos : Pos}
theorem fin_bl {pins : List (Addr × Obj)} {σ : St} {H : Hp} {s : Shared} {Q : VK} {k k' : Bool} (I : Inv X pins σ H s) (q : Q (.bl k) H) (e : k = k') : EP X pins σ Q (.bool k') s := by
  subst e
  exact ⟨.bl k, H, I, rfl, q⟩
theorem op_eq : OpR X (compareOp .Eq) rEq := by
  intro pins s σ H x y v u Q I rx ry h
  obtain ⟨hs, q⟩ := h
  cases x with
  | non =>
    cases rx
    cases y with
    | non => cases ry; exact PySem.EqNone.eq_none_none (fin_bl I q (by simp))
    | bl j => cases ry; exact PySem.EqNone.eq_none_bool (fin_bl I q (by simp))
    | int j => obtain ⟨t', rfl⟩ := ry; exact PySem.EqNone.eq_none_int (fin_bl I q (by simp))
    | str j => obtain ⟨t', rfl⟩ := ry; exact PySem.EqNone.eq_none_str (fin_bl I q (by simp))
    | _ => exact absurd (show false = true from hs) Bool.false_ne_true
  | bl i =>
    cases rx
    cases y with
    | non => cases ry; exact PySem.EqNone.eq_bool_none (fin_bl I q (by simp))
    | bl j => cases ry; exact eq_bool (fin_bl I q dec_bl)
    | str j => obtain ⟨t', rfl⟩ := ry; exact PySem.EqMixed.eq_bool_str (fin_bl I q (by simp))
    | _ => exact absurd (show false = true from hs) Bool.false_ne_true
  | int i =>
    obtain ⟨t, rfl⟩ := rx
    cases y with
    | non => cases ry; exact PySem.EqNone.eq_int_none (fin_bl I q (by simp))
    | int j => obtain ⟨t', rfl⟩ := ry; exact eq_int (fin_bl I q dec_int)
    | str j => obtain ⟨t', rfl⟩ := ry; exact PySem.EqMixed.eq_int_str (fin_bl I q (by simp))
    | _ => exact absurd (show false = true from hs) Bool.false_ne_true
  | str i =>
    obtain ⟨t, rfl⟩ := rx
    cases y with
    | non => cases ry; exact PySem.EqNone.eq_str_none (fin_bl I q (by simp))
    | bl j => cases ry; exact PySem.EqMixed.eq_str_bool (fin_bl I q (by simp))
    | int j => obtain ⟨t', rfl⟩ := ry; exact PySem.EqMixed.eq_str_int (fin_bl I q (by simp))
    | str j => obtain ⟨t', rfl⟩ := ry; exact eq_str (fin_bl I q dec_str)
    | _ => exact absurd (show false = true from hs) Bool.false_ne_true
  | byt i =>
    obtain ⟨t, rfl⟩ := rx
    cases y with
    | byt j => obtain ⟨t', rfl⟩ := ry; exact PySem.W.eq_bytes (fin_bl I q dec_byt)
    | _ => exact absurd (show false = true from hs) Bool.false_ne_true
  | _ => cases y <;> exact absurd (show false = true from hs) Bool.false_ne_true
theorem op_ne : OpR X (compareOp .NotEq) rNe := by
  intro pins s σ H x y v u Q I rx ry h
  obtain ⟨hs, q⟩ := h
  cases x with
  | non =>
    cases rx
    cases y with
    | non => cases ry; exact PySem.EqNone.ne_none_none (fin_bl I q (by simp))
    | bl j => cases ry; exact PySem.EqNone.ne_none_bool (fin_bl I q (by simp))
    | int j => obtain ⟨t', rfl⟩ := ry; exact PySem.EqNone.ne_none_int (fin_bl I q (by simp))
    | str j => obtain ⟨t', rfl⟩ := ry; exact PySem.EqNone.ne_none_str (fin_bl I q (by simp))
    | _ => exact absurd (show false = true from hs) Bool.false_ne_true
  | bl i =>
    cases rx
    cases y with
    | non => cases ry; exact PySem.EqNone.ne_bool_none (fin_bl I q (by simp))
    | bl j => cases ry; exact ne_bool (fin_bl I q (congrArg not dec_bl))
    | str j => obtain ⟨t', rfl⟩ := ry; exact PySem.EqMixed.ne_bool_str (fin_bl I q (by simp))
    | _ => exact absurd (show false = true from hs) Bool.false_ne_true
  | int i =>
    obtain ⟨t, rfl⟩ := rx
    cases y with
    | non => cases ry; exact PySem.EqNone.ne_int_none (fin_bl I q (by simp))
    | int j => obtain ⟨t', rfl⟩ := ry; exact ne_int (fin_bl I q (congrArg not dec_int))
    | str j => obtain ⟨t', rfl⟩ := ry; exact PySem.EqMixed.ne_int_str (fin_bl I q (by simp))
    | _ => exact absurd (show false = true from hs) Bool.false_ne_true
  | str i =>
    obtain ⟨t, rfl⟩ := rx
    cases y with
    | non => cases ry; exact PySem.EqNone.ne_str_none (fin_bl I q (by simp))
    | bl j => cases ry; exact PySem.EqMixed.ne_str_bool (fin_bl I q (by simp))
    | int j => obtain ⟨t', rfl⟩ := ry; exact PySem.EqMixed.ne_str_int (fin_bl I q (by simp))
    | str j => obtain ⟨t', rfl⟩ := ry; exact ne_str (fin_bl I q (congrArg not dec_str))
    | _ => exact absurd (show false = true from hs) Bool.false_ne_true
  | byt i =>
    obtain ⟨t, rfl⟩ := rx
    cases y with
    | byt j => obtain ⟨t', rfl⟩ := ry; exact PySem.W.ne_bytes (fin_bl I q (congrArg not dec_byt))
    | _ => exact absurd (show false = true from hs) Bool.false_ne_true
  | _ => cases y <;> exact absurd (show false = true from hs) Bool.false_ne_true

theorem op_lt : OpR X (compareOp .Lt) (rI0 fun i j => .bl (decide (i < j))) := opB0 fun _ _ _ _ _ _ _ q => lt_int q
theorem op_gt : OpR X (compareOp .Gt) (rI0 fun i j => .bl (decide (j < i))) := opB0 fun _ _ _ _ _ _ _ q => gt_int q
theorem op_notN : OpR X (compareOp .IsNot) (fun x y H Q => y = .non ∧ Q (.bl (!decide (x = .non))) H) := by
  intro pins s σ H x y v u Q I rx ry h
  obtain ⟨rfl, q⟩ := h
  cases ry
  refine isnot_none_gen (fin_bl I q ?_)
  cases x <;> first
    | (cases rx; rfl)
    | (obtain ⟨t, rfl⟩ := rx; rfl)

/-- is, is not of two objects that are tracked lists or instances -/
def isObj : HO → Bool
  | .lst _ => true
  | .ins _ _ _ => true
  | _ => false
/-- two rules for one operation: by cases -/
theorem OpR.or {f : Value → Value → Sem Value} {r r' : R2} (h : OpR X f r) (h' : OpR X f r') : OpR X f (fun x y H Q => r x y H Q ∨ r' x y H Q) := by
  intro pins s σ H x y v u Q I rx ry q
  rcases q with q | q
  · exact h pins s σ H x y v u Q I rx ry q
  · exact h' pins s σ H x y v u Q I rx ry q

theorem nomark (b : Expr) {op : CmpOp} (h : op ≠ .In := by decide) (h2 : op ≠ .NotIn := by decide) : behindInMarks op b = false := by
  have e1 : (op == CmpOp.In) = false := by cases op <;> first | rfl | exact absurd rfl h
  have e2 : (op == CmpOp.NotIn) = false := by cases op <;> first | rfl | exact absurd rfl h2
  cases b <;> simp [behindInMarks, e1, e2]
/-- a comparison as a value; hm: nomark b, or (for in, not in) by with_unfolding_all rfl -/
theorem pe_cmpR {op : CmpOp} {r : R2} (ho : OpR X (compareOp op) r) (ha : PE X a ta) (hb : PE X b tb) (hm : behindInMarks op b = false) : PE X (.Compare a [op] [b] pos) (tOp r ta tb) := by
  intro pins s σ H Q I h
  exact wpAny_Compare1 (binT ha hb I h fun v u s2 x y H2 I2 rx ry q => ho pins s2 σ H2 x y v u Q I2 rx ry q) hm
/-- a reading of a value as a test -/
def tTest (t : TE) : TT := fun σ H Q => t σ H fun x H' => ∃ k, x = .bl k ∧ Q k H'
theorem pt_cmpR {op : CmpOp} {r : R2} (ho : OpR X (compareOp op) r) (ha : PE X a ta) (hb : PE X b tb) (hm : behindInMarks op b = false) : PT X (.Compare a [op] [b] pos) (tTest (tOp r ta tb)) := by
  intro pins s σ H Q I h
  refine wpAny_isTrue_Compare1 (thn (ha pins s σ H _ I h) fun v s1 ⟨x, H1, I1, r1, q1⟩ => thn (hb pins s1 σ H1 _ I1 q1) fun u s2 ⟨y, H2, I2, r2, q2⟩ =>
    thn (ho pins s2 σ H2 x y v u _ I2 r1 r2 q2) fun c s3 ⟨z, H3, I3, r3, k, e, q3⟩ => ?_) hm
  subst e
  cases r3
  exact wpAny_truthy_bool ⟨H3, I3, q3⟩
/-- a op1 b op2 c -/
def tChain (r r' : R2) (ta tb tc : TE) : TE := fun σ H Q => ta σ H fun x H1 => tb σ H1 fun y H2 => r x y H2 fun z H3 => ∃ k, z = .bl k ∧
  (if k = true then tc σ H3 fun w' H4 => r' y w' H4 Q else Q (.bl false) H3)
/-! ### truth -/
/-- a value's truth by the abstract heap -/
def TruV (K : PySem.W.Frag) (x : V) (H : Hp) (k : Bool) : Prop :=
  match x with
  | .non => k = false
  | .bl b => k = b
  | .int i => k = (i != 0)
  | .str y => y.length ≤ sizeLine ∧ k = ((y.length : Int) != 0)
  | .byt y => y.size ≤ sizeLine ∧ k = ((y.size : Int) != 0)
  | .ref p => (∃ xs, SqL K H p xs ∧ k = !xs.isEmpty) ∨ (∃ xs, SqT K H p xs ∧ k = !xs.isEmpty) ∨ ∃ kvs, H p = some (.dK kvs) ∧ k = !kvs.isEmpty
  | _ => False
theorem isEmpty_kv {κ : Type} {kvs : List (κ × V)} {vs : List (κ × Value)} (r : KV kvs vs) : (!vs.isEmpty) = !kvs.isEmpty := by
  cases r <;> rfl
theorem isEmpty_of {xs : List V} {its : List Value} (r : Vals xs its) : (!its.toArray.isEmpty) = !xs.isEmpty := by
  cases r <;> simp
theorem line63 : (sizeLine : Nat) < 2 ^ 63 := by rw [sizeLine_eq]; decide
theorem tru_ok : TruR X (fun x H Q => ∃ k, TruV X.K x H k ∧ Q k H) := by
  intro pins s σ H x v Q I rx h
  obtain ⟨k, e, q⟩ := h
  have hl := line63
  have hs : sizeLine = 16777216 := sizeLine_eq
  cases x with
  | non =>
    cases rx
    have e' : k = false := e
    subst e'
    exact truthy_none ⟨H, I, q⟩
  | bl b =>
    cases rx
    have e' : k = b := e
    subst e'
    exact wpAny_truthy_bool ⟨H, I, q⟩
  | int i =>
    obtain ⟨t, rfl⟩ := rx
    have e' : k = (i != 0) := e
    subst e'
    exact PySem.P.truthy_int ⟨H, I, q⟩
  | str y =>
    obtain ⟨t, rfl⟩ := rx
    obtain ⟨hy, e'⟩ : y.length ≤ sizeLine ∧ k = ((y.length : Int) != 0) := e
    subst e'
    exact PySem.P.truthy_str (by omega) ⟨H, I.tok _, q⟩
  | byt y =>
    obtain ⟨t, rfl⟩ := rx
    obtain ⟨hy, e'⟩ : y.size ≤ sizeLine ∧ k = ((y.size : Int) != 0) := e
    subst e'
    exact PySem.W.truthy_bytes (by omega) ⟨H, I.tok _, q⟩
  | ref p =>
    cases rx
    have e' : (∃ xs, SqL X.K H p xs ∧ k = !xs.isEmpty) ∨ (∃ xs, SqT X.K H p xs ∧ k = !xs.isEmpty) ∨ ∃ kvs, H p = some (.dK kvs) ∧ k = !kvs.isEmpty := e
    rcases e' with ⟨xs, hx, e'⟩ | ⟨xs, hx, e'⟩ | ⟨kvs, hx, e'⟩
    · subst e'
      obtain ⟨its, r, pl, hz⟩ := I.list hx
      have hlen := r.length
      exact wpAny_truthy_list pl.isList (by simp only [List.size_toArray]; omega) ⟨H, I.tok _, by rw [isEmpty_of r]; exact q⟩
    · subst e'
      obtain ⟨its, r, pl, hz⟩ := I.tuple hx
      have hlen := r.length
      exact truthy_tuple pl (by simp only [List.size_toArray]; omega) ⟨H, I.tok _, by rw [isEmpty_of r]; exact q⟩
    · subst e'
      obtain ⟨hz, hS, vs, r, m⟩ : kvs.length ≤ sizeLine ∧ (p == sysModules) = false ∧ ∃ vs, KV kvs vs ∧ s.heap.DictOf (mixKind X.prog X.w) p vs := I.hok p _ hx
      have hlen : kvs.length = vs.length := Paired.length r
      exact wpAny_truthy_dict hS m (by omega) ⟨H, I.tok _, by rw [isEmpty_kv r]; exact q⟩
  | _ => exact (show False from e).elim
/-- any expression whose test is its value's truth (a name, a call, a subscript, a field ..: he by fun _ => rfl) -/
theorem pt_truth (ha : PE X a ta) (he : ∀ whole, isTrue a X.env whole = (do let v ← whole; standAt a.pos; holding [v] (truthy v))) :
    PT X a (fun σ H Q => ta σ H fun x H' => ∃ k, TruV X.K x H' k ∧ Q k H') := by
  intro pins s σ H Q I h
  exact isTrue_plain (thn (ha pins s σ H _ I h) fun v s1 ⟨x, H1, I1, r1, q1⟩ => tru_ok pins s1 σ H1 x v Q I1 r1 q1) (he _)

/-! ### strs and bytes -/
theorem op_add_str : OpR X (binaryOp .Add) (fun x y H Q => ∃ i j, x = .str i ∧ y = .str j ∧ i.length + j.length ≤ sizeLine ∧ Q (.str (i ++ j)) H) := by
  intro pins s σ H x y v u Q I rx ry h
  obtain ⟨i, j, rfl, rfl, hz, q⟩ := h
  obtain ⟨t, rfl⟩ := rx
  obtain ⟨t', rfl⟩ := ry
  exact add_str (fun t' tk => ⟨.str (i ++ j), H, I.tok _, ⟨_, rfl⟩, q⟩) hz
def PlainIxT (b : Expr) : Prop := ∀ o i, subscripted b false o i = operate [o, i] (getItem o i)
/-! ### scalar builtins, by CallR -/
theorem vals1 {x : V} {us : List Value} (r : Vals [x] us) : ∃ u, us = [u] ∧ RelV x u := by
  cases r with
  | cons r1 r2 => cases r2; exact ⟨_, rfl, r1⟩
theorem vals2 {x y : V} {us : List Value} (r : Vals [x, y] us) : ∃ u w', us = [u, w'] ∧ RelV x u ∧ RelV y w' := by
  cases r with
  | cons r1 r2 =>
    cases r2 with
    | cons r3 r4 => cases r4; exact ⟨_, _, rfl, r1, r3⟩
/-- len of a str, a bytes, a list, a tuple -/
def LenV (K : PySem.W.Frag) (x : V) (H : Hp) (n : Nat) : Prop :=
  match x with
  | .str y => y.length ≤ sizeLine ∧ n = y.length
  | .byt y => y.size ≤ sizeLine ∧ n = y.size
  | .ref p => (∃ xs, SqL K H p xs ∧ n = xs.length) ∨ ∃ xs, SqT K H p xs ∧ n = xs.length
  | _ => False
end
end L2

namespace L2
open PySem PySem.Spec PyProof.Rows

/-! ### an instance, its attributes a map -/
structure ObjM (h : Heap) (x dx C : Addr) (mA : Str → Option Value) : Prop where
  obj : h.get? x = some (PySem.W.instObj C dx)
  ns : h.Ns1 dx mA
  ne : dx ≠ x

theorem lookIn_ns {h : Heap} {dx : Addr} {mA : Str → Option Value} (n : h.Ns1 dx mA) : ∃ od, h.get? dx = some od ∧ ∀ name, PySem.W.lookIn name od = some (mA name) := by
  obtain ⟨o, es, ep, ho, hd, hk, _, hm⟩ := n
  refine ⟨o, ho, fun name => ?_⟩
  have e := hm name
  unfold nsFind findBy at e
  rw [← Array.find?_toList] at e
  unfold PySem.W.lookIn
  rw [hd]
  dsimp only
  split
  · rename_i y q
    rw [q] at e
    exact congrArg some e
  · rename_i q
    rw [q] at e
    have a : es.toList.any (·.refKey) = false := by
      rw [List.any_eq_false]
      intro y hy
      obtain ⟨z, t, hkey⟩ := hk y (Array.mem_toList_iff.mp hy)
      simp [DictEntry.refKey, hkey]
    have a' : ¬ es.toList.any (·.refKey) = true := by rw [a]; exact Bool.false_ne_true
    rw [if_neg a']
    exact congrArg some e

theorem ObjM.look {h : Heap} {x dx C : Addr} {mA : Str → Option Value} (I : ObjM h x dx C mA) : ∃ od, PySem.W.InstAt h x (PySem.W.instObj C dx) C (some od) ∧ ∀ name, PySem.W.lookIn name od = some (mA name) :=
  let ⟨od, ho, hl⟩ := lookIn_ns I.ns
  ⟨od, ⟨I.obj, rfl, rfl, ho⟩, hl⟩

section
variable {prog : Program} {w : World} {A : Around} {E : Value → Shared → Prop} {s : Shared} {K : PySem.W.Frag} {x dx C f : Addr} {mA : Str → Option Value} {name : Str} {v : Value}

theorem get_map {expr : Bool} {Q : Value → Shared → Prop} (X : K.In s.heap) (I : ObjM s.heap x dx C mA) (hg : PySem.W.plainGet K C name = true) (hh : PySem.W.hasDictIn K C = true)
    (ha : PySem.W.findIn K (.ref C) name = some none) (hv : mA name = some v) (hv' : PySem.W.handedIn v = true) (h : Q v { s with toks := s.toks + 1 }) :
    wpAny (model prog w) A (getAttr (.ref x) name expr) Q E s := by
  obtain ⟨od, J, hl⟩ := I.look
  exact PySem.W.get_value X J (PySem.W.plainGet_of hg).1 (PySem.W.findObj_own hh ha rfl (by rw [hl, hv])) hv' h

theorem get_meth {pl : Sem Bool} {Q : Value × List Value → Shared → Prop} (X : K.In s.heap) (I : ObjM s.heap x dx C mA) (hg : PySem.W.plainGet K C name = true)
    (hf : PySem.W.findIn K (.ref C) name = some (some (.ref f))) (ht : PySem.W.isFn K (.ref f) = true) (hv : mA name = none) (h : Q (.ref f, [.ref x]) s) :
    wpAny (model prog w) A (getMethod (.ref x) name pl) Q E s := by
  obtain ⟨od, J, hl⟩ := I.look
  exact PySem.W.method_fn X J (PySem.W.plainGet_of hg).1 (PySem.W.plainGet_of hg).2 hf (beq_iff_eq.mp ht) (by show (PySem.W.lookIn name od).map (·.isSome) = some false; rw [hl, hv]; rfl) h

theorem set_map {ns : List Str} {Q : Unit → Shared → Prop} (X : K.In s.heap) (I : ObjM s.heap x dx C mA)
    (hs : PySem.W.findIn K (.ref C) "__setattr__" = some (some (.builtin "object.__setattr__"))) (hp : PySem.W.plainOver K C = true) (ht : PySem.W.takerIn K C name = some none) (hh : PySem.W.hasDictIn K C = true)
    (hw : PySem.Within mA ns) (hsz : ns.length ≤ sizeLine)
    (h : ∀ h', ObjM h' x dx C (fun y => if y = name then some v else mA y) → Heap.SameBut dx s.heap h' → Q () { s with heap := h', toks := s.toks + 2 }) :
    wpAny (model prog w) A (setAttr (.ref x) name v) Q E s := by
  obtain ⟨od, J, hl⟩ := I.look
  refine PySem.W.set_plain X J hs (PySem.W.osa_open (s := { s with toks := s.toks + 1 }) (r := none) X J hp ht fun b => ?_)
  obtain ⟨cd, hc, hd'⟩ := PySem.W.any_some hh
  have hx : s.heap.get? x = some ⟨.ref C, some dx, .plain, #[]⟩ := I.obj
  refine wpAny_bind (wpAny_pure (wpAny_bind (wpAny_bind (wpAny_loadPart hx (wpAny_bind (PySem.W.Looks.here (s := { s with toks := s.toks + 1 }) (PySem.W.looks_clsIn X hc) ?_))))))
  rw [hd']
  refine wpAny_pure (a := some dx) (wpAny_bind (wpAny_pure (wpAny_bind ?_)))
  refine wpAny_nsSet1 (s := { s with toks := s.toks + 1 }) I.ns fun h' hn2 hs2 => ?_
  obtain ⟨oD, esD, epD, hoD, hdD, hcD⟩ := hn2.count (PySem.Within.cons name v hw)
  refine wpAny_bind (wpAny_lookBehind hoD (by rw [hdD]; exact pastItsLine_dict (Nat.le_trans hcD (by rw [List.length_cons]; omega))) ?_)
  exact wpAny_pure (h _ ⟨(hs2.2 _ (Ne.symm I.ne)).trans I.obj, hn2, I.ne⟩ hs2)

/-- C(..): the dict at the heap's end, the instance behind it; then its __init__ -/
theorem make_map {R : Result → Shared → Prop} {vs : List Value} {kw : List (Str × Value)} (X : K.In s.heap) (hm : PySem.W.makesIn K C = true)
    (hi : PySem.W.findIn K (.ref C) "__init__" = some (some (.ref f))) (hf : PySem.W.typeIn K (.ref f) = some (.type "function"))
    (h : codeAny (model prog w) (A.under (.builtin "type.__call__" ⟨.ref C :: vs, kw⟩)) (.call (.ref f) ⟨.ref (s.heap.objs.size + 1) :: vs, kw⟩) (PySem.W.InitBack (s.heap.objs.size + 1) R)
      { s with heap := (s.heap.push PySem.W.emptyDict).push (PySem.W.instObj C s.heap.objs.size) }) :
    codeAny (model prog w) A (.call (.ref C) ⟨vs, kw⟩) R s := by
  obtain ⟨hh, g, d, t, os⟩ := s
  exact PySem.W.make_core (PySem.W.makes_of X hm) (PySem.W.looks_findIn X hi) (fun self => PySem.W.bind_fn X self hf) (.inl rfl) h
end

/-! ### the attributes as a list of pairs -/
def putF (f : Str) (v : V) : List (Str × V) → List (Str × V)
  | [] => [(f, v)]
  | (g, x) :: r => if g = f then (g, v) :: r else (g, x) :: putF f v r
theorem lookup_putF (f g : Str) (v : V) : ∀ fs : List (Str × V), (putF f v fs).lookup g = if g = f then some v else fs.lookup g
  | [] => by
    show List.lookup g [(f, v)] = _
    by_cases h : g = f
    · have hb : (g == f) = true := beq_iff_eq.mpr h
      simp only [List.lookup, hb, if_pos h]
    · have hb : (g == f) = false := beq_eq_false_iff_ne.mpr h
      simp only [List.lookup, hb, if_neg h]
  | (k, x) :: r => by
    have ih := lookup_putF f g v r
    rw [show putF f v ((k, x) :: r) = (if k = f then (k, v) :: r else (k, x) :: putF f v r) from rfl]
    by_cases hk : k = f
    · rw [if_pos hk]
      by_cases h : g = k
      · have hb : (g == k) = true := beq_iff_eq.mpr h
        simp only [List.lookup, hb, if_pos (h.trans hk)]
      · have hb : (g == k) = false := beq_eq_false_iff_ne.mpr h
        simp only [List.lookup, hb, if_neg (fun e : g = f => h (e.trans hk.symm))]
    · rw [if_neg hk]
      by_cases h : g = k
      · have hb : (g == k) = true := beq_iff_eq.mpr h
        simp only [List.lookup, hb, if_neg (fun e : g = f => hk (h.symm.trans e))]
      · have hb : (g == k) = false := beq_eq_false_iff_ne.mpr h
        simp only [List.lookup, hb]
        exact ih
theorem keys_putF (f : Str) (v : V) : ∀ fs : List (Str × V), f ∈ (putF f v fs).map (·.1) ∧ ∀ g, g ∈ fs.map (·.1) → g ∈ (putF f v fs).map (·.1)
  | [] => ⟨by simp [putF], fun g h => by simp at h⟩
  | (k, x) :: r => by
    obtain ⟨i1, i2⟩ := keys_putF f v r
    rw [show putF f v ((k, x) :: r) = (if k = f then (k, v) :: r else (k, x) :: putF f v r) from rfl]
    by_cases hk : k = f
    · rw [if_pos hk]
      subst hk
      exact ⟨by simp, fun g h => by simpa using h⟩
    · rw [if_neg hk]
      refine ⟨?_, fun g h => ?_⟩
      · rw [List.map_cons]
        exact List.mem_cons_of_mem _ i1
      · rw [List.map_cons] at h ⊢
        rcases List.mem_cons.mp h with e | e
        · exact List.mem_cons.mpr (.inl e)
        · exact List.mem_cons_of_mem _ (i2 g e)
theorem length_putF (f : Str) (v : V) : ∀ fs : List (Str × V), (putF f v fs).length ≤ fs.length + 1
  | [] => by simp [putF]
  | (k, x) :: r => by
    have ih := length_putF f v r
    rw [show putF f v ((k, x) :: r) = (if k = f then (k, v) :: r else (k, x) :: putF f v r) from rfl]
    by_cases hk : k = f
    · rw [if_pos hk, List.length_cons, List.length_cons]; omega
    · rw [if_neg hk, List.length_cons, List.length_cons]; omega

theorem RelO.some_of {v : V} {o : Option Value} (r : RelO (some v) o) : ∃ u, o = some u ∧ RelV v u := by
  cases o with
  | none => exact (show False from r).elim
  | some u => exact ⟨u, rfl, r⟩
theorem RelO.none_of {o : Option Value} (r : RelO none o) : o = none := by
  cases o with
  | none => rfl
  | some u => exact (show False from r).elim
theorem handed_of {v : V} {u : Value} (r : RelV v u) : PySem.W.handedIn u = true := by
  cases v with
  | non => cases (show u = Value.none from r); rfl
  | bl b => cases (show u = Value.bool b from r); rfl
  | int i => obtain ⟨t, e⟩ := (show ∃ t, u = Value.int i t from r); cases e; rfl
  | str x => obtain ⟨t, e⟩ := (show ∃ t, u = Value.str x t from r); cases e; rfl
  | byt b => obtain ⟨t, e⟩ := (show ∃ t, u = Value.bytes b t from r); cases e; rfl
  | flt b => obtain ⟨t, e⟩ := (show ∃ t, u = Value.float b t from r); cases e; rfl
  | ref a => cases (show u = Value.ref a from r); rfl
  | ty n => cases (show u = Value.type n from r); rfl

section
variable {P : Program} {w : World} {H H' : Hp} {h h' : Heap} {a C dx : Addr} {fs fs' : List (Str × V)}
theorem ins_get (hok : HOk P w H h) (e : H a = some (.ins C dx fs)) : ∃ mA, ObjM h a dx C mA ∧ (∀ f, RelO (fs.lookup f) (mA f)) ∧ PySem.Within mA (fs.map (·.1)) ∧ fs.length ≤ 1000 ∧ H dx = some (.own a) := by
  obtain ⟨d, z, ne, ob, mA, n, r, q⟩ := (show ObjOk P w H h a (.ins C dx fs) from hok a _ e)
  exact ⟨mA, ⟨ob, n, ne⟩, r, q, z, d⟩
end

/-! ### what of the text a class must have -/
structure Cls (K : PySem.W.Frag) (C : Addr) : Prop where
  pg : PySem.W.plainGet K C Str.empty = true
  hd : PySem.W.hasDictIn K C = true
  po : PySem.W.plainOver K C = true
  sa : PySem.W.findIn K (.ref C) "__setattr__" = some (some (.builtin "object.__setattr__"))
theorem Cls.get {K : PySem.W.Frag} {C : Addr} (c : Cls K C) (f : Str) : PySem.W.plainGet K C f = true := c.pg
/-- no class of it has the name -/
def NoAttr (K : PySem.W.Frag) (C : Addr) (f : Str) : Prop := PySem.W.findIn K (.ref C) f = some none
theorem NoAttr.taker {K : PySem.W.Frag} {C : Addr} {f : Str} (n : NoAttr K C f) : PySem.W.takerIn K C f = some none := by
  unfold PySem.W.takerIn
  rw [show PySem.W.findIn K (.ref C) f = some none from n]
  rfl
/-- a constant of the class -/
structure Con (K : PySem.W.Frag) (C : Addr) (f : Str) (v : V) (u : Value) : Prop where
  at_ : PySem.W.findIn K (.ref C) f = some (some u)
  rel : RelV v u
  get : PySem.W.specialIn K u "__get__" = some none
  cp : PySem.W.copiedNames.contains f = false
/-- a method: a plain def of the class or of one above it -/
structure Meth (K : PySem.W.Frag) (C : Addr) (m : Str) (f : Addr) : Prop where
  at_ : PySem.W.findIn K (.ref C) m = some (some (.ref f))
  fn : PySem.W.isFn K (.ref f) = true
  kp : PySem.W.keepIn K (.ref f) = true

section
variable {X : Cx} {pins : List (Addr × Obj)} {σ : St} {H : Hp} {s : Shared} {a C dx : Addr} {fs : List (Str × V)} {f : Str} {v : V} {A : Around} {E : Value → Shared → Prop}

theorem getattr_ok {b : Bool} {Q : Value → Shared → Prop} (I : Inv X pins σ H s) (e : H a = some (.ins C dx fs)) (c : Cls X.K C) (n : NoAttr X.K C f) (l : fs.lookup f = some v)
    (h : ∀ u s', Inv X pins σ H s' → RelV v u → Q u s') : wpAny (model X.prog X.w) A (getAttr (.ref a) f b) Q E s := by
  obtain ⟨mA, O, r, _, _, _⟩ := ins_get I.hok e
  obtain ⟨u, hu, ru⟩ := RelO.some_of (v := v) (o := mA f) (by rw [← l]; exact r f)
  exact get_map I.kIn O (c.get f) c.hd n hu (handed_of ru) (h u _ (I.tok _) ru)

theorem getmeth_ok {m : Str} {g : Addr} {pl : Sem Bool} {Q : Value × List Value → Shared → Prop} (I : Inv X pins σ H s) (e : H a = some (.ins C dx fs)) (c : Cls X.K C) (k : Meth X.K C m g) (l : fs.lookup m = none)
    (h : Q (.ref g, [.ref a]) s) : wpAny (model X.prog X.w) A (getMethod (.ref a) m pl) Q E s := by
  obtain ⟨mA, O, r, _, _, _⟩ := ins_get I.hok e
  have hn : mA m = none := RelO.none_of (by rw [← l]; exact r m)
  exact get_meth I.kIn O (c.get m) k.at_ k.fn hn h

theorem setattr_ok {y : V} {u : Value} {Q : Unit → Shared → Prop} (I : Inv X pins σ H s) (e : H a = some (.ins C dx fs)) (c : Cls X.K C) (n : NoAttr X.K C f) (hl : fs.length < 1000) (ry : RelV y u)
    (h : ∀ s', Inv X pins σ (upd H a (.ins C dx (putF f y fs))) s' → Q () s') : wpAny (model X.prog X.w) A (setAttr (.ref a) f u) Q E s := by
  obtain ⟨mA, O, r, wi, _, ho⟩ := ins_get I.hok e
  have hz : (fs.map (·.1)).length ≤ sizeLine := by rw [List.length_map, sizeLine_eq]; omega
  refine set_map I.kIn O c.sa c.po n.taker c.hd wi hz fun h' O' sb => h _ ?_
  have hd : ∃ o, h'.get? dx = some o := let ⟨o, _, _, e', _⟩ := O'.ns; ⟨o, e'⟩
  refine I.write (x := a) (e := dx) (by rw [e]; exact True.intro) (.inr ho) (fun b q hb z => (sb.2 b hb).trans z) hd ?_
  refine ⟨by rw [upd_ne O.ne]; exact ho, ?_, O.ne, O'.obj, _, O'.ns, fun g => ?_, fun g hg => ?_⟩
  · have := length_putF f y fs; omega
  · show RelO ((putF f y fs).lookup g) (if g = f then some u else mA g)
    rw [lookup_putF]
    by_cases q : g = f
    · rw [if_pos q, if_pos q]; exact ry
    · rw [if_neg q, if_neg q]; exact r g
  · by_cases q : g = f
    · rw [q]; exact (keys_putF f y fs).1
    · refine (keys_putF f y fs).2 g (wi g fun z => hg ?_)
      show (if g = f then some u else mA g) = none
      rw [if_neg q]; exact z

/-- a new instance, tracked, without attributes -/
theorem Inv.made (I : Inv X pins σ H s) : Inv X pins σ (upd (upd H s.heap.objs.size (.own (s.heap.objs.size + 1))) (s.heap.objs.size + 1) (.ins C s.heap.objs.size []))
    { s with heap := (s.heap.push PySem.W.emptyDict).push (PySem.W.instObj C s.heap.objs.size) } := by
  have e1 : (s.heap.push PySem.W.emptyDict).get? s.heap.objs.size = some PySem.W.emptyDict := Heap.get?_push_size s.heap rfl
  have e2 : ((s.heap.push PySem.W.emptyDict).push (PySem.W.instObj C s.heap.objs.size)).get? (s.heap.objs.size + 1) = some (PySem.W.instObj C s.heap.objs.size) := by
    have := Heap.get?_push_size (s.heap.push PySem.W.emptyDict) (o := PySem.W.instObj C s.heap.objs.size) rfl
    rwa [Heap.size_push] at this
  have e3 : (s.heap.push PySem.W.emptyDict).Ns s.heap.objs.size (fun _ => none) := ⟨PySem.W.emptyDict, #[], _, e1, rfl, (fun e he => absurd he (by simp)), fun _ => rfl⟩
  have I1 := I.laid (a := s.heap.objs.size) (o := .own (s.heap.objs.size + 1)) (h' := s.heap.push PySem.W.emptyDict) (t' := s.toks) (fun b u q => Heap.get?_push_of_some _ q) (Nat.le_refl _) ⟨_, e1⟩
  refine I1.laid (a := s.heap.objs.size + 1) (o := .ins C s.heap.objs.size []) (t' := s.toks) (fun b u q => Heap.get?_push_of_some _ q) (Nat.le_of_eq (Heap.size_push _ _)) ?_
  have ne : s.heap.objs.size ≠ s.heap.objs.size + 1 := Nat.ne_of_lt (Nat.lt_succ_self _)
  refine ⟨by rw [upd_ne ne, upd_same], Nat.zero_le _, ne, e2, fun _ => none, (Heap.Ns1.of_empty e3).at fun o q => Heap.get?_push_of_some _ q, fun _ => True.intro, fun y hy => absurd rfl hy⟩

/-- e.f where nothing but the object is asked: through attributeBase (super) and the last hold -/
theorem attr_of {prog : Program} {w : World} {env : Env} {e : Expr} {f : Str} {pos : Pos} {s : Shared} {Q : Value → Shared → Prop} (hb : attributeBase e f env (eval e env) = eval e env)
    (h : wpAny (model prog w) A (eval e env) (fun o s₁ => wpAny (model prog w) A (getAttr o f true) Q E s₁) E s) : wpAny (model prog w) A (eval (.Attribute e f pos) env) Q E s :=
  Attribute_any_ h (by rw [arm_eval_Attribute, hb])
end

/-! ### readings and rules -/
/-- e.f, an attribute of the instance -/
def tFld (K : PySem.W.Frag) (ta : TE) (f : Str) : TE := fun σ H Q => ta σ H fun x H1 => ∃ a C dx fs v, x = .ref a ∧ H1 a = some (.ins C dx fs) ∧ Cls K C ∧ NoAttr K C f ∧ fs.lookup f = some v ∧ Q v H1
/-- e.f, a constant of the class -/
def tCon (K : PySem.W.Frag) (ta : TE) (f : Str) : TE := fun σ H Q => ta σ H fun x H1 => ∃ a C dx fs v u, x = .ref a ∧ H1 a = some (.ins C dx fs) ∧ Cls K C ∧ Con K C f v u ∧ fs.lookup f = none ∧ Q v H1
/-- e.f = value -/
def sFld (K : PySem.W.Frag) (ta tv : TE) (f : Str) : TS := fun D σ H => tv σ H fun y H1 => ta σ H1 fun x H2 => ∃ a C dx fs, x = .ref a ∧ H2 a = some (.ins C dx fs) ∧ Cls K C ∧ NoAttr K C f ∧ fs.length < 1000 ∧
  D.nx σ (upd H2 a (.ins C dx (putF f y fs)))
/-- an augmented operator on two values -/
def InOp (X : Cx) (op : Operator) (rd : V → V → Hp → VK → Prop) : Prop :=
  ∀ (pins : List (Addr × Obj)) (s : Shared) (σ : St) (H : Hp) (x y : V) (u v : Value) (Q : VK), Inv X pins σ H s → RelV x u → RelV y v → rd x y H Q → wpAny (model X.prog X.w) X.A (inplaceOp op u v) (EP X pins σ Q) X.xe s
/-- e.f op= value -/
def sFldAug (K : PySem.W.Frag) (ta tv : TE) (rd : V → V → Hp → VK → Prop) (f : Str) : TS := fun D σ H => ta σ H fun x H1 => ∃ a C dx fs v, x = .ref a ∧ H1 a = some (.ins C dx fs) ∧ Cls K C ∧ NoAttr K C f ∧ fs.lookup f = some v ∧
  tv σ H1 fun y H2 => rd v y H2 fun z H3 => ∃ dx' fs', H3 a = some (.ins C dx' fs') ∧ fs'.length < 1000 ∧ D.nx σ (upd H3 a (.ins C dx' (putF f z fs')))

section
variable {X : Cx} {o e value : Expr} {f : Str} {pos pos' tpos : Pos} {ta tv : TE}
theorem pe_fld (he : PE X e ta) (hb : attributeBase e f X.env (eval e X.env) = eval e X.env) : PE X (.Attribute e f pos) (tFld X.K ta f) := by
  intro pins s σ H Q I h
  refine attr_of hb (thn (he pins s σ H _ I h) fun u s1 ⟨x, H1, I1, rx, a, C, dx, fs, v, ex, ea, c, n, l, q⟩ => ?_)
  subst ex
  obtain rfl : u = Value.ref a := rx
  exact getattr_ok I1 ea c n l fun u' s2 I2 ru => ⟨v, H1, I2, ru, q⟩
theorem ps_fld (ha : PE X o ta) (hv : PE X value tv) (hs : swapsWith value (some (.Attribute o f pos')) pos.line X.env = pure false) : PS X (.Assign [.Attribute o f pos'] value pos) (sFld X.K ta tv f) := by
  intro pins s σ H D I h
  refine plainObj_wpAny_Assign_Attribute (thn (hv pins s σ H _ I h) fun u s1 ⟨y, H1, I1, ry, q⟩ => thn (ha pins s1 σ H1 _ I1 q) fun ov s2 ⟨x, H2, I2, rx, a, C, dx, fs, ex, ea, c, n, l, q2⟩ => ?_) hs
  subst ex
  obtain rfl : ov = Value.ref a := rx
  exact setattr_ok I2 ea c n l ry fun s3 I3 => ⟨σ, _, I3, q2⟩
def rAdd : V → V → Hp → VK → Prop := fun x y H Q => ∃ i j, x = .int i ∧ y = .int j ∧ Q (.int (i + j)) H
def rSub : V → V → Hp → VK → Prop := fun x y H Q => ∃ i j, x = .int i ∧ y = .int j ∧ Q (.int (i - j)) H
end

/-! ### isinstance -/
section
variable {X : Cx} {pins : List (Addr × Obj)} {σ : St} {H : Hp} {s : Shared} {A : Around} {E : Value → Shared → Prop} {Q : Value → Shared → Prop} {c : Value} {b : Bool}
/-- the type of a value, as the fragment's deciders take it; for an instance its class -/
inductive TyOf (K : PySem.W.Frag) (H : Hp) : V → Value → Prop where
  | non : TyOf K H .non (.type "NoneType")
  | bl (x : Bool) : TyOf K H (.bl x) (.type "bool")
  | int (i : Int) : TyOf K H (.int i) (.type "int")
  | str (x : Str) : TyOf K H (.str x) (.type "str")
  | flt (x : UInt64) : TyOf K H (.flt x) (.type "float")
  | lst {a : Addr} {xs : List V} (e : H a = some (.lst xs)) : TyOf K H (.ref a) (.type "list")
  | frz {a : Addr} {o : Obj} {xs : List V} (e : H a = some (.frz o (.lst xs))) : TyOf K H (.ref a) (.type "list")
  | tup {a : Addr} {xs : List V} (e : H a = some (.tup xs)) : TyOf K H (.ref a) (.type "tuple")
  | dK {a : Addr} {kvs : List (Key × V)} (e : H a = some (.dK kvs)) : TyOf K H (.ref a) (.type "dict")
  | dT {a : Addr} {kvs : List (List Key × V)} (e : H a = some (.dT kvs)) : TyOf K H (.ref a) (.type "dict")
  | ins {a C dx : Addr} {fs : List (Str × V)} (e : H a = some (.ins C dx fs)) (cl : Cls K C) (ha : PySem.W.findIn K (.ref C) "__class__" = some (some (.builtin "object.__class__")))
      (hn : PySem.W.specialIn K (.builtin "object.__class__") "__get__" = some (some (.builtin "getset_descriptor.__get__"))) (htk : PySem.W.takesIn K (.builtin "object.__class__") = some true)
      (hm : PySem.W.mroIn K C (.type "object") = some true) : TyOf K H (.ref a) (.ref C)
/-- isinstance(x, c) for one class c, a built-in or an own one: kitOne's answer -/
theorem isinst_ok {x : V} {u t : Value} (I : Inv X pins σ H s) (rx : RelV x u) (ty : TyOf X.K H x t) (e : PySem.W.kitOne X.K t c = some b) (h : ∀ tk, Q (.bool b) { s with toks := tk }) :
    wpAny (model X.prog X.w) A (call (.builtin "isinstance") [u, c]) Q E s := by
  cases ty with
  | non => cases (show u = Value.none from rx); exact PySem.W.kia_one PySem.W.kitx_none I.kIn True.intro e (fun z => nomatch z) h
  | bl y => cases (show u = Value.bool y from rx); exact PySem.W.kia_one PySem.W.kitx_bool I.kIn True.intro e (fun z => nomatch z) h
  | int i => obtain ⟨t, q⟩ := (show ∃ t, u = Value.int i t from rx); cases q; exact PySem.W.kia_one PySem.W.kitx_int I.kIn True.intro e (fun z => nomatch z) h
  | str y => obtain ⟨t, q⟩ := (show ∃ t, u = Value.str y t from rx); cases q; exact PySem.W.kia_one PySem.W.kitx_str I.kIn True.intro e (fun z => nomatch z) h
  | flt y => obtain ⟨t, q⟩ := (show ∃ t, u = Value.float y t from rx); cases q; exact PySem.W.kia_one PySem.W.kitx_float I.kIn True.intro e (fun z => nomatch z) h
  | @lst a xs ea =>
    cases (show u = Value.ref a from rx)
    obtain ⟨_, _, n, _, h1⟩ := (show ObjOk X.prog X.w H s.heap a (.lst xs) from I.hok a _ ea)
    exact PySem.W.kia_one PySem.W.kitx_list I.kIn ⟨_, h1, rfl⟩ e (fun z => nomatch z) h
  | @frz a ob xs ea =>
    cases (show u = Value.ref a from rx)
    obtain ⟨_, _, _, n, _, h1⟩ := (show ObjOk X.prog X.w H s.heap a (.frz ob (.lst xs)) from I.hok a _ ea)
    exact PySem.W.kia_one PySem.W.kitx_list I.kIn ⟨_, h1, rfl⟩ e (fun z => nomatch z) h
  | @tup a xs ea =>
    cases (show u = Value.ref a from rx)
    obtain ⟨_, _, _, p⟩ := (show ObjOk X.prog X.w H s.heap a (.tup xs) from I.hok a _ ea)
    obtain ⟨o, h1, h2, _⟩ := p
    exact PySem.W.kia_one PySem.W.kitx_tuple I.kIn ⟨o, h1, h2⟩ e (fun z => nomatch z) h
  | @dK a kvs ea =>
    cases (show u = Value.ref a from rx)
    obtain ⟨_, _, vs, _, p⟩ := (show ObjOk X.prog X.w H s.heap a (.dK kvs) from I.hok a _ ea)
    obtain ⟨o, es, ep, h1, h2, _⟩ := p
    exact PySem.W.kia_one PySem.W.kitx_dict I.kIn ⟨o, h1, h2.1⟩ e (fun z => nomatch z) h
  | @dT a kvs ea =>
    cases (show u = Value.ref a from rx)
    obtain ⟨_, _, xs, _, o, es, ep, h1, h2, _⟩ := (show ObjOk X.prog X.w H s.heap a (.dT kvs) from I.hok a _ ea)
    exact PySem.W.kia_one PySem.W.kitx_dict I.kIn ⟨o, h1, h2.1⟩ e (fun z => nomatch z) h
  | @ins a C dx fs ea cl ha hn htk hm =>
    cases (show u = Value.ref a from rx)
    obtain ⟨mA, O, _⟩ := ins_get I.hok ea
    obtain ⟨od, J, _⟩ := O.look
    exact PySem.W.kia_one (PySem.W.kitx_own (cl.get _) cl.hd ha hn htk hm) I.kIn J e (fun z => nomatch z) h
end
end L2

namespace L2
open PySem PySem.Spec PyProof.Rows

/-! ### room -/
structure Room (k : Nat) (A : Around) : Prop where
  hd : A.handled = none
  dp : A.depth + 3 * k + 5 < recursionLimit
  un : A.units + 16 * k + 200 < cLine
theorem Room.mono {j k : Nat} {A : Around} (r : Room k A) (h : j ≤ k) : Room j A := ⟨r.hd, by have := r.dp; omega, by have := r.un; omega⟩
theorem Room.deeper {k : Nat} {A : Around} (r : Room (k + 1) A) (env : Env) : Room k (A.deeper env) :=
  ⟨r.hd, by have := r.dp; show A.depth + 1 + 3 * k + 5 < _; omega, by have := r.un; show A.units + 3 + 16 * k + 200 < _; omega⟩
theorem Room.in1 {k : Nat} {A : Around} (r : Room (k + 1) A) : Room k A.in1 :=
  ⟨r.hd, by have := r.dp; show A.depth + 3 * k + 5 < _; omega, by have := r.un; show A.units + 1 + 16 * k + 200 < _; omega⟩
theorem make_depth {A : Around} {C : Addr} {us : List Value} {kw : List (Str × Value)} : (A.under (.builtin "type.__call__" ⟨.ref C :: us, kw⟩)).depth = A.depth + 1 := by
  first | rfl | simp [Around.under, Code.weight, Code.isCreation, Code.isGuard, Code.isCaller, Code.frames, Code.isFrame, guardIds]
theorem make_units {A : Around} {C : Addr} {us : List Value} {kw : List (Str × Value)} : (A.under (.builtin "type.__call__" ⟨.ref C :: us, kw⟩)).units = A.units + 1 := by
  first | rfl | simp [Around.under, Code.cUnits, Code.frames, Code.isFrame]
theorem Room.make {k : Nat} {A : Around} (r : Room (k + 1) A) (C : Addr) (us : List Value) (kw : List (Str × Value)) : Room k (A.under (.builtin "type.__call__" ⟨.ref C :: us, kw⟩)) :=
  ⟨r.hd, by have := r.dp; rw [make_depth]; omega, by have := r.un; rw [make_units]; omega⟩
theorem Room.depth {k : Nat} {A : Around} (r : Room k A) : A.depth < recursionLimit := by have := r.dp; omega
theorem Room.units {k : Nat} {A : Around} (r : Room k A) : A.units + 64 < cLine := by have := r.un; omega
/-! ### argument lists and displays -/
def tNil : TA := fun _ H Q => Q [] H
def tCons (ta : TE) (tr : TA) : TA := fun σ H Q => ta σ H fun x H1 => tr σ H1 fun xs H2 => Q (x :: xs) H2
section
variable {X : Cx} {e : Expr} {es : List Expr} {te : TE} {t : TA} {pos : Pos}
theorem pa_nil : PA X [] tNil := fun _ _ _ _ H Q I h => Calls.spliced_nil ⟨[], H, I, .nil, h⟩
theorem pa_cons (ha : PE X e te) (hr : PA X es t) (hs : starEach (e :: es) X.env = (false, eval e X.env) :: starEach es X.env := by rfl) : PA X (e :: es) (tCons te t) := by
  intro pos pins s σ H Q I h
  rw [hs]
  show wpAny _ _ (spliced ((false, eval e X.env) :: backTo pos (starEach es X.env))) _ _ s
  refine Calls.spliced_cons (thn (ha pins s σ H _ I h) fun u s1 ⟨x, H1, I1, r1, q1⟩ => ?_)
  exact thn (hr pos pins s1 σ H1 _ I1 q1) fun us s2 ⟨xs, H2, I2, r2, q2⟩ => ⟨x :: xs, H2, I2, .cons r1 r2, q2⟩

/-- a tuple, a list of written items -/
def tTup (t : TA) : TE := fun σ H Q => t σ H fun xs H1 => xs.length ≤ sizeLine ∧ ∀ p, H1 p = none → Q (.ref p) (upd H1 p (.tup xs))
def tLst (t : TA) : TE := fun σ H Q => t σ H fun xs H1 => xs.length ≤ sizeLine ∧ ∀ p, H1 p = none → Q (.ref p) (upd H1 p (.lst xs))
theorem pe_tup {x1} (h : PA X es t) : PE X (.Tuple es x1 pos) (tTup t) := by
  intro pins s σ H Q I hq
  refine wpAny_Tuple_spliced (thn (h pos pins s σ H _ I hq) fun us s1 ⟨xs, H1, I1, r, z, q⟩ => ⟨by rw [← r.length]; exact z, ?_⟩)
  have hf : H1 s1.heap.objs.size = none := I1.hok.fresh (Nat.le_refl _)
  refine ⟨.ref s1.heap.objs.size, upd H1 s1.heap.objs.size (.tup xs), I1.laid (t' := s1.toks) (fun b u e => Heap.get?_push_of_some _ e) (Nat.le_refl _) ?_, rfl, q _ hf⟩
  exact ⟨z, us, r, ⟨_, Heap.get?_push_size _ rfl, rfl, _, rfl⟩⟩
theorem pe_lst (h : PA X es t) : PE X (.List es pos) (tLst t) := by
  intro pins s σ H Q I hq
  refine wpAny_List_spliced (thn (h pos pins s σ H _ I hq) fun us s1 ⟨xs, H1, I1, r, z, q⟩ => ⟨by rw [← r.length]; exact z, ?_⟩)
  have hf : H1 s1.heap.objs.size = none := I1.hok.fresh (Nat.le_refl _)
  refine ⟨.ref s1.heap.objs.size, upd H1 s1.heap.objs.size (.lst xs), I1.laid (t' := s1.toks) (fun b u e => Heap.get?_push_of_some _ e) (Nat.le_refl _) ?_, rfl, q _ hf⟩
  exact ⟨z, us, 0, r, Heap.get?_push_size _ rfl⟩
end

/-! ### what a def promises -/
/-- a def's promise: the bound arguments in the parameters' order, the heap, the wanted end, the wanted exception -/
abbrev Sp := List V → Hp → VK → XK → Prop
/-- how an exception lies behind a call (file 08 gives it): the callers' frames, abstract heap and state ahead of the call, the wish, the exception, the state -/
abbrev CXT := List Env → Hp → Shared → XK → Value → Shared → Prop

/-- the state at a call -/
structure Env0 (P : Program) (w : World) (K : PySem.W.Frag) (mg : Str → Option Value) (base : Heap) (A : Around) (outer : List Env) (s : Shared) (H : Hp) : Prop where
  frames : A.frames = some outer
  mod : Mod K mg base
  bs : ∀ b o, base.get? b = some o → s.heap.get? b = some o ∧ H b = none
  bsz : base.objs.size ≤ s.heap.objs.size
  funs : s.heap.FunFrames base outer
  frf : ∀ b ∈ frs outer, H b = none
  hok : HOk P w H s.heap
  bare : AllBare s.gens
/-- a call's end -/
def CE (outer : List Env) (P : Program) (w : World) (H : Hp) (s : Shared) (Q : VK) (u : Value) (s' : Shared) : Prop :=
  ∃ v H', s'.os = s.os ∧ AllBare s'.gens ∧ Un (frs outer) [] H H' s.heap s'.heap ∧ HOk P w H' s'.heap ∧ RelV v u ∧ Q v H'
def CR (CX : CXT) (outer : List Env) (P : Program) (w : World) (H : Hp) (s : Shared) (Q : VK) (E : XK) (r : Result) (s' : Shared) : Prop :=
  match r with
  | .ok (.ret u) => CE outer P w H s Q u s'
  | .ok _ => False
  | .error e => CX outer H s E e s'
structure FnOk (P : Program) (w : World) (K : PySem.W.Frag) (mg : Str → Option Value) (base : Heap) (CX : CXT) (k : Nat) (f : Addr) (fd : FuncData) (ps : List Str) (sp : Sp) : Prop where
  len : ∀ vs H Q E, sp vs H Q E → vs.length = ps.length
  run : ∀ (A : Around) (outer : List Env) (s : Shared) (H : Hp) (args : Args) (us : List Value) (vs : List V) (Q : VK) (E : XK), Room k A → Env0 P w K mg base A outer s H → BindsTo s fd args (ps.zip us) → Vals vs us → sp vs H Q E →
    codeAny (model P w) A (.call (.ref f) args) (CR CX outer P w H s Q E) s
theorem FnOk.mono {P : Program} {w : World} {K : PySem.W.Frag} {mg : Str → Option Value} {base : Heap} {CX : CXT} {j k : Nat} {f : Addr} {fd : FuncData} {ps : List Str} {sp : Sp} (F : FnOk P w K mg base CX j f fd ps sp) (h : j ≤ k) :
    FnOk P w K mg base CX k f fd ps sp := ⟨F.len, fun A outer s H args us vs Q E hr => F.run A outer s H args us vs Q E (hr.mono h)⟩
theorem Env0.make {P : Program} {w : World} {K : PySem.W.Frag} {mg : Str → Option Value} {base : Heap} {A : Around} {outer : List Env} {s : Shared} {H : Hp} (e : Env0 P w K mg base A outer s H) (C : Addr) (us : List Value) (kw : List (Str × Value)) :
    Env0 P w K mg base (A.under (.builtin "type.__call__" ⟨.ref C :: us, kw⟩)) outer s H := ⟨by first | exact e.frames | (simpa [Around.under, Code.envs, Code.isFrame, pushEnvs] using e.frames), e.mod, e.bs, e.bsz, e.funs, e.frf, e.hok, e.bare⟩
theorem Env0.in1 {P : Program} {w : World} {K : PySem.W.Frag} {mg : Str → Option Value} {base : Heap} {A : Around} {outer : List Env} {s : Shared} {H : Hp} (e : Env0 P w K mg base A outer s H) :
    Env0 P w K mg base A.in1 outer s H := ⟨e.frames, e.mod, e.bs, e.bsz, e.funs, e.frf, e.hok, e.bare⟩

section
variable {X : Cx} {pins : List (Addr × Obj)} {σ : St} {H : Hp} {s s' : Shared}
/-- from a body: what a callee wants -/
theorem Inv.env0 (I : Inv X pins σ H s) : Env0 X.prog X.w X.K X.mg X.base X.A X.stack s H :=
  ⟨I.ok.frames, I.ok.mod, I.bs, Nat.le_trans I.ok.bsz I.sz, I.stack, I.stkFree, I.hok, I.bare⟩
/-- behind a call -/
theorem Inv.after {Q : VK} {u : Value} (I : Inv X pins σ H s) (h : CE X.stack X.prog X.w H s Q u s') : EP X pins σ Q u s' := by
  obtain ⟨v, H', os, bare, un, hok, r, q⟩ := h
  obtain ⟨hh, g, d, t, os'⟩ := s'
  obtain rfl : os' = s.os := os
  exact ⟨v, H', I.call (h' := hh) (g' := g) (d' := d) (t' := t) (ch := []) un hok bare (fun b z => absurd z (by simp)), r, q⟩
end

/-! ### calls -/
/-- f(..): the written arguments, then the defaults dvs; E: what is wanted of an exception -/
def tCall (sp : Sp) (dvs : List V) (E : XK) (t : TA) : TE := fun σ H Q => t σ H fun vs H1 => sp (vs ++ dvs) H1 Q E
/-- o.m(..) of an instance of the class at C -/
def tMeth (C : Addr) (m : Str) (sp : Sp) (dvs : List V) (E : XK) (ta : TE) (t : TA) : TE := fun σ H Q => ta σ H fun x H1 => ∃ a dx fs, x = .ref a ∧ H1 a = some (.ins C dx fs) ∧ fs.lookup m = none ∧
  t σ H1 fun vs H2 => sp (x :: (vs ++ dvs)) H2 Q E
/-- C(..): a new instance and its dict, then __init__ -/
def tMake (C : Addr) (sp : Sp) (dvs : List V) (E : XK) (t : TA) : TE := fun σ H Q => t σ H fun vs H1 => ∀ x dx, H1 x = none → H1 dx = none → dx ≠ x →
  sp (.ref x :: (vs ++ dvs)) (upd (upd H1 dx (.own x)) x (.ins C dx [])) (fun v H2 => v = .non ∧ Q (.ref x) H2) E

/-- how the parameters are bound: us the positional arguments, kw the keywords' values by name, ds the defaults that fill up -/
def Binds (K : PySem.W.Frag) (fd : FuncData) (ps : List Str) (ds : List Value) : Prop :=
  ∀ (s : Shared) (us : List Value), K.In s.heap → (us ++ ds).length = ps.length → BindsTo s fd ⟨us, []⟩ (ps.zip (us ++ ds))
/-- every parameter is given -/
theorem Binds.all {K : PySem.W.Frag} {fd : FuncData} {ps : List Str} (h : ∀ us : List Value, us.length = ps.length → bindArgs fd ⟨us, []⟩ = pure (ps.zip us)) : Binds K fd ps [] := fun s us _ hl => by
  rw [List.append_nil] at hl ⊢
  exact .of_eq (h us hl)

/-- an exception of a callee reaches what this body wants of exceptions -/
def Passes (CX : CXT) (X : Cx) (E : XK) : Prop := ∀ (pins : List (Addr × Obj)) (σ : St) (H : Hp) (s : Shared) (e : Value) (s' : Shared), Inv X pins σ H s → CX X.stack H s E e s' → X.xe e s'

section
variable {X : Cx} {CX : CXT} {k : Nat} {f C : Addr} {fd : FuncData} {ps : List Str} {sp : Sp} {dvs : List V} {ds : List Value} {E : XK} {x m : Str} {p pos apos : Pos} {e o : Expr} {es : List Expr} {ta : TE} {t : TA}

/-- the callee runs -/
theorem run_fn {pins : List (Addr × Obj)} {σ : St} {H : Hp} {s : Shared} {Q : VK} {us : List Value} {vs : List V} (F : FnOk X.prog X.w X.K X.mg X.base CX k f fd ps sp) (hr : Room k X.A) (hb : Binds X.K fd ps ds) (hd : Vals dvs ds) (hx : Passes CX X E)
    (I : Inv X pins σ H s) (r : Vals vs us) (h : sp (vs ++ dvs) H Q E) : wpAny (model X.prog X.w) X.A (call (.ref f) us) (EP X pins σ Q) X.xe s := by
  have r2 : Vals (vs ++ dvs) (us ++ ds) := r.append hd
  have hl : (us ++ ds).length = ps.length := by rw [← r2.length]; exact F.len _ _ _ _ h
  refine wpAny_call (codeAny_mono (F.run X.A X.stack s H ⟨us, []⟩ (us ++ ds) (vs ++ dvs) Q E hr I.env0 (hb s us I.kIn hl) r2 h) fun r s' hq => ?_)
  cases r with
  | error e => exact hx pins σ H s e s' I hq
  | ok fl =>
    cases fl with
    | ret u => exact I.after hq
    | next => exact False.elim hq
    | brk => exact False.elim hq
    | cont => exact False.elim hq

theorem pe_call (F : FnOk X.prog X.w X.K X.mg X.base CX k f fd ps sp) (hr : Room k X.A) (hg : Gl X x) (hm : X.mg x = some (.ref f)) (hk : PySem.W.keepIn X.K (.ref f) = true) (hb : Binds X.K fd ps ds) (hd : Vals dvs ds) (hx : Passes CX X E)
    (ha : PA X (e :: es) t) (hdb : (x == ("__debug__" : Str)) = false := by decide) (he : starEach (e :: es) X.env = (false, eval e X.env) :: starEach es X.env := by rfl) (hpl : (backTo pos (starEach es X.env)).any (·.1) = false := by rfl) :
    PE X (.Call (.Name x p) (e :: es) [] pos) (tCall sp dvs E t) := by
  intro pins s σ H Q I h
  refine wpAny_Call_Name_kw (ld_glob I hg hm ?_ hdb)
  refine PySem.W.callWith_K (h₀ := X.base) I.ok.mod.kin hk (thn (ha pos pins s σ H _ I h) fun us s1 ⟨vs, H1, I1, r, q⟩ => ⟨I1.kIn, ?_⟩) he hpl
  exact run_fn F hr hb hd hx I1 r q
theorem pe_call0 (F : FnOk X.prog X.w X.K X.mg X.base CX k f fd ps sp) (hr : Room k X.A) (hg : Gl X x) (hm : X.mg x = some (.ref f)) (hk : PySem.W.keepIn X.K (.ref f) = true) (hb : Binds X.K fd ps ds) (hd : Vals dvs ds) (hx : Passes CX X E)
    (hdb : (x == ("__debug__" : Str)) = false := by decide) : PE X (.Call (.Name x p) [] [] pos) (tCall sp dvs E tNil) := by
  intro pins s σ H Q I h
  refine wpAny_Call_Name_kw (ld_glob I hg hm ?_ hdb)
  exact PySem.W.callWith_K0 I.kIn hk (run_fn (us := []) F hr hb hd hx I .nil h)

/-- what a class must have to be made -/
structure Mk (K : PySem.W.Frag) (C f : Addr) : Prop where
  makes : PySem.W.makesIn K C = true
  init : PySem.W.findIn K (.ref C) "__init__" = some (some (.ref f))
  fn : PySem.W.isFn K (.ref f) = true
  kp : PySem.W.keepIn K (.ref C) = true

theorem run_make {pins : List (Addr × Obj)} {σ : St} {H : Hp} {s : Shared} {Q : VK} {us : List Value} {vs : List V} (M : Mk X.K C f) (F : FnOk X.prog X.w X.K X.mg X.base CX k f fd ps sp) (hr : Room (k + 1) X.A) (hb : Binds X.K fd ps ds) (hd : Vals dvs ds)
    (hx : Passes CX X E) (I : Inv X pins σ H s) (r : Vals vs us)
    (h : ∀ x dx, H x = none → H dx = none → dx ≠ x → sp (.ref x :: (vs ++ dvs)) (upd (upd H dx (.own x)) x (.ins C dx [])) (fun v H2 => v = .non ∧ Q (.ref x) H2) E) :
    wpAny (model X.prog X.w) X.A (call (.ref C) us) (EP X pins σ Q) X.xe s := by
  have hq := h (s.heap.objs.size + 1) s.heap.objs.size (I.hok.fresh (Nat.le_succ _)) (I.hok.fresh (Nat.le_refl _)) (Nat.ne_of_lt (Nat.lt_succ_self _))
  have I2 := Inv.made (C := C) I
  have r2 : Vals (V.ref (s.heap.objs.size + 1) :: (vs ++ dvs)) (Value.ref (s.heap.objs.size + 1) :: (us ++ ds)) := .cons rfl (r.append hd)
  have hl : (Value.ref (s.heap.objs.size + 1) :: us ++ ds).length = ps.length := by
    have e := r2.length
    rw [F.len _ _ _ _ hq] at e
    exact e.symm
  refine wpAny_call (make_map (f := f) I.kIn M.makes M.init (beq_iff_eq.mp M.fn) (codeAny_mono (F.run _ X.stack _ _ ⟨Value.ref (s.heap.objs.size + 1) :: us, []⟩ (Value.ref (s.heap.objs.size + 1) :: (us ++ ds)) _ _ E (hr.make C us [])
    (I2.env0.make C us []) (hb _ (Value.ref (s.heap.objs.size + 1) :: us) I2.kIn hl) r2 hq) fun r s' hq' => ?_))
  cases r with
  | error e => exact hx pins σ _ _ e s' I2 hq'
  | ok fl =>
    cases fl with
    | ret u =>
      obtain ⟨v, H', I3, rv, ev, q3⟩ := I2.after hq'
      subst ev
      exact ⟨rv, ⟨V.ref (s.heap.objs.size + 1), H', I3, rfl, q3⟩⟩
    | next => exact False.elim hq'
    | brk => exact False.elim hq'
    | cont => exact False.elim hq'
theorem pe_make0 (M : Mk X.K C f) (F : FnOk X.prog X.w X.K X.mg X.base CX k f fd ps sp) (hr : Room (k + 1) X.A) (hg : Gl X x) (hm : X.mg x = some (.ref C)) (hb : Binds X.K fd ps ds) (hd : Vals dvs ds) (hx : Passes CX X E)
    (hdb : (x == ("__debug__" : Str)) = false := by decide) : PE X (.Call (.Name x p) [] [] pos) (tMake C sp dvs E tNil) := by
  intro pins s σ H Q I h
  refine wpAny_Call_Name_kw (ld_glob I hg hm ?_ hdb)
  exact PySem.W.callWith_K0 I.kIn M.kp (run_make (us := []) M F hr hb hd hx I .nil h)
end

/-! ### keywords -/
/-- the values of the keywords, from the left -/
def PK (X : Cx) (kws : List Keyword) (t : TA) : Prop :=
  ∀ (pos : Pos) (pins : List (Addr × Obj)) (s : Shared) (σ : St) (H : Hp) (Q : List V → Hp → Prop), Inv X pins σ H s → t σ H Q → wpAny (model X.prog X.w) X.A (evalAll ((backToKw pos (keywordEach kws X.env)).map (·.2))) (AP X pins σ Q) X.xe s
section
variable {X : Cx} {CX : CXT} {k : Nat} {f C : Addr} {fd : FuncData} {ps ks : List Str} {sp : Sp} {E : XK} {x m : Str} {p pos apos kpos : Pos} {e o : Expr} {es : List Expr} {kws : List Keyword} {te ta : TE} {t tk : TA} {nm : Option Str}
/-- how a call with keywords binds: g puts the positional values us and the keywords' values ws (names ks) in the parameters' order, defaults among them -/
structure KBinds (K : PySem.W.Frag) (fd : FuncData) (ps ks : List Str) (g : List Value → List Value → List Value) (gV : List V → List V → List V) : Prop where
  to : ∀ (s : Shared) (us ws : List Value), K.In s.heap → (g us ws).length = ps.length → BindsTo s fd ⟨us, ks.zip ws⟩ (ps.zip (g us ws))
  rel : ∀ {vs : List V} {us : List Value} {zs : List V} {ws : List Value}, Vals vs us → Vals zs ws → Vals (gV vs zs) (g us ws)
def tCallK (sp : Sp) (gV : List V → List V → List V) (E : XK) (t tk : TA) : TE := fun σ H Q => t σ H fun vs H1 => tk σ H1 fun zs H2 => sp (gV vs zs) H2 Q E
variable {g : List Value → List Value → List Value} {gV : List V → List V → List V}
end

/-! ### a def's body keeps its promise -/
/-- names: the parameters first -/
structure FnScope (N P : List Str) (sc : Scope) : Prop where
  kind : sc.kind = .function
  co : sc.isCoroutine = false
  gen : sc.isGenerator = false
  nd : N.Nodup
  pre : N.take P.length = P
  par : ∀ x ∈ P, sc.names.lookup x = some .local ∨ sc.names.lookup x = some .cell
  nofree : ∀ y ∈ sc.names, y.2 ≠ .free

theorem bindL_out {kindOf : Str → Option NameKind} {x : Str} : ∀ {binds : List (Str × Value)} {m : Str → Option Value}, (∀ v, (x, v) ∉ binds) → bindL kindOf binds m x = m x
  | [], _, _ => rfl
  | (n, v) :: r, m, h => by
    unfold bindL
    rw [bindL_out fun w hw => h w (List.mem_cons_of_mem _ hw)]
    split
    · have : x ≠ n := by rintro rfl; exact h v List.mem_cons_self
      simp [this]
    · rfl
theorem bindC_out {kindOf : Str → Option NameKind} {x : Str} : ∀ {binds : List (Str × Value)} {m : Str → Option Value}, (∀ v, (x, v) ∉ binds) → bindC kindOf binds m x = m x
  | [], _, _ => rfl
  | (n, v) :: r, m, h => by
    unfold bindC
    rw [bindC_out fun w hw => h w (List.mem_cons_of_mem _ hw)]
    split
    · rfl
    · have : x ≠ n := by rintro rfl; exact h v List.mem_cons_self
      simp [this]
theorem bindL_get {kindOf : Str → Option NameKind} {x : Str} {v : Value} : ∀ {P : List Str} {vs : List Value} {i : Nat} {m : Str → Option Value}, P.Nodup → P[i]? = some x → vs[i]? = some v → kindOf x = some .local →
    bindL kindOf (P.zip vs) m x = some v
  | [], _, _, _, _, h, _, _ => by simp at h
  | _ :: _, [], _, _, _, _, h, _ => by simp at h
  | p :: P, w :: vs, 0, m, nd, h1, h2, hk => by
    simp at h1 h2; subst h1; subst h2
    show bindL kindOf ((p, w) :: P.zip vs) m p = _
    unfold bindL
    rw [bindL_out fun v hv => (List.nodup_cons.mp nd).1 (List.of_mem_zip hv).1, if_pos hk]
    simp
  | p :: P, w :: vs, i + 1, m, nd, h1, h2, hk => by
    show bindL kindOf ((p, w) :: P.zip vs) m x = _
    unfold bindL
    exact bindL_get (i := i) (List.nodup_cons.mp nd).2 (by simpa using h1) (by simpa using h2) hk
theorem bindC_get {kindOf : Str → Option NameKind} {x : Str} {v : Value} : ∀ {P : List Str} {vs : List Value} {i : Nat} {m : Str → Option Value}, P.Nodup → P[i]? = some x → vs[i]? = some v → kindOf x ≠ some .local →
    bindC kindOf (P.zip vs) m x = some v
  | [], _, _, _, _, h, _, _ => by simp at h
  | _ :: _, [], _, _, _, _, h, _ => by simp at h
  | p :: P, w :: vs, 0, m, nd, h1, h2, hk => by
    simp at h1 h2; subst h1; subst h2
    show bindC kindOf ((p, w) :: P.zip vs) m p = _
    unfold bindC
    rw [bindC_out fun v hv => (List.nodup_cons.mp nd).1 (List.of_mem_zip hv).1, if_neg hk]
    simp
  | p :: P, w :: vs, i + 1, m, nd, h1, h2, hk => by
    show bindC kindOf ((p, w) :: P.zip vs) m x = _
    unfold bindC
    exact bindC_get (i := i) (List.nodup_cons.mp nd).2 (by simpa using h1) (by simpa using h2) hk

/-- the names' values at the entry -/
def start (N : List Str) (vs : List V) : St := vs.map some ++ List.replicate (N.length - vs.length) none

/-- the context of a def's body, at its entry; an exception leaves the frame, then lies as CX says -/
def cxOf (CX : CXT) (P : Program) (w : World) (K : PySem.W.Frag) (mg : Str → Option Value) (base : Heap) (N : List Str) (qual : Str) (scope : Scope) (f : Addr) (cd : Value) (A : Around) (outer : List Env) (s : Shared) (H : Hp) (E : XK) : Cx where
  prog := P
  w := w
  K := K
  mg := mg
  base := base
  A := A.deeper (envOfC qual scope s.heap.objs.size f cd)
  N := N
  s₀ := s
  H₀ := H
  env := envOfC qual scope s.heap.objs.size f cd
  outer := outer
  stack := envOfC qual scope s.heap.objs.size f cd :: outer
  ex := []
  calm := true
  fn := fun _ => true
  pn := []
  xe := fun e s' => wpAny (model P w) (A.deeper (envOfC qual scope s.heap.objs.size f cd)) (leaving (envOfC qual scope s.heap.objs.size f cd) e) (fun _ s'' => CX outer H s E e s'') (fun e' s'' => CX outer H s E e' s'') s'

theorem cell_has {sc : Scope} {n : Nat} {x : Str} (h : sc.names.lookup x = some .cell) : ∃ c, (cellsFrom n sc.names []).lookup x = some c := by
  have q := PySem.W.cellsFrom_some sc.names n [] (.inl h)
  exact Option.isSome_iff_exists.mp q

theorem inv_start {CX : CXT} {P : Program} {w : World} {K : PySem.W.Frag} {mg : Str → Option Value} {base : Heap} {N ps : List Str} {qual : Str} {scope : Scope} {f : Addr} {cd : Value} {A : Around} {outer : List Env} {s s1 : Shared} {H : Hp} {E : XK} {us : List Value} {vs : List V}
    (S : FnScope N ps scope) (hd : A.handled = none) (e0 : Env0 P w K mg base A outer s H) (hl : vs.length = ps.length) (r : Vals vs us)
    (x : InCallC s s.heap.objs.size (bindL (envOfC qual scope s.heap.objs.size f cd).kindOf (ps.zip us) fun _ => none) (cellsFrom (s.heap.objs.size + 1) scope.names []) (bindC (envOfC qual scope s.heap.objs.size f cd).kindOf (ps.zip us) fun _ => none) s1) :
    Inv (cxOf CX P w K mg base N qual scope f cd A outer s H E) [] (start N vs) H s1 := by
  have hpl : ps.length ≤ N.length := by have := congrArg List.length S.pre; rw [List.length_take] at this; omega
  obtain ⟨h1, tk, rfl, hk⟩ := x.done
  have noA : ∀ b : Addr, b ∉ (cxOf CX P w K mg base N qual scope f cd A outer s H E).ex := fun b z => absurd (show b ∈ ([] : List Addr) from z) (by simp)
  refine ⟨⟨e0.mod, S.kind, rfl, rfl, Nat.le_refl _, fun y z c h1 h2 => ?_, fun y hy => ?_, fun y c _ h => ?_, fun _ => hd, Around.frames_deeper e0.frames, .inr ⟨rfl, rfl⟩, fun b z => absurd z (noA b), e0.bs, e0.bsz, fun b _ _ => noA b, fun b z => absurd z (noA b), e0.funs, e0.frf⟩,
    rfl, e0.bare, Un.kept hk, ⟨_, x.toInCall.ns, fun i y v h1 h2 h3 => ?_⟩, fun y c h => ⟨_, x.cell y c h⟩, e0.hok.fresh (Nat.le_refl _), fun y c h => ?_, fun p hp => absurd (show p ∈ ([] : List (Addr × Obj)) from hp) (by simp), e0.hok.kept hk, ?_⟩
  · exact name_of_addr x.apart (PySem.mem_of_lookup h1) (PySem.mem_of_lookup h2)
  · have hy : scope.names.lookup y = some .cell ∨ scope.names.lookup y = some .free := hy
    rcases hy with hy | hy
    · exact cell_has hy
    · exact absurd rfl (S.nofree _ (PySem.mem_of_lookup hy))
  · exact Nat.le_of_lt (x.above y c (PySem.mem_of_lookup h))
  · have hi : i < vs.length := by
      unfold start at h2
      by_cases hi : i < vs.length
      · exact hi
      · rw [List.getElem?_append_right (by simpa using hi)] at h2
        rw [List.getElem?_replicate] at h2
        split at h2 <;> cases h2
    have ha : vs[i]? = some v := by
      unfold start at h2
      rw [List.getElem?_append_left (by simpa using hi), List.getElem?_map] at h2
      cases e : vs[i]? with
      | none => rw [e] at h2; cases h2
      | some a => rw [e] at h2; cases h2; rfl
    obtain ⟨u, hu, rv⟩ := r.get ha
    have hp : ps[i]? = some y := by
      rw [← S.pre, List.getElem?_take_of_lt (by omega)]; exact h1
    have ndP : ps.Nodup := by rw [← S.pre]; exact S.nd.sublist (List.take_sublist _ _)
    refine ⟨u, rv, ?_⟩
    rcases S.par y (List.mem_of_getElem? hp) with k | k
    · exact .inl ⟨k, bindL_get ndP hp hu k⟩
    · obtain ⟨c, e⟩ := cell_has (n := s.heap.objs.size + 1) k
      refine .inr ⟨.inl k, c, e, ?_⟩
      have q := x.cell y c e
      rw [bindC_get ndP hp hu (by show scope.names.lookup y ≠ _; rw [k]; decide)] at q
      exact q
  · exact e0.hok.fresh (Nat.le_of_lt (x.above y c (PySem.mem_of_lookup h)))
  · unfold start
    show _ = N.length
    rw [List.length_append, List.length_map, List.length_replicate]
    omega

/-- THE RULE: a def (or a method) of the text, by its body. The body's reading t is chosen for each entry; it is run at the parameters' values -/
theorem fn_of {CX : CXT} {P : Program} {w : World} {K : PySem.W.Frag} {mg : Str → Option Value} {base : Heap} {k : Nat} {f : Addr} {name qual : Str} {params : Arguments} {body : List Stmt} {scope : Scope} {dV kV doc pm cdv ct oc : Value} {an od : Option Addr}
    {osl : Array (Option Value)} {N ps : List Str} {sp : Sp} (lk : K.lookup f = some ⟨oc, od, .func (PySem.W.fnOf name qual params body scope dV kV doc pm an cdv ct), osl⟩) (hcd : PySem.W.codeIn K cdv qual = true) (S : FnScope N ps scope)
    (len : ∀ vs H Q E, sp vs H Q E → vs.length = ps.length)
    (hbody : ∀ (A : Around) (outer : List Env) (s : Shared) (H : Hp) (vs : List V) (Q : VK) (E : XK), Room k (A.deeper (envOfC qual scope s.heap.objs.size f cdv)) → sp vs H Q E →
      ∃ t, PSs (cxOf CX P w K mg base N qual scope f cdv A outer s H E) body t ∧ t { nx := fun _ H' => Q .non H', rt := Q } (start N vs) H) :
    FnOk P w K mg base CX (k + 1) f (PySem.W.fnOf name qual params body scope dV kV doc pm an cdv ct) ps sp := by
  refine ⟨len, fun A outer s H args us vs Q E hr e0 hb r hsp => ?_⟩
  have hl := len _ _ _ _ hsp
  have KX : K.In s.heap := e0.mod.kin.keeps fun b o e => (e0.bs b o e).1
  have lim : s.heap.NoLimit := e0.mod.nolimit.keeps fun b o e => (e0.bs b o e).1
  have hkind : ∀ y ∈ ps.zip us, scope.names.lookup y.1 = some .local ∨ (scope.names.lookup y.1 = some .cell ∧ ((cellsFrom (s.heap.objs.size + 1) scope.names []).lookup y.1).isSome = true) := fun ⟨n, v⟩ hy => by
    rcases S.par n (List.of_mem_zip hy).1 with q | q
    · exact .inl q
    · exact .inr ⟨q, PySem.W.cellsFrom_some _ _ _ (.inl q)⟩
  refine codeAny_call_function hr.depth (KX _ _ lk) rfl S.co S.gen rfl (PySem.W.codeRec_of KX hcd) (hb _ _ _ _ ?_)
  refine wpAny_newFunctionEnv_cells S.kind hkind fun env he s1 x => ?_
  subst he
  refine ⟨lim.keeps x.toInCall.keep, codeAny_func ?_⟩
  obtain ⟨t, ht, hq⟩ := hbody A outer s H vs Q E (hr.deeper _) hsp
  have I : Inv (cxOf CX P w K mg base N qual scope f cdv A outer s H E) [] (start N vs) H s1 := inv_start S hr.hd e0 hl r x
  refine wpAny_mono (ht [] s1 (start N vs) H _ I hq) (fun fl s' hs => ?_) fun e s' hs => hs
  have fin : ∀ {σ' : St} {H' : Hp} {v : V} {u : Value}, Inv (cxOf CX P w K mg base N qual scope f cdv A outer s H E) [] σ' H' s' → RelV v u → Q v H' → CE outer P w H s Q u s' :=
    fun {σ' H' v u} J rv q => ⟨v, H', J.os, J.bare, J.base, J.hok, rv, q⟩
  cases fl with
  | ret u =>
    obtain ⟨v, σ', H', J, rv, q⟩ := hs
    exact fin J rv q
  | next =>
    obtain ⟨σ', H', J, q⟩ := hs
    exact fin (v := V.non) (u := Value.none) J rfl q
  | brk =>
    obtain ⟨_, _, _, q⟩ := hs
    exact False.elim q
  | cont =>
    obtain ⟨_, _, _, q⟩ := hs
    exact False.elim q
end L2

namespace L2
open PySem PySem.Spec PyProof.Rows
section
variable {X : Cx} {x : Str} {p pos : Pos} {e : Expr} {es : List Expr} {t : TA} {id T : String} {r : List V → Hp → VK → Prop}

def tCB (r : List V → Hp → VK → Prop) (t : TA) : TE := fun σ H Q => t σ H fun vs H1 => r vs H1 Q
/-- f(e, ..), f a built-in function -/
theorem pe_callB (hc : CallR X (.builtin id) r) (hg : Gl X x) (hm : X.mg x = none) (hv : bootBuiltins x = some (.builtin id)) (ha : PA X (e :: es) t) (hn : x ≠ "__name__" := by decide) (hdb : (x == ("__debug__" : Str)) = false := by decide)
    (he : starEach (e :: es) X.env = (false, eval e X.env) :: starEach es X.env := by rfl) (hpl : (backTo pos (starEach es X.env)).any (·.1) = false := by rfl) : PE X (.Call (.Name x p) (e :: es) [] pos) (tCB r t) := by
  intro pins s σ H Q I h
  refine wpAny_Call_Name_kw (ld_blt I hg hm hv ?_ hn hdb)
  exact PyProof.Rows.callWith_builtin1 (thn (ha pos pins s σ H _ I h) fun us s1 ⟨vs, H1, I1, r1, q1⟩ => hc pins s1 σ H1 vs us Q I1 r1 q1) he hpl
/-- T(e, ..), T a built-in type -/
theorem pe_callTy (hc : CallR X (.type T) r) (hg : Gl X x) (hm : X.mg x = none) (hv : bootBuiltins x = some (.type T)) (ha : PA X (e :: es) t) (hn : x ≠ "__name__" := by decide) (hdb : (x == ("__debug__" : Str)) = false := by decide)
    (he : starEach (e :: es) X.env = (false, eval e X.env) :: starEach es X.env := by rfl) (hpl : (backTo pos (starEach es X.env)).any (·.1) = false := by rfl) : PE X (.Call (.Name x p) (e :: es) [] pos) (tCB r t) := by
  intro pins s σ H Q I h
  refine wpAny_Call_Name_kw (ld_blt I hg hm hv ?_ hn hdb)
  exact PyProof.Rows.callWith_type1 (thn (ha pos pins s σ H _ I h) fun us s1 ⟨vs, H1, I1, r1, q1⟩ => hc pins s1 σ H1 vs us Q I1 r1 q1) he hpl
end
end L2

namespace HT
open PySem PyProof.Rows

/-- t < u of tuples of ints -/
def lexLt : List Int → List Int → Bool
  | [], [] => false
  | [], _ :: _ => true
  | _ :: _, [] => false
  | x :: xs, y :: ys => if x = y then lexLt xs ys else decide (x < y)
section
open PySem.SeqAt
open PySem.AutoSeq1 (wpAny_loadPart')
open PySem.MeetsSeq PySem.MeetsSeq2 PySem.MeetsSeq3

end

section
variable {prog : Program} {w : World} {A : Around} {E : Value → Shared → Prop} {s : Shared}

/-! ### t[a:b], not the whole -/
/-- a slice's bound as a place among n (d where it is left out) -/
def sIx (n d : Nat) : Option Int → Nat
  | none => d
  | some v => if v < 0 then (v + (n : Int)).toNat else min v.toNat n
theorem sIx_none (n d : Nat) : sIx n d none = d := rfl
theorem sIx_nat (n d k : Nat) : sIx n d (some (k : Int)) = min k n := by
  show (if (k : Int) < 0 then ((k : Int) + (n : Int)).toNat else min (k : Int).toNat n) = min k n
  rw [if_neg (by omega), Int.toNat_natCast]
end
end HT

namespace L2
open PySem PySem.Spec PyProof.Rows

/-! ### the parts of a slice -/
abbrev TO := St → Hp → (Option Int → Hp → Prop) → Prop
/-- a slice's part (left out, or an int) -/
def PO (X : Cx) (e : Option Expr) (t : TO) : Prop :=
  ∀ (pins : List (Addr × Obj)) (s : Shared) (σ : St) (H : Hp) (Q : Option Int → Hp → Prop), Inv X pins σ H s → t σ H Q →
    wpAny (model X.prog X.w) X.A (evalPart e X.env) (fun u s' => ∃ o H', Inv X pins σ H' s' ∧ IsPart u o ∧ Q o H') X.xe s
def tNoPart : TO := fun _ H Q => Q none H
def tPart (t : TE) : TO := fun σ H Q => t σ H fun x H1 => ∃ i, x = .int i ∧ Q (some i) H1

section
variable {X : Cx} {e : Expr} {te : TE} {lo hi : Option Expr} {tl th : TO} {pos p2 : Pos}

theorem po_none : PO X none tNoPart := by
  intro pins s σ H Q I h
  rw [evalPart_none]
  exact wpAny_pure ⟨none, H, I, .none, h⟩
theorem po_some (h : PE X e te) : PO X (some e) (tPart te) := by
  intro pins s σ H Q I hw
  rw [evalPart_some]
  refine thn (h pins s σ H _ I hw) fun u s1 ⟨x, H1, I1, r1, q1⟩ => ?_
  obtain ⟨i, rfl, q⟩ := q1
  obtain ⟨t, rfl⟩ := r1
  exact ⟨some i, H1, I1, .int i t, q⟩

/-- what a slice of a value is, by values: the slice object stands at sl -/
def SlR (X : Cx) (r : V → Option Int → Option Int → Hp → VK → Prop) : Prop :=
  ∀ (pins : List (Addr × Obj)) (s : Shared) (σ : St) (H : Hp) (x : V) (v vl vu : Value) (lo hi : Option Int) (sl : Addr) (Q : VK), Inv X pins σ H s → RelV x v → s.heap.IsSliceOf sl vl vu .none → IsPart vl lo → IsPart vu hi → r x lo hi H Q →
    ∃ T id, typeLookup (.type T) "__getitem__" = pure (some (.builtin id)) ∧ s.TypeIs v T ∧ wpAny (model X.prog X.w) X.A (getItem v (.ref sl)) (EP X pins σ Q) X.xe s
theorem SlR.or {r r' : V → Option Int → Option Int → Hp → VK → Prop} (h : SlR X r) (h' : SlR X r') : SlR X (fun x lo hi H Q => r x lo hi H Q ∨ r' x lo hi H Q) := by
  intro pins s σ H x v vl vu lo hi sl Q I rx hs pl pu q
  rcases q with q | q
  · exact h pins s σ H x v vl vu lo hi sl Q I rx hs pl pu q
  · exact h' pins s σ H x v vl vu lo hi sl Q I rx hs pl pu q
def tSl (r : V → Option Int → Option Int → Hp → VK → Prop) (te : TE) (tl th : TO) : TE := fun σ H Q => te σ H fun x H1 => tl σ H1 fun l H2 => th σ H2 fun u H3 => r x l u H3 Q
/-- a[lo:hi], any a -/
theorem pe_slice {r : V → Option Int → Option Int → Hp → VK → Prop} (hr : SlR X r) (he : PE X e te) (hl : PO X lo tl) (hu : PO X hi th) : PE X (.Subscript e (.Slice lo hi none p2) pos) (tSl r te tl th) := by
  intro pins s σ H Q I h
  refine Subscript_ (thn (he pins s σ H _ I h) fun v s1 ⟨x, H1, I1, r1, q1⟩ => ?_)
  refine wpAny_Slice (thn (hl pins s1 σ H1 _ I1 q1) fun vl s2 ⟨l, H2, I2, pl, q2⟩ => thn (hu pins s2 σ H2 _ I2 q2) fun vu s3 ⟨u, H3, I3, pu, q3⟩ => ?_)
  rw [evalPart_none]
  refine wpAny_pure ?_
  have I4 : Inv X pins σ H3 { s3 with heap := s3.heap.push { cls := .type "slice", data := .fields #[vl, vu, .none] } } := I3.kept (t' := s3.toks) fun b ob q => Heap.get?_push_of_some _ q
  obtain ⟨T, id, hT, ht, hg⟩ := hr pins { s3 with heap := s3.heap.push { cls := .type "slice", data := .fields #[vl, vu, .none] } } σ H3 x v vl vu l u s3.heap.objs.size Q I4 r1 (Heap.IsSliceOf.new ..) pl pu q3
  show wpAny (model X.prog X.w) X.A (subscriptTail e (.Slice lo hi none p2) v (.ref s3.heap.objs.size)) (EP X pins σ Q) X.xe { s3 with heap := s3.heap.push { cls := .type "slice", data := .fields #[vl, vu, .none] } }
  exact tail_any (ops := [.ref s3.heap.objs.size, v]) ht hT hg (by with_unfolding_all rfl)

/-- the items of xs[lo:hi] -/
def cutV (xs : List V) (lo hi : Option Int) : List V := (xs.drop (HT.sIx xs.length 0 lo)).take (HT.sIx xs.length xs.length hi - HT.sIx xs.length 0 lo)
theorem cutV_length (xs : List V) (lo hi : Option Int) : (cutV xs lo hi).length ≤ xs.length := by
  unfold cutV
  rw [List.length_take, List.length_drop]
  omega
/-- t[lo:hi], not the whole of it (the whole would be t itself) -/
def rSlT (K : PySem.W.Frag) : V → Option Int → Option Int → Hp → VK → Prop := fun x lo hi H Q => ∃ a xs, x = .ref a ∧ SqT K H a xs ∧
  ¬ (HT.sIx xs.length 0 lo = 0 ∧ HT.sIx xs.length xs.length hi = xs.length) ∧ ∀ p, H p = none → Q (.ref p) (upd H p (.tup (cutV xs lo hi)))
/-! ### t < u, t + u -/
def rLtT (K : PySem.W.Frag) : R2 := fun x y H Q => ∃ a b ns ms, x = .ref a ∧ y = .ref b ∧ SqT K H a (ns.map V.int) ∧ SqT K H b (ms.map V.int) ∧ Q (.bl (HT.lexLt ns ms)) H
/-- t + u, t not empty: u empty gives t itself -/
def rCatT (K : PySem.W.Frag) : R2 := fun x y H Q => ∃ a b xs ys, x = .ref a ∧ y = .ref b ∧ SqT K H a xs ∧ SqT K H b ys ∧ xs ≠ [] ∧ xs.length + ys.length ≤ sizeLine ∧
  (ys = [] → Q (.ref a) H) ∧ (ys ≠ [] → ∀ p, H p = none → Q (.ref p) (upd H p (.tup (xs ++ ys))))
end
end L2

namespace L2
open PySem PySem.Spec PyProof.Rows

/-! ### places -/
/-- the place that an index of any sign means -/
def ixN (n : Nat) (i : Int) : Option Nat := if 0 ≤ i then (if i < n then some i.toNat else none) else if -(n : Int) ≤ i then some (i + n).toNat else none
def atI {α : Type} (xs : List α) (i : Int) : Option α := (ixN xs.length i).bind fun j => xs[j]?
theorem ixN_seq {n : Nat} {i : Int} {j : Nat} (h : ixN n i = some j) : seqIndex? i n = some j ∧ j < n ∧ -(n : Int) ≤ i ∧ i < n := by
  unfold ixN at h
  by_cases h0 : 0 ≤ i
  · rw [if_pos h0] at h
    by_cases h1 : i < n
    · rw [if_pos h1] at h
      have e : i.toNat = j := Option.some.inj h
      exact ⟨by rw [seqIndex_of h0 h1, e], by omega, by omega, h1⟩
    · rw [if_neg h1] at h; cases h
  · rw [if_neg h0] at h
    by_cases h1 : -(n : Int) ≤ i
    · rw [if_pos h1] at h
      have e : (i + n).toNat = j := Option.some.inj h
      exact ⟨by rw [seqIndex_neg (by omega) h1, e], by omega, h1, by omega⟩
    · rw [if_neg h1] at h; cases h
theorem atI_get {α : Type} {xs : List α} {i : Int} {v : α} (h : atI xs i = some v) : ∃ j, seqIndex? i xs.length = some j ∧ xs[j]? = some v ∧ j < xs.length ∧ -(xs.length : Int) ≤ i ∧ i < xs.length := by
  unfold atI at h
  cases e : ixN xs.length i with
  | none => rw [e] at h; cases h
  | some j =>
    rw [e] at h
    obtain ⟨h1, h2, h3, h4⟩ := ixN_seq e
    exact ⟨j, h1, h, h2, h3, h4⟩
theorem atI_nat {α : Type} {xs : List α} {j : Nat} {v : α} (h : xs[j]? = some v) : atI xs (j : Int) = some v := by
  have hj : j < xs.length := (List.getElem?_eq_some_iff.mp h).1
  have e : ixN xs.length (j : Int) = some j := by
    unfold ixN
    rw [if_pos (by omega), if_pos (by omega)]; simp
  unfold atI; rw [e]; exact h
/-! ### what may be subscripted -/
/-- what stands as an index of a plain subscript -/
def PlainIx (b : Expr) : Prop := ∀ o i, subscripted b false o i = operate [o, i] (getItem o i)
/-- a subscript by values -/
def IxR (X : Cx) (r : R2) : Prop :=
  ∀ (value slice : Expr) (pins : List (Addr × Obj)) (s : Shared) (σ : St) (H : Hp) (x y : V) (v u : Value) (Q : VK), Inv X pins σ H s → RelV x v → RelV y u → r x y H Q →
    subscripted slice false v u = operate [v, u] (getItem v u) → wpAny (model X.prog X.w) X.A (subscriptTail value slice v u) (EP X pins σ Q) X.xe s
/-- a call of a builtin's method by values: the receiver, the arguments -/
def MtR (X : Cx) (id : String) (r : V → List V → Hp → VK → Prop) : Prop :=
  ∀ (pins : List (Addr × Obj)) (s : Shared) (σ : St) (H : Hp) (x : V) (xs : List V) (v : Value) (us : List Value) (Q : VK), Inv X pins σ H s → RelV x v → Vals xs us → r x xs H Q →
    wpAny (model X.prog X.w) X.A (call (.builtin id) (v :: us)) (EP X pins σ Q) X.xe s
section
variable {X : Cx} {a b : Expr} {ta tb : TE} {pos : Pos}
theorem IxR.or {r r' : R2} (h : IxR X r) (h' : IxR X r') : IxR X (fun x y H Q => r x y H Q ∨ r' x y H Q) := by
  intro value slice pins s σ H x y v u Q I rx ry q hs
  rcases q with q | q
  · exact h value slice pins s σ H x y v u Q I rx ry q hs
  · exact h' value slice pins s σ H x y v u Q I rx ry q hs
theorem MtR.or {id : String} {r r' : V → List V → Hp → VK → Prop} (h : MtR X id r) (h' : MtR X id r') : MtR X id (fun x xs H Q => r x xs H Q ∨ r' x xs H Q) := by
  intro pins s σ H x xs v us Q I rx rs q
  rcases q with q | q
  · exact h pins s σ H x xs v us Q I rx rs q
  · exact h' pins s σ H x xs v us Q I rx rs q
/-- a[b] -/
theorem pe_ix {r : R2} (hr : IxR X r) (ha : PE X a ta) (hb : PE X b tb) (hs : PlainIx b) : PE X (.Subscript a b pos) (tOp r ta tb) := by
  intro pins s σ H Q I h
  exact Subscript_ (binT ha hb I h fun v u s2 x y H2 I2 rx ry q => hr a b pins s2 σ H2 x y v u Q I2 rx ry q (hs _ _))

def rIxL (K : PySem.W.Frag) : R2 := fun x y H Q => ∃ p xs i v, x = .ref p ∧ y = .int i ∧ SqL K H p xs ∧ atI xs i = some v ∧ Q v H
def rIxT (K : PySem.W.Frag) : R2 := fun x y H Q => ∃ p xs i v, x = .ref p ∧ y = .int i ∧ SqT K H p xs ∧ atI xs i = some v ∧ Q v H
def rIxS : R2 := fun x y H Q => ∃ z i c, x = .str z ∧ y = .int i ∧ z.length ≤ sizeLine ∧ atI z.cps.toList i = some c ∧ Q (.str ⟨#[c]⟩) H
theorem ix_list : IxR X (rIxL X.K) := by
  intro value slice pins s σ H x y v u Q I rx ry h hs
  obtain ⟨p, xs, i, z, rfl, rfl, hq, he, q⟩ := h
  cases rx
  obtain ⟨t, rfl⟩ := ry
  obtain ⟨its, r, pl, hz⟩ := I.list hq
  obtain ⟨j, h1, h2, h3, h4, h5⟩ := atI_get he
  obtain ⟨w, ew, rw'⟩ := r.get h2
  have hl := r.length
  have hn := line63
  have fin : EP X pins σ Q w s := ⟨z, H, I, rw', q⟩
  by_cases h0 : 0 ≤ i
  · have hj : i.toNat = j := by
      rw [seqIndex_of h0 h5] at h1
      exact Option.some.inj h1
    exact item_listR pl.isList h0 (by omega) (by rw [hj]; simpa using ew) fin hs
  · have hj : (i + (its.toArray.size : Int)).toNat = j := by
      rw [seqIndex_neg (by omega) h4] at h1
      rw [List.size_toArray, ← hl]
      exact Option.some.inj h1
    exact subscriptTail_builtinR (x := w) pl.isList.typeIs slot_list_getitem.lookup
      (wpAny_getItem_list_neg (Q := fun r s' => r = w ∧ EP X pins σ Q r s') pl.isList (by omega) (by rw [List.size_toArray] <;> omega) (by omega) (by rw [hj]; simpa using ew) ⟨rfl, fin⟩) hs
theorem ix_tup : IxR X (rIxT X.K) := by
  intro value slice pins s σ H x y v u Q I rx ry h hs
  obtain ⟨p, xs, i, z, rfl, rfl, hq, he, q⟩ := h
  cases rx
  obtain ⟨t, rfl⟩ := ry
  obtain ⟨its, r, pl, hz⟩ := I.tuple hq
  obtain ⟨j, h1, h2, h3, h4, h5⟩ := atI_get he
  obtain ⟨w, ew, rw'⟩ := r.get h2
  have hl := r.length
  have hn := line63
  have fin : EP X pins σ Q w s := ⟨z, H, I, rw', q⟩
  exact subscriptTail_builtinR (x := w) pl.typeIs slot_tuple_getitem.lookup
    (getItem_tuple (j := j) (Q := fun r s' => r = w ∧ EP X pins σ Q r s') pl (by omega) (by omega) (by rw [List.size_toArray, ← hl]; exact h1) (by simpa using ew) ⟨rfl, fin⟩) hs
theorem ix_str : IxR X rIxS := by
  intro value slice pins s σ H x y v u Q I rx ry h hs
  obtain ⟨z, i, c, rfl, rfl, hz, he, q⟩ := h
  obtain ⟨t, rfl⟩ := rx
  obtain ⟨t', rfl⟩ := ry
  obtain ⟨j, h1, h2, h3, h4, h5⟩ := atI_get he
  have hl : z.cps.toList.length = z.length := by simp [Str.length]
  rw [hl] at h1 h4 h5
  have hn := line63
  exact tail_any (typeIs_str s z t) slot_str_getitem.lookup (getItem_str (c := c) (by
    have e1 : decide (i < -(2 ^ 63 : Int)) = false := decide_eq_false (by omega)
    have e2 : decide (i ≥ 2 ^ 63) = false := decide_eq_false (by omega)
    rw [e1, e2, Bool.or_false]) (by rw [h1]; simpa using h2) ⟨.str ⟨#[c]⟩, H, I.tok _, ⟨_, rfl⟩, q⟩) hs
/-- list, tuple or str -/
def rIx (K : PySem.W.Frag) : R2 := fun x y H Q => rIxL K x y H Q ∨ rIxT K x y H Q ∨ rIxS x y H Q
/-! ### xs[i] = v, any sign -/
/-- the list's object behind a store -/
theorem mapSeq_set (its : List Value) (n j : Nat) (u : Value) : Obj.mapSeq (·.setIfInBounds j u) { cls := .type "list", data := .seq its.toArray n } = { cls := .type "list", data := .seq (its.set j u).toArray n } := by
  simp [Obj.mapSeq]
theorem Inv.lst {pins : List (Addr × Obj)} {σ : St} {H : Hp} {s : Shared} {p : Addr} {xs : List V} (I : Inv X pins σ H s) (h : H p = some (.lst xs)) :
    ∃ (its : List Value) (n : Nat), Vals xs its ∧ s.heap.get? p = some { cls := .type "list", data := .seq its.toArray n } ∧ xs.length ≤ sizeLine := by
  obtain ⟨z, its, n, r, e⟩ := I.hok p _ h
  exact ⟨its, n, r, e, z⟩
/-- the list at p is written by an update of its object -/
theorem Inv.lstUpd {pins : List (Addr × Obj)} {σ : St} {H : Hp} {s : Shared} {p : Addr} {xs ys : List V} {its its' : List Value} {n n' : Nat} {f : Obj → Obj} (I : Inv X pins σ H s) (h : H p = some (.lst xs))
    (ho : s.heap.get? p = some { cls := .type "list", data := .seq its.toArray n }) (hf : f { cls := .type "list", data := .seq its.toArray n } = { cls := .type "list", data := .seq its'.toArray n' }) (r : Vals ys its') (hz : ys.length ≤ sizeLine) (t : Nat) :
    Inv X pins σ (upd H p (.lst ys)) { s with heap := s.heap.update p f, toks := t } := by
  have e : (s.heap.update p f).get? p = some { cls := .type "list", data := .seq its'.toArray n' } := by
    rw [Heap.get?_update_self f ho (by rw [hf] <;> rfl), hf]
  refine I.write (x := p) (e := p) (by rw [h]; trivial) (.inl rfl) (fun b u hb q => (Heap.get?_update_other _ _ (Ne.symm hb)).trans q) ⟨_, e⟩ ?_
  exact ⟨hz, its', n', r, e⟩
def rSetL : V → V → V → Hp → (Hp → Prop) → Prop := fun o i v H Q => ∃ p xs k j, o = .ref p ∧ i = .int k ∧ H p = some (.lst xs) ∧ ixN xs.length k = some j ∧ Q (upd H p (.lst (xs.set j v)))
theorem set_list : PSet X rSetL := by
  intro pins s σ H o i v ov iv u Q I ro ri rv h
  obtain ⟨p, xs, k, j, rfl, rfl, hp, hj, q⟩ := h
  cases ro
  obtain ⟨t, rfl⟩ := ri
  obtain ⟨its, n, r, ho, hz⟩ := I.lst hp
  obtain ⟨h1, h2, h3, h4⟩ := ixN_seq hj
  have hl := r.length
  have hn := line63
  have I' : Inv X pins σ (upd H p (.lst (xs.set j v))) { s with heap := s.heap.update p (Obj.mapSeq (·.setIfInBounds j u)) } :=
    I.lstUpd hp ho (mapSeq_set its n j u) (r.set rv j) (by rw [List.length_set]; exact hz) s.toks
  by_cases h0 : 0 ≤ k
  · have hk : k.toNat = j := by
      rw [seqIndex_of h0 h4] at h1
      exact Option.some.inj h1
    exact PySem.W.ki_setAt ho h0 (by omega) (by rw [List.size_toArray, ← hl]; exact h4) (by rw [hk]; exact ⟨_, I', q⟩)
  · have hk : (k + (its.toArray.size : Int)).toNat = j := by
      rw [seqIndex_neg (by omega) h3] at h1
      rw [List.size_toArray, ← hl]
      exact Option.some.inj h1
    exact PySem.W.ki_setBack ho (by omega) (by rw [List.size_toArray, ← hl]; exact h3) (by omega) (by rw [hk]; exact ⟨_, I', q⟩)

/-! ### slices -/
theorem slice_bounds (lo hi : Option Int) (n : Nat) : (sliceBounds lo hi none n).1 = ((HT.sIx n 0 lo : Nat) : Int) ∧ (sliceBounds lo hi none n).2.1 = ((HT.sIx n n hi : Nat) : Int) ∧ (sliceBounds lo hi none n).2.2 = 1 := by
  refine ⟨?_, ?_, rfl⟩
  · cases lo with
    | none => simp [sliceBounds, HT.sIx]
    | some i =>
      simp only [sliceBounds, HT.sIx, Option.getD_none, show (1 : Int) > 0 by decide, if_true]
      by_cases h : i < 0
      · simp only [h, if_true] <;> omega
      · simp only [h, if_false] <;> omega
  · cases hi with
    | none => simp [sliceBounds, HT.sIx]
    | some i =>
      simp only [sliceBounds, HT.sIx, Option.getD_none, show (1 : Int) > 0 by decide, if_true]
      by_cases h : i < 0
      · simp only [h, if_true] <;> omega
      · simp only [h, if_false] <;> omega
theorem slicePick_cut (its : List Value) (lo hi : Option Int) : slicePick its.toArray lo hi none = ((its.drop (HT.sIx its.length 0 lo)).take (HT.sIx its.length its.length hi - HT.sIx its.length 0 lo)).toArray := by
  obtain ⟨h1, h2, h3⟩ := slice_bounds lo hi its.toArray.size
  unfold slicePick
  rw [h1, h2, h3]
  simp only [sliceRange_one, pick_run, List.size_toArray] <;> rfl
/-- xs[lo:hi] of a list: a new list -/
def rSlL (K : PySem.W.Frag) : V → Option Int → Option Int → Hp → VK → Prop := fun x lo hi H Q => ∃ a xs, x = .ref a ∧ SqL K H a xs ∧ ∀ p, H p = none → Q (.ref p) (upd H p (.lst (cutV xs lo hi)))
theorem sl_list : SlR X (rSlL X.K) := by
  intro pins s σ H x v vl vu lo hi sl Q I rx hs pl pu h
  obtain ⟨a, xs, rfl, hx, q⟩ := h
  cases rx
  obtain ⟨its, r, ht, hz⟩ := I.list hx
  have hlen := r.length
  refine ⟨"list", _, slot_list_getitem.lookup, ht.isList.typeIs, ?_⟩
  refine wpAny_getItem_list_slice ht.isList hs pl pu .none (by simp) ?_ (by rw [List.size_toArray] <;> omega)
  rw [slicePick_cut, ← hlen]
  refine ⟨.ref s.heap.objs.size, _, I.laid (t' := s.toks) (o := .lst (cutV xs lo hi)) (fun b ob q => Heap.get?_push_of_some _ q) (Nat.le_refl _) ?_, rfl, q _ (I.hok.fresh (Nat.le_refl _))⟩
  exact ⟨Nat.le_trans (cutV_length xs lo hi) hz, _, 0, (r.drop (HT.sIx xs.length 0 lo)).take (HT.sIx xs.length xs.length hi - HT.sIx xs.length 0 lo), Heap.get?_push_size _ rfl⟩

/-! ### in, not in: flat items -/
def flatV : V → Bool
  | .non => true
  | .bl _ => true
  | .int _ => true
  | .str _ => true
  | _ => false
/-- == of flat values -/
def eqV : V → V → Bool
  | .non, .non => true
  | .bl a, .bl b => a == b
  | .bl a, .int b => (if a then 1 else 0) == b
  | .int a, .bl b => a == (if b then 1 else 0)
  | .int a, .int b => a == b
  | .str a, .str b => a == b
  | _, _ => false
theorem eqAt_V {A : Around} {s : Shared} {y x : V} {u v : Value} (ry : RelV y u) (rx : RelV x v) (fy : flatV y = true) (fx : flatV x = true) : SeqAt.EqAt A s u v (eqV y x) := by
  cases y with
  | non =>
    cases ry
    cases x with
    | non => cases rx; exact SeqAt.EqAt.same _
    | bl b => cases rx; exact SeqAt.EqAt.none_bool b
    | int b => obtain ⟨t, rfl⟩ := rx; exact SeqAt.EqAt.none_int b t
    | str b => obtain ⟨t, rfl⟩ := rx; exact SeqAt.EqAt.none_str b t
    | _ => exact absurd (show false = true from fx) Bool.false_ne_true
  | bl a =>
    cases ry
    cases x with
    | non => cases rx; exact SeqAt.EqAt.bool_none a
    | bl b => cases rx; exact SeqAt.EqAt.bool_bool a b
    | int b => obtain ⟨t, rfl⟩ := rx; exact SeqAt.EqAt.bool_int a b t
    | str b => obtain ⟨t, rfl⟩ := rx; exact SeqAt.EqAt.bool_str a b t
    | _ => exact absurd (show false = true from fx) Bool.false_ne_true
  | int a =>
    obtain ⟨t', rfl⟩ := ry
    cases x with
    | non => cases rx; exact SeqAt.EqAt.int_none a t'
    | bl b => cases rx; exact SeqAt.EqAt.int_bool a t' b
    | int b => obtain ⟨t, rfl⟩ := rx; exact SeqAt.EqAt.int_int a t' b t
    | str b => obtain ⟨t, rfl⟩ := rx; exact SeqAt.EqAt.int_str a t' b t
    | _ => exact absurd (show false = true from fx) Bool.false_ne_true
  | str a =>
    obtain ⟨t', rfl⟩ := ry
    cases x with
    | non => cases rx; exact SeqAt.EqAt.str_none a t'
    | bl b => cases rx; exact SeqAt.EqAt.str_bool a t' b
    | int b => obtain ⟨t, rfl⟩ := rx; exact SeqAt.EqAt.str_int a t' b t
    | str b => obtain ⟨t, rfl⟩ := rx; exact SeqAt.EqAt.str_str a t' b t
    | _ => exact absurd (show false = true from fx) Bool.false_ne_true
  | _ => exact absurd (show false = true from fy) Bool.false_ne_true
/-- the items' answers, read off the values (a value's own answer does not lean on its token) -/
def eqU (x : V) (u : Value) : Bool := match u with
  | .none => eqV .non x
  | .bool b => eqV (.bl b) x
  | .int i _ => eqV (.int i) x
  | .str z _ => eqV (.str z) x
  | _ => false
def inV (x : V) (xs : List V) : Bool := xs.any fun y => eqV y x
/-- x in a list or tuple of flat items -/
def rIn (K : PySem.W.Frag) (neg : Bool) : R2 := fun x y H Q => ∃ p xs, y = .ref p ∧ (SqL K H p xs ∨ SqT K H p xs) ∧ flatV x = true ∧ xs.all flatV = true ∧ Q (.bl (if neg then !inV x xs else inV x xs)) H
/-! ### len, list(x), tuple(x) of any list or tuple that is read -/
theorem call_len_seq : CallR X (.builtin "len") (fun xs H Q => ∃ p ys, xs = [.ref p] ∧ (SqL X.K H p ys ∨ SqT X.K H p ys) ∧ Q (.int ys.length) H) := by
  intro pins s σ H xs us Q I r h
  obtain ⟨p, ys, rfl, hq, q⟩ := h
  obtain ⟨u, rfl, rx⟩ := vals1 r
  cases rx
  have hn := line63
  rcases hq with hq | hq
  · obtain ⟨its, r', pl, hz⟩ := I.list hq
    have hlen := r'.length
    exact Calls.call_len_list pl.isList (by simp only [List.size_toArray] <;> omega) ⟨.int ys.length, H, I.tok _, ⟨s.toks + 1, by rw [List.size_toArray, hlen]⟩, q⟩
  · obtain ⟨its, r', pl, hz⟩ := I.tuple hq
    have hlen := r'.length
    exact len_tuple pl (by simp only [List.size_toArray] <;> omega) ⟨.int ys.length, H, I.tok _, ⟨s.toks + 1, by rw [List.size_toArray, hlen]⟩, q⟩
theorem CallR.or {f : Value} {r r' : List V → Hp → VK → Prop} (h : CallR X f r) (h' : CallR X f r') : CallR X f (fun xs H Q => r xs H Q ∨ r' xs H Q) := by
  intro pins s σ H xs us Q I rs q
  rcases q with q | q
  · exact h pins s σ H xs us Q I rs q
  · exact h' pins s σ H xs us Q I rs q
theorem call_list_of : CallR X (.type "list") (fun xs H Q => ∃ p ys, xs = [.ref p] ∧ (SqL X.K H p ys ∨ SqT X.K H p ys) ∧ ∀ l, H l = none → Q (.ref l) (upd H l (.lst ys))) := by
  intro pins s σ H xs us Q I r h
  obtain ⟨p, ys, rfl, hq, q⟩ := h
  obtain ⟨u, rfl, rx⟩ := vals1 r
  cases rx
  have fin : ∀ (its : List Value), Vals ys its → ys.length ≤ sizeLine → ∀ (h' : Heap) (c' : Nat), (∀ b o', s.heap.get? b = some o' → h'.get? b = some o') →
      h'.get? s.heap.objs.size = some { cls := .type "list", dict := none, data := .seq its.toArray c', slots := #[] } → EP X pins σ Q (.ref s.heap.objs.size) { s with heap := h' } := fun its r' hz h' c' kp e =>
    ⟨.ref s.heap.objs.size, _, I.laid (t' := s.toks) kp (Nat.le_refl _) (show ObjOk X.prog X.w _ h' _ (.lst ys) from ⟨hz, its, c', r', e⟩), rfl, q _ (I.hok.fresh (Nat.le_refl _))⟩
  rcases hq with hq | hq
  · obtain ⟨its, r', pl, hz⟩ := I.list hq
    have hlen := r'.length
    obtain ⟨o, ho, hc, n, hd⟩ := pl.isList
    exact call_list_seq p (.inl rfl) ho hc hd (fun h' c' kp e => fin its r' hz h' c' kp e) (by simp only [List.size_toArray] <;> omega)
  · obtain ⟨its, r', pl, hz⟩ := I.tuple hq
    have hlen := r'.length
    obtain ⟨o, ho, hc, n, hd⟩ := pl
    exact call_list_seq p (.inr rfl) ho hc hd (fun h' c' kp e => fin its r' hz h' c' kp e) (by simp only [List.size_toArray] <;> omega)
/-! ### the call of a builtin's method: o.m(..) -/
/-- the value is of that builtin type -/
def tyV (K : PySem.W.Frag) (T : String) (x : V) (H : Hp) : Prop := match x with
  | .str _ => T = "str"
  | .int _ => T = "int"
  | .ref p => (T = "list" ∧ ∃ xs, SqL K H p xs) ∨ (T = "tuple" ∧ ∃ o, K.lookup p = some o ∧ o.cls = .type "tuple" ∧ o.dict = none) ∨
      (T = "dict" ∧ ((∃ kvs, H p = some (.dK kvs)) ∨ ∃ kvs, H p = some (.dT kvs))) ∨ (T = "set" ∧ ∃ S n, H p = some (.set S n))
  | _ => False
theorem tyV_is {pins : List (Addr × Obj)} {σ : St} {H : Hp} {s : Shared} {T : String} {x : V} {v : Value} (I : Inv X pins σ H s) (r : RelV x v) (ty : tyV X.K T x H) :
    s.TypeIs v T ∧ ∀ a, v = .ref a → ∃ ob, s.heap.get? a = some ob ∧ ob.dict = none := by
  cases x with
  | str z =>
    obtain ⟨t, rfl⟩ := r
    cases (show T = "str" from ty)
    exact ⟨typeIs_str s z t, fun _ e => nomatch e⟩
  | int i =>
    obtain ⟨t, rfl⟩ := r
    cases (show T = "int" from ty)
    exact ⟨typeIs_int s i t, fun _ e => nomatch e⟩
  | ref p =>
    cases r
    rcases ty with ⟨rfl, xs, hq⟩ | ⟨rfl, o, hk, hc, hd⟩ | ⟨rfl, hk⟩ | ⟨rfl, S, n, hk⟩
    · obtain ⟨its, _, pl, _⟩ := I.list hq
      refine ⟨pl.isList.typeIs, fun a e => ?_⟩
      cases e
      obtain ⟨o, n, e, c, hd, _⟩ := pl
      exact ⟨o, e, hd⟩
    · refine ⟨⟨o, I.kIn p o hk, hc⟩, fun a e => ?_⟩
      cases e
      exact ⟨o, I.kIn _ o hk, hd⟩
    · have z : ∃ o, s.heap.get? p = some o ∧ o.ExactDict := by
        rcases hk with ⟨kvs, hk⟩ | ⟨kvs, hk⟩
        · obtain ⟨_, _, _, _, o, _, _, e, ex, _⟩ := I.hok p _ hk
          exact ⟨o, e, ex⟩
        · obtain ⟨_, _, _, _, o, _, _, e, ex, _⟩ := I.hok p _ hk
          exact ⟨o, e, ex⟩
      obtain ⟨o, e, ex⟩ := z
      refine ⟨⟨o, e, ex.1⟩, fun a e2 => ?_⟩
      cases e2
      exact ⟨o, e, ex.2.1⟩
    · obtain ⟨o, _, _, _, e, ex, _⟩ := I.hok p _ hk
      refine ⟨⟨o, e, ex.1⟩, fun a e2 => ?_⟩
      cases e2
      exact ⟨o, e, ex.2.1⟩
  | _ => exact False.elim ty
def tBM0 (K : PySem.W.Frag) (T : String) (r : V → List V → Hp → VK → Prop) (to : TE) : TE := fun σ H Q => to σ H fun x H1 => tyV K T x H1 ∧ r x [] H1 Q
def tBM (K : PySem.W.Frag) (T : String) (r : V → List V → Hp → VK → Prop) (to : TE) (t : TA) : TE := fun σ H Q => to σ H fun x H1 => tyV K T x H1 ∧ t σ H1 fun xs H2 => r x xs H2 Q
variable {o e : Expr} {es : List Expr} {to : TE} {t : TA} {name : Str} {apos cpos : Pos} {T id : String} {r : V → List V → Hp → VK → Prop}
theorem pe_bm (pa : PlainAttrs T) (slot : Slot T name id) (hty : typeOf (.builtin id) = pure (.type "method_descriptor")) (hm : MtR X id r) (ho : PE X o to) (ha : PA X (e :: es) t)
    (hbase : attributeBase o name X.env (eval o X.env) = eval o X.env := by rfl)
    (hfew : ((backTo cpos (starEach (e :: es) X.env)).all (fun x => !x.1) && (backToKw cpos (keywordEach [] X.env)).all (fun x => x.1.isSome)
      && decide ((e :: es).length + ([] : List Keyword).length + (if ([] : List Keyword).isEmpty then 0 else 1) < 30)) = true := by rfl)
    (hline : (apos.endLine == cpos.line) = true := by rfl) (hs : starEach (e :: es) X.env = (false, eval e X.env) :: starEach es X.env := by rfl) (hplain : (backTo cpos (starEach es X.env)).any (·.1) = false := by rfl) :
    PE X (.Call (.Attribute o name apos) (e :: es) [] cpos) (tBM X.K T r to t) := by
  intro pins s σ H Q I h
  refine wpAny_Call_method_late hbase hfew hline rfl (thn (ho pins s σ H _ I h) fun v s1 ⟨x, H1, I1, r1, ty, q1⟩ => ?_)
  obtain ⟨h1, h2⟩ := tyV_is I1 r1 ty
  refine ⟨T, id, pa, slot, hty, h1, h2, ?_⟩
  have hA := ha cpos pins s1 σ H1 _ I1 q1
  rw [hs] at hA ⊢
  refine Calls.callWith_builtin (by show (false || (backTo cpos (starEach es X.env)).any (·.1)) = false; rw [hplain] <;> rfl) (Calls.evalArgs_plain ?_)
  exact thn hA fun us s2 ⟨vs, H2, I2, r2, q2⟩ => hm pins s2 σ H2 x vs v us Q I2 r1 r2 q2
/- xs.append(e), list.index on a module's tuple .. are MtR facts of 06m -/
end
end L2

namespace L2
open PySem PySem.Spec PyProof.Rows

def MtM (X : Cx) (id : String) (r : V → List V → Hp → VK → Prop) : Prop :=
  ∀ (pins : List (Addr × Obj)) (s : Shared) (σ : St) (H : Hp) (x : V) (xs : List V) (v : Value) (us : List Value) (Q : VK), Inv X pins σ H s → RelV x v → Vals xs us → r x xs H Q →
    wpAny (model X.prog X.w) X.A (call (.builtin id) (v :: us)) (EP X pins σ Q) X.xe s

/-! ### lists of values -/
theorem Vals.one : ∀ {x : V} {us : List Value}, Vals [x] us → ∃ u, us = [u] ∧ RelV x u
  | _, _, .cons r .nil => ⟨_, rfl, r⟩
theorem Vals.two : ∀ {x y : V} {us : List Value}, Vals [x, y] us → ∃ u v, us = [u, v] ∧ RelV x u ∧ RelV y v
  | _, _, _, .cons r (.cons q .nil) => ⟨_, _, rfl, r, q⟩
theorem Vals.zero : ∀ {us : List Value}, Vals [] us → us = []
  | _, .nil => rfl
theorem Vals.dropLast {xs : List V} {us : List Value} (h : Vals xs us) : Vals xs.dropLast us.dropLast := by
  induction h with
  | nil => exact .nil
  | cons r t ih =>
    cases t with
    | nil => exact .nil
    | cons q t' => exact .cons r ih
theorem Vals.eraseIdx : ∀ {xs : List V} {us : List Value} (i : Nat), Vals xs us → Vals (xs.eraseIdx i) (us.eraseIdx i)
  | _, _, _, .nil => .nil
  | _, _, 0, .cons _ t => t
  | _, _, i + 1, .cons r t => .cons r (Vals.eraseIdx i t)
theorem Vals.reverse {xs : List V} {us : List Value} (h : Vals xs us) : Vals xs.reverse us.reverse := by
  induction h with
  | nil => exact .nil
  | cons r t ih => rw [List.reverse_cons, List.reverse_cons]; exact Vals.append ih (.cons r .nil)
theorem Vals.rep {xs : List V} {us : List Value} (h : Vals xs us) : ∀ k : Nat, Vals (List.replicate k xs).flatten (List.replicate k us).flatten
  | 0 => .nil
  | k + 1 => by
    rw [List.replicate_succ, List.replicate_succ, List.flatten_cons, List.flatten_cons]
    exact Vals.append h (Vals.rep h k)
theorem foldl_rep (its : List Value) : ∀ (k : Nat) (acc : List Value),
    List.foldl (fun x1 x2 => x1 ++ x2) acc.toArray (List.replicate k its.toArray) = (acc ++ (List.replicate k its).flatten).toArray
  | 0, acc => by simp
  | k + 1, acc => by
    have e : acc.toArray ++ its.toArray = (acc ++ its).toArray := by simp
    have e2 : (acc ++ its) ++ (List.replicate k its).flatten = acc ++ (List.replicate (k + 1) its).flatten := by
      rw [List.replicate_succ, List.flatten_cons, List.append_assoc]
    rw [← e2, ← foldl_rep its k (acc ++ its), ← e, List.replicate_succ, List.foldl_cons]

section
variable {X : Cx} {pins : List (Addr × Obj)} {σ : St} {H : Hp} {s : Shared} {l b : Addr} {xs ys zs : List V}

/-! ### the two steps: a tracked list is rewritten, a new list is laid -/
theorem Inv.lset {its its' : List Value} {n : Nat} {f : Array Value → Array Value} {t' : Nat} (I : Inv X pins σ H s) (hH : H l = some (.lst xs))
    (e : s.heap.get? l = some { cls := .type "list", data := .seq its.toArray n }) (hf : f its.toArray = its'.toArray) (hv : Vals ys its') (hz : ys.length ≤ sizeLine) :
    Inv X pins σ (upd H l (.lst ys)) { s with heap := s.heap.update l (Obj.mapSeq f), toks := t' } := by
  have q := PySem.IsL.update e f
  rw [hf] at q
  refine I.write (x := l) (e := l) (by rw [hH]; exact trivial) (.inl rfl) (fun b' u hb hu => (Heap.get?_update_other s.heap (Obj.mapSeq f) (Ne.symm hb)).trans hu) ⟨_, q⟩ ?_
  exact ⟨hz, its', _, hv, q⟩
theorem Inv.lnew {its : List Value} {t' : Nat} (I : Inv X pins σ H s) (hv : Vals ys its) (hz : ys.length ≤ sizeLine) :
    Inv X pins σ (upd H s.heap.objs.size (.lst ys)) { s with heap := s.heap.push { cls := .type "list", data := .seq its.toArray }, toks := t' } :=
  I.laid (fun _ _ q => Heap.get?_push_of_some _ q) (Nat.le_refl _) ⟨hz, its, 0, hv, Heap.get?_push_size _ rfl⟩
theorem Inv.fresh (I : Inv X pins σ H s) : H s.heap.objs.size = none := I.hok.fresh (Nat.le_refl _)
theorem Inv.lstM (I : Inv X pins σ H s) (hH : H l = some (.lst xs)) : xs.length ≤ sizeLine ∧ ∃ (its : List Value) (n : Nat), Vals xs its ∧ xs.length = its.length ∧ s.heap.get? l = some { cls := .type "list", data := .seq its.toArray n } := by
  obtain ⟨z, its, n, r, e⟩ := I.hok l _ hH
  exact ⟨z, its, n, r, r.length, e⟩

theorem notLongL {n : Nat} (h : n ≤ sizeLine) : Builtin.List.listTooLong n = false := by
  unfold Builtin.List.listTooLong
  exact decide_eq_false (by omega)
end

section
variable {X : Cx}

/-! ### methods -/
def rAppend : V → List V → Hp → VK → Prop := fun x vs H Q => ∃ l xs y, x = .ref l ∧ vs = [y] ∧ H l = some (.lst xs) ∧ xs.length < sizeLine ∧ Q .non (upd H l (.lst (xs ++ [y])))
theorem mt_append : MtM X "list.append" rAppend := by
  intro pins s σ H x vs v us Q I rx rv h
  obtain ⟨l, xs, y, rfl, rfl, hH, hz, q⟩ := h
  cases rx
  obtain ⟨u, rfl, ru⟩ := rv.one
  obtain ⟨z, its, n, r, hl, e⟩ := I.lstM hH
  refine call_meets F.slot_list_append ⟨_, e, rfl⟩ F.entry_list_append (F.args_list_append_2 _ _) (PySem.list_append l its.toArray n u (by rw [List.size_toArray]; omega)) ⟨e, ?_⟩
  refine ⟨.non, _, I.lset (its' := its ++ [u]) hH e (by simp) (r.append (.cons ru .nil)) ?_, rfl, q⟩
  rw [List.length_append, List.length_singleton]
  omega

def rExtend : V → List V → Hp → VK → Prop := fun x vs H Q => ∃ l b xs zs, x = .ref l ∧ vs = [.ref b] ∧ H l = some (.lst xs) ∧ H b = some (.lst zs) ∧ xs.length + zs.length ≤ sizeLine ∧ Q .non (upd H l (.lst (xs ++ zs)))
def rPop : V → List V → Hp → VK → Prop := fun x vs H Q => ∃ l xs y, x = .ref l ∧ vs = [] ∧ H l = some (.lst xs) ∧ xs[xs.length - 1]? = some y ∧ Q y (upd H l (.lst xs.dropLast))
def rPopAt : V → List V → Hp → VK → Prop := fun x vs H Q => ∃ l xs i k y, x = .ref l ∧ vs = [.int i] ∧ H l = some (.lst xs) ∧ -(2 ^ 63) ≤ i ∧ i < 2 ^ 63 ∧ seqIndex? i xs.length = some k ∧ xs[k]? = some y ∧ Q y (upd H l (.lst (xs.eraseIdx k)))
def rReverse : V → List V → Hp → VK → Prop := fun x vs H Q => ∃ l xs, x = .ref l ∧ vs = [] ∧ H l = some (.lst xs) ∧ Q .non (upd H l (.lst xs.reverse))
def rClear : V → List V → Hp → VK → Prop := fun x vs H Q => ∃ l xs, x = .ref l ∧ vs = [] ∧ H l = some (.lst xs) ∧ Q .non (upd H l (.lst []))
/-! ### list + list, list += list, list * int -/
def rCat : R2 := fun x y H Q => ∃ l b xs zs, x = .ref l ∧ y = .ref b ∧ H l = some (.lst xs) ∧ H b = some (.lst zs) ∧ xs.length + zs.length ≤ sizeLine ∧ ∀ p, H p = none → Q (.ref p) (upd H p (.lst (xs ++ zs)))
/-- a list times an int (a negative one is nothing) -/
def rRep : R2 := fun x y H Q => ∃ l k xs, x = .ref l ∧ y = .int k ∧ H l = some (.lst xs) ∧ -(2 ^ 63) ≤ k ∧ k < 2 ^ 63 ∧ xs.length * k.toNat ≤ sizeLine ∧
  ∀ p, H p = none → Q (.ref p) (upd H p (.lst (List.replicate k.toNat xs).flatten))
theorem len_rep {α : Type} (xs : List α) (k : Nat) : (List.replicate k xs).flatten.length = k * xs.length := by
  induction k with
  | zero => simp
  | succ k ih => rw [List.replicate_succ, List.flatten_cons, List.length_append, ih, Nat.succ_mul, Nat.add_comm]
theorem op_rep : OpR X (binaryOp .Mult) rRep := by
  intro pins s σ H x y v u Q I rx ry h
  obtain ⟨l, k, xs, rfl, rfl, hH, h1, h2, hz, q⟩ := h
  cases rx
  obtain ⟨t, rfl⟩ := ry
  obtain ⟨z, its, n, r, hl, e⟩ := I.lstM hH
  have hlen : its.toArray.size * k.toNat ≤ sizeLine := by rw [List.size_toArray, ← hl]; exact hz
  have hcap : ¬ its.toArray.size * k.toNat > (2 ^ 63 - 1) / 8 := by
    have : (sizeLine : Nat) ≤ (2 ^ 63 - 1) / 8 := by decide
    omega
  have hfit : ¬ (!Builtin.List.listFitsIndex k) = true := by
    rw [fitsIndex_both h1 h2]
    exact Bool.false_ne_true
  have hlong : ¬ Builtin.List.listTooLong (its.toArray.size * k.toNat) = true := by
    rw [notLongL hlen]
    exact Bool.false_ne_true
  have hnew : List.foldl (fun x1 x2 => x1 ++ x2) #[] (List.replicate (if its.toArray.isEmpty = true then 0 else k.toNat) its.toArray) = (List.replicate k.toNat its).flatten.toArray := by
    have f0 : ∀ m : Nat, List.foldl (fun x1 x2 => x1 ++ x2) #[] (List.replicate m its.toArray) = (List.replicate m its).flatten.toArray := fun m => by
      have := foldl_rep its m []
      rw [List.nil_append] at this
      exact this
    rw [f0]
    cases its with
    | nil => simp
    | cons a r' => rw [if_neg (by simp)]
  refine wpAny_binaryOp_repeat_ref (T := "list") (U := "int") (by decide) ⟨_, e, rfl⟩ (fun s' => typeIs_int s' k t) noFill_list_mul F.fills_int_mul F.slot_int_rmul repeat_list F.slot_int_index.lookup
    (call_meets F.slot_int_rmul (typeIs_int s k t) F.entry_int_rmul (F.args_int_rmul_2 _ _) (int___rmul___int_list k t l its.toArray n)
      ⟨e, rfl, ⟨_, e, rfl⟩, call_meets F.slot_list_mul ⟨_, e, rfl⟩ F.entry_list_mul (F.args_list_mul_2 _ _) (AutoListH.list___mul___list_int_3 l its.toArray n k t hfit hcap hlong) ⟨e, ?_⟩⟩)
  rw [hnew]
  exact ⟨.ref _, _, I.lnew (t' := s.toks) (r.rep k.toNat) (by rw [len_rep, Nat.mul_comm]; exact hz), rfl, q _ I.fresh⟩

/-! ### del xs[i] -/
end

/-! ### xs[a:b] = ys -/
section
variable {prog : Program} {w : World} {A : Around} {E : Value → Shared → Prop} {s : Shared}
set_option maxRecDepth 100000 in
end

section
variable {X : Cx}
end
end L2

namespace Att
open PySem PySem.W PySem.Calls PyProof.Rows

/-! ### the script -/
theorem ints_of_wellAll {P : Params} {h : Heap} : ∀ (ns : List Int) (vs : List Value), WellAll P h vs (ns.map WData.int) → IntsAre vs ns := by
  intro ns
  induction ns with
  | nil =>
    intro vs w
    rw [List.map_nil] at w
    cases w
    exact .nil
  | cons n ns ih =>
    intro vs w
    rw [List.map_cons] at w
    cases w with
    | cons a b =>
      cases a
      exact .cons _ _ (ih _ b)

theorem script_of {l : OpenLaw} {n : Nat} (hn : l.most = some n) {P : Params} {h : Heap} {args : List WData} {vals : List Value}
    (hpre : l.row.toRowW.claim.pre args = true) (hwl : WellAll P h vals args) :
    ∃ a vs ns, vals = [Value.ref a] ∧ args = [WData.list (ns.map WData.int)] ∧ h.get? a = some { cls := .type "list", data := .seq vs.toArray } ∧ IntsAre vs ns ∧ ns.length ≤ n := by
  have hsh : WShape.hasAll [] args [.list .int] = true := (pre_splitW hpre).1
  have hc : l.pre.holds [] { args := args } = true := (pre_splitW hpre).2
  obtain ⟨d, r, rfl, h1, h2⟩ := hasAllW_cons hsh
  obtain rfl := hasAllW_nil h2
  obtain ⟨xs, rfl, h3⟩ := hasW_list h1
  obtain ⟨ns, rfl⟩ := items_int h3
  have hlen : ns.length ≤ n := by
    unfold OpenLaw.pre at hc
    have h4 : (WTm.not (.lt (.lit (.int (n : Int))) (.len (.arg 0)))).holds [] { args := [.list (ns.map .int)] } = true := by
      have h4 := (holds_andW hc).1
      rw [hn] at h4
      exact h4
    have h5 := condW_of h4 (w_not (w_lt w_lit (w_len_list (w_arg rfl))))
    rw [List.length_map] at h5
    refine Nat.le_of_not_lt fun q => ?_
    have q' : (n : Int) < ((ns.length : Nat) : Int) := by omega
    first
      | (rw [decide_eq_true q'] at h5; exact absurd h5 (by decide))
      | (simp at h5; omega)
  cases hwl with
  | cons w1 w2 =>
    cases w2
    cases w1 with
    | list ho hall => exact ⟨_, _, ns, rfl, rfl, ho, ints_of_wellAll ns _ hall, hlen⟩

theorem post_true (l : OpenLaw) (args : List WData) : l.row.toRowW.claim.post args (.bool true) args = true :=
  postW_of (r := l.row.toRowW) (X := (true == true))
    (show WShape.has [] (.bool true) .bool = true by first | rfl | decide | simp [WShape.has, WShape.arms, WShape.armsAll])
    (show (WTm.eq .res (.lit (.bool true))).value [] { args := args, res := some (.bool true), after := args } = some (.bool (true == true)) from w_eq_bool (w_res rfl) w_lit) rfl

/-! ### the attachment: holds_open's last premise (the goal 'hc' behind k_head) from a wpAny of the law's body -/
/-- the same from a codeAny of the CALL (for a layer whose function contracts speak of calls) -/
theorem attach_call {l : OpenLaw} {n : Nat} {q : Program} {loose : List Str} {XP : (Str → Option Value) → Heap → Prop} {YP : World → Heap → Prop} {d : DefRec}
    (hn : l.most = some n) (hdf : d.params.defaults = [])
    (call : ∀ (w : World) (s₀ s₁ : Shared) (mg mb : Str → Option Value) (fa : Addr) (o : Obj) (pm cd doc : Value) (a : Addr) (vs : List Value) (ns : List Int),
      Ground q loose [] XP w s₀ mg mb s₁.heap → YP w s₁.heap →
      s₁.heap.get? fa = some o → o.data = .func (docDef d.name d.params d.body d.scope pm cd doc) → s₁.heap.CodeRec cd d.name → mg d.name = some (.ref fa) →
      s₁.heap.get? a = some { cls := .type "list", data := .seq vs.toArray } → IntsAre vs ns → ns.length ≤ n → s₁.gens = #[] →
      codeAny (model l.prog w) callerA (.call (.ref fa) ⟨[.ref a], []⟩) (fun r s' => r = .ok (.ret (.bool true)) ∧ OldK s₁.heap s'.heap ∧ s'.os = s₁.os ∧ AllBare s'.gens) s₁) :
    WalkO q loose XP YP l.row.toRowW d [] (fun f vs => PySem.call f vs) := by
  intro w s₀ s₁ mg mb G Y fa o pm cd doc dV kV ho hd hcd hD hmg hg args vals as hpre hlay hrd hwl hlo
  obtain rfl : dV = .none := Dflts.none hD hdf
  obtain rfl : kV = .none := Dflts.noKw hD
  obtain ⟨a, vs, ns, rfl, rfl, hobj, hints, hlen⟩ := script_of hn hpre hwl
  refine enter_call (codeAny_mono (call w s₀ s₁ mg mb fa o pm cd doc a vs ns G Y ho (fd_plain hd) hcd hmg hobj hints hlen hg) fun r s' hq => ?_)
  obtain ⟨rfl, h2, h3, h4⟩ := hq
  exact ⟨.inl ⟨.bool true, .bool true, [], rfl, fun _ => rfl, .bool true, post_true l _, fun _ => ⟨List.Pairwise.nil, fun _ hm => (nomatch hm)⟩⟩, h2, h3, h4⟩

/-! ### rules over ANY heap (no ledger) from facts about the written part K: the library's own take a ledger (News) for what they write -/
section
variable {prog : Program} {w : World} {A : Around} {E : Value → Shared → Prop} {s : Shared} {K : Frag}

/-! the whole heap as the ledger: makes every rule that writes through a ledger a rule over any heap -/
def noObjs (h : Heap) : Heap := { h with objs := #[] }
def ledger (h : Heap) (L d : Addr) : List (Addr × Obj) := (List.range h.objs.size).filterMap fun a => if a = L ∨ a = d then none else (h.get? a).map fun o => (a, o)
end
end Att

namespace L2
open PySem PySem.Spec PyProof.Rows

theorem vals_ints : ∀ {vs : List Value} {ns : List Int}, IntsAre vs ns → Vals (ns.map V.int) vs
  | _, _, .nil => .nil
  | _, _, .cons n t h => .cons ⟨t, rfl⟩ (vals_ints h)

/-- nothing is tracked but the script, known to the object (or it is an object of the module) -/
def Only (H : Hp) : Prop := ∀ b, H b = none ∨ ∃ o xs, H b = some (.frz o (.lst xs))

/-- THE HEAD: the law's promise, at the heap behind the top. F, the promise of the law's def, may use that base is part of the heap (so K.In base, base.Ns mainGlobals mg stand in Mod) -/
theorem law_call {P : Program} {w : World} {K : PySem.W.Frag} {mg mb : Str → Option Value} {CX : CXT} {k : Nat} {fa a : Addr} {fd : FuncData} {x : Str} {sp : Sp} {s₁ : Shared} {vs : List Value} {ns : List Int}
    (KX : K.In s₁.heap) (hns : s₁.heap.Ns mainGlobals mg) (hb : s₁.heap.Ns builtinsNs mb) (hbb : ∀ x : Str, x ≠ "__name__" → mb x = bootBuiltins x) (hlim : s₁.heap.NoLimit) (hg : s₁.gens = #[])
    (ha : s₁.heap.get? a = some { cls := .type "list", data := .seq vs.toArray }) (hi : IntsAre vs ns) (hl : ns.length ≤ sizeLine) (hr : Room k callerA)
    (F : ∀ base : Heap, K.In base → base.Ns mainGlobals mg → FnOk P w K mg base CX k fa fd [x] sp) (hbind : ∀ (s : Shared) (u : Value), BindsTo s fd ⟨[u], []⟩ [(x, u)])
    (hsp : ∀ H : Hp, Only H → SqL K H a (ns.map V.int) → sp [.ref a] H (fun v _ => v = .bl true) fun _ _ _ => False)
    (hCX : ∀ H e s', CX [] H s₁ (fun _ _ _ => False) e s' → False) :
    codeAny (model P w) callerA (.call (.ref fa) ⟨[.ref a], []⟩) (fun r s' => r = .ok (.ret (.bool true)) ∧ OldK s₁.heap s'.heap ∧ s'.os = s₁.os ∧ AllBare s'.gens) s₁ := by
  have rv := vals_ints hi
  have lenV := hi.length
  -- from an abstract heap in which nothing but the script may be tracked
  have core : ∀ H : Hp, Only H → SqL K H a (ns.map V.int) → HOk P w H s₁.heap → (∀ b, H b ≠ none → b = a) → (H a ≠ none → K.lookup a = none) →
      codeAny (model P w) callerA (.call (.ref fa) ⟨[.ref a], []⟩) (fun r s' => r = .ok (.ret (.bool true)) ∧ OldK s₁.heap s'.heap ∧ s'.os = s₁.os ∧ AllBare s'.gens) s₁ := by
    intro H hO hS hok hA hK
    have base_of : ∀ {b : Addr} {o : Obj}, s₁.heap.get? b = some o → H b = none → (hidT s₁.heap H).get? b = some o := fun e n => hidT_get e n
    have noA : ∀ {b : Addr} {o : Obj} {es : Array DictEntry} {ep : Nat}, s₁.heap.get? b = some o → o.data = .dict es ep → H b = none := fun {b o es ep} e d => by
      cases q : H b with
      | none => rfl
      | some u =>
        have e' : b = a := hA b (by rw [q]; simp)
        subst e'
        rw [ha] at e; cases e
        have d' : Data.seq vs.toArray _ = Data.dict es ep := d
        cases d'
    have nsK : ∀ {b : Addr} {m : Str → Option Value}, s₁.heap.Ns b m → (hidT s₁.heap H).Ns b m := fun {b m} ⟨o, es, ep, e, d, r⟩ => ⟨o, es, ep, base_of e (noA e d), d, r⟩
    have hKb : K.In (hidT s₁.heap H) := fun b o e => base_of (KX b o e) (by
      cases q : H b with
      | none => rfl
      | some u =>
        have e' : b = a := hA b (by rw [q]; simp)
        subst e'
        rw [hK (by rw [q]; simp)] at e; cases e)
    have hM : Mod K mg (hidT s₁.heap H) := ⟨hKb, nsK hns, ⟨mb, nsK hb, hbb⟩, let ⟨mc, h1, h2⟩ := hlim; ⟨mc, nsK h1, h2⟩⟩
    have e0 : Env0 P w K mg (hidT s₁.heap H) callerA [] s₁ H := ⟨rfl, hM, fun b o e => of_hidT e, Nat.le_of_eq (hidT_size _ _), trivial, fun b hb => absurd (show b ∈ ([] : List Addr) from hb) (by simp), hok, .of_eq hg⟩
    refine codeAny_mono ((F _ hKb (nsK hns)).run callerA [] s₁ H ⟨[.ref a], []⟩ [.ref a] [.ref a] _ _ hr e0 (hbind s₁ (.ref a)) (.cons rfl .nil) (hsp H hO hS)) fun r s' h => ?_
    cases r with
    | error e => exact (hCX H e s' h).elim
    | ok fl =>
      cases fl with
      | next => exact False.elim h
      | brk => exact False.elim h
      | cont => exact False.elim h
      | ret u =>
        obtain ⟨v, H', os, bare, un, hok', r', q⟩ := h
        have q' : v = .bl true := q
        subst q'
        obtain rfl : u = Value.bool true := r'
        refine ⟨rfl, OldK.of_keep fun b o e => ?_, os, bare⟩
        cases q : H b with
        | none => exact un.keep b o e q (by intro z; exact absurd (show b ∈ ([] : List Addr) from z) (by simp)) (by simp)
        | some u =>
          rcases hO b with z | ⟨ob, xs, z⟩
          · rw [q] at z; cases z
          · have z2 := un.frzs b ob _ z
            obtain ⟨e1, _⟩ := hok b _ z
            obtain ⟨e2, _⟩ := hok' b _ z2
            rw [e] at e1; cases e1
            exact e2
  cases hk : K.lookup a with
  | some o =>
    -- the script is one of the module's own objects
    have e := KX a o hk
    rw [ha] at e
    cases e
    refine core (fun _ => none) (fun _ => .inl rfl) (.inr ⟨_, vs.toArray, _, hk, rfl, rfl, rfl, by rw [List.size_toArray, lenV]; exact hl, by simpa using rv⟩) (fun b u z => by have z' : (none : Option HO) = some u := z; cases z') (fun b z => absurd rfl z) fun z => absurd rfl z
  | none =>
    refine core (fun b => if b = a then some (.frz { cls := .type "list", data := .seq vs.toArray } (.lst (ns.map V.int))) else none) (fun b => ?_) (.inl (.inr ⟨{ cls := .type "list", data := .seq vs.toArray }, if_pos rfl⟩)) (fun b u z => ?_) (fun b z => ?_) fun _ => hk
    · by_cases hb : b = a
      · exact .inr ⟨_, _, if_pos hb⟩
      · exact .inl (if_neg hb)
    · by_cases hb : b = a
      · have z' := (if_pos hb).symm.trans z
        cases z'
        subst hb
        exact ⟨ha, by rw [List.length_map]; exact hl, vs, _, rv, ha⟩
      · have z' := (if_neg hb).symm.trans z
        cases z'
    · by_cases hb : b = a
      · exact hb
      · exact absurd (if_neg hb) z
end L2

namespace L2
open PySem PySem.Spec PyProof.Rows

abbrev KOf {K : PySem.W.Frag} {h : Heap} (_ : K.In h) : PySem.W.Frag := K

/-- the goal that k_head leaves (case hc), from the law's promise. F gives the function object fd (K's own) once, then the promise over every base -/
theorem walk_of {l : PySem.W.OpenLaw} {n k : Nat} {q : Program} {loose : List Str} {XP : (Str → Option Value) → Heap → Prop} {YP : World → Heap → Prop} {d : DefRec} {K : Params → PySem.W.Frag} {CX : World → CXT} {sp : World → Sp} {x : Str}
    (hn : l.most = some n) (hn2 : n ≤ sizeLine) (hdf : d.params.defaults = []) (hr : Room k callerA)
    (hY : ∀ (w : World) (h : Heap), YP w h → (K w.params).In h)
    (F : ∀ (w : World) (mg : Str → Option Value) (fa : Addr) (h : Heap), (K w.params).In h → h.Ns mainGlobals mg → mg d.name = some (.ref fa) →
      ∃ fd : FuncData, (∀ (s : Shared) (u : Value), BindsTo s fd ⟨[u], []⟩ [(x, u)]) ∧
        ∀ base : Heap, (K w.params).In base → base.Ns mainGlobals mg → FnOk l.prog w (K w.params) mg base (CX w) k fa fd [x] (sp w))
    (hsp : ∀ (w : World) (H : Hp) (a : Addr) (ns : List Int), ns.length ≤ n → Only H → SqL (K w.params) H a (ns.map V.int) → sp w [.ref a] H (fun v _ => v = .bl true) fun _ _ _ => False)
    (hCX : ∀ (w : World) (H : Hp) (s : Shared) (e : Value) (s' : Shared), CX w [] H s (fun _ _ _ => False) e s' → False) :
    PySem.W.WalkO q loose XP YP l.row.toRowW d [] (fun f vs => PySem.call f vs) := by
  refine Att.attach_call hn hdf fun w s₀ s₁ mg mb fa o pm cd doc a vs ns G Y ho hd hcd hmg hobj hints hlen hg => ?_
  have KX := hY w _ Y
  obtain ⟨fd, hb, hF⟩ := F w mg fa _ KX G.T.g hmg
  exact law_call KX G.T.g G.T.b G.T.builtins G.T.nolimit hg hobj hints (Nat.le_trans hlen hn2) hr hF hb (fun H hO hS => hsp w H a ns hlen hO hS) fun H e s' => hCX w H s₁ e s'
end L2

/- THE LAST THEOREM (shape; LID, My.* are yours):
   My.Adr: a structure of the addresses that your layer names (classes, functions); My.Txt K t: a structure (Prop) of the equations over K;
   My.txt_mk : {K} {implicit addresses ..} (e1 : nsIn K mainGlobals "law" = some (some (.ref f))) (e2 : K.lookup f = some ⟨oc, od, .func (fnOf "law" "law" params body scope dV kV doc pm an cdv ct), sl⟩) (e3 : codeIn K cdv "law" = true) .. : ∃ t, My.Txt K t

set_option maxRecDepth 100000 in
set_option maxHeartbeats 0 in
theorem PySem.Challenge.cw_LID_holds : PySem.Challenge.rw_LID.Holds := by
  w_on; o_law; k_head; (case hw => w_witness2)
  k_fill
  refine L2.walk_of (l := PySem.Challenge.rw_LID) (n := 63) (k := 40) (x := "script") (CX := fun w => ..) (sp := fun _ => My.sp_law) rfl (by decide) rfl ⟨rfl, by decide, by decide⟩ (fun w h Y => PySem.W.kIn_of Y) ?F ?S ?C
  case F =>
    intro w mg fa h KX G hmg
    have T : ∃ t, My.Txt (L2.KOf KX) t := by
      dsimp only [L2.KOf]                          -- K must stand as «<heap const> w.params» for k_is
      refine' My.txt_mk ?e1 ?e2 ?e3 ..
      (case e1 => PySem.W.k_is)                    -- in the order: a name -> its address -> its object -> its parts
      (case e2 => PySem.W.k_is)
      ..
    obtain ⟨t, T⟩ := T
    have e0 := hmg.symm.trans (PySem.W.mg_of KX G T.law)
    cases e0                                       -- fa is the law's own address
    exact ⟨_, fun s u => .of_eq rfl, fun base kb nb => My.law_fn T kb nb⟩     -- if «.of_eq rfl» comes too early: refine' ⟨_, ?b, fun base kb nb => My.law_fn T kb nb⟩; exact fun s u => .of_eq rfl
  case S => exact fun w H a ns hl hO hS => ..
  case C => exact ..
(the tactic k_is has no namespace: write k_is) -/

/-! SHORT WORDS over the layer: a def of the text, its body, what a loop and a test want. -/
namespace L2
open PySem PySem.Spec PyProof.Rows

/-! ### the text by places -/
/-- the j-th statement of a class's body -/
def inClass (s : Stmt) (j : Nat) : Stmt := match s with
  | .ClassDef _ _ _ body _ _ _ _ _ _ _ => body.getD j (.Pass ⟨0, 0, 0, 0⟩)
  | _ => .Pass ⟨0, 0, 0, 0⟩
def defArgs (s : Stmt) : Arguments := match s with
  | .FunctionDef _ a _ _ _ _ _ _ _ _ => a
  | _ => { posonlyargs := [], args := [], vararg := none, kwonlyargs := [], kw_defaults := [], kwarg := none, defaults := [] }
def defBody (s : Stmt) : List Stmt := match s with
  | .FunctionDef _ _ b _ _ _ _ _ _ _ => b
  | _ => []
def defScope (s : Stmt) : Scope := match s with
  | .FunctionDef _ _ _ _ _ _ sc _ _ _ => sc
  | _ => { kind := .function, names := [], isGenerator := false, isCoroutine := false }

/-! ### no exception leaves a def -/
abbrev CX0 : CXT := fun _ _ _ _ _ _ => False
abbrev E0 : XK := fun _ _ _ => False
theorem pass0 {X : Cx} : Passes CX0 X E0 := fun _ _ _ _ _ _ _ h => h.elim

/-! ### a def (or method) of the text as it stands behind the top -/
structure Fun (K : PySem.W.Frag) (x qual : Str) (st : Stmt) (f : Addr) (fd : FuncData) : Prop where
  ex : ∃ (oc : Value) (od : Option Addr) (kV doc pm : Value) (an : Option Addr) (cdv ct : Value) (osl : Array (Option Value)),
    fd = PySem.W.fnOf x qual (defArgs st) (defBody st) (defScope st) .none kV doc pm an cdv ct ∧ K.lookup f = some ⟨oc, od, .func fd, osl⟩ ∧ PySem.W.codeIn K cdv qual = true
  kp : PySem.W.keepIn K (.ref f) = true
section
variable {P : Program} {w : World} {K : PySem.W.Frag} {mg : Str → Option Value} {base : Heap}
/-- THE RULE for a def: its body as a term of rules, and the reading of that term -/
theorem Fun.ok {x qual : Str} {st : Stmt} {f : Addr} {fd : FuncData} {N ps : List Str} {k : Nat} {sp : Sp} (F : Fun K x qual st f fd) (S : FnScope N ps (defScope st)) (len : ∀ vs H Q E, sp vs H Q E → vs.length = ps.length)
    (hbody : ∀ (cdv : Value) (A : Around) (outer : List Env) (s : Shared) (H : Hp) (vs : List V) (Q : VK) (E : XK), Room k (A.deeper (envOfC qual (defScope st) s.heap.objs.size f cdv)) → sp vs H Q E →
      ∃ t, PSs (cxOf CX0 P w K mg base N qual (defScope st) f cdv A outer s H E).nox (defBody st) t ∧ t { nx := fun _ H' => Q .non H', rt := Q } (start N vs) H) : FnOk P w K mg base CX0 (k + 1) f fd ps sp := by
  obtain ⟨oc, od, kV, doc, pm, an, cdv, ct, osl, rfl, lk, hcd⟩ := F.ex
  refine fn_of lk hcd S len fun A outer s H vs Q E hr hsp => ?_
  obtain ⟨t, h, q⟩ := hbody cdv A outer s H vs Q E hr hsp
  exact ⟨t, h.nox, q⟩
/-- how its arguments bind (no defaults): h is «fun _ _ _ _ _ _ us hl => match us, hl with | [_, _], _ => rfl», one _ a parameter -/
theorem Fun.binds {x qual : Str} {st : Stmt} {f : Addr} {fd : FuncData} {ps : List Str} (F : Fun K x qual st f fd)
    (h : ∀ (kV doc pm : Value) (an : Option Addr) (cdv ct : Value) (us : List Value), us.length = ps.length → bindArgs (PySem.W.fnOf x qual (defArgs st) (defBody st) (defScope st) .none kV doc pm an cdv ct) ⟨us, []⟩ = pure (ps.zip us)) : Binds K fd ps [] := by
  obtain ⟨oc, od, kV, doc, pm, an, cdv, ct, osl, rfl, lk, hcd⟩ := F.ex
  exact .all (h kV doc pm an cdv ct)
theorem fun_mk {x qual : Str} {st : Stmt} {f : Addr} {oc : Value} {od an : Option Addr} {osl : Array (Option Value)} {kV doc pm cdv ct : Value} (l : K.lookup f = some ⟨oc, od, .func (PySem.W.fnOf x qual (defArgs st) (defBody st) (defScope st) .none kV doc pm an cdv ct), osl⟩)
    (c : PySem.W.codeIn K cdv qual = true) (k : PySem.W.keepIn K (.ref f) = true) : Fun K x qual st f (PySem.W.fnOf x qual (defArgs st) (defBody st) (defScope st) .none kV doc pm an cdv ct) := ⟨⟨oc, od, kV, doc, pm, an, cdv, ct, osl, rfl, l, c⟩, k⟩
end
theorem small1000 {n : Nat} (h : n ≤ 1000) : n < sizeLine := Nat.lt_of_le_of_lt h (by decide)

/-! ### expressions in short: the name that stands in the i-th slot -/
section
variable {X : Cx}
theorem pv (i : Nat) {x : Str} {pos : Pos} (hN : X.N[i]? = some x := by rfl) (hv : Vis X.env.scope x := by first | exact Or.inl rfl | exact Or.inr (Or.inl rfl) | exact Or.inr (Or.inr rfl)) (hd : (x == ("__debug__" : Str)) = false := by decide)
    (hcd : (x == ("__classdict__" : Str)) = false := by decide) : PE X (.Name x pos) (tVar i) := pe_var hN hv hd hcd
end

/-! ### tests -/
theorem iteF {A B : Prop} (h : B) : if false = true then A else B := by
  rw [if_neg Bool.false_ne_true]
  exact h
theorem iteT {A B : Prop} (h : A) : if true = true then A else B := by
  rw [if_pos rfl]
  exact h
theorem ite2 {c A B : Prop} [Decidable c] (h1 : c → A) (h2 : ¬ c → B) : if c then A else B := by
  by_cases h : c
  · rw [if_pos h]
    exact h1 h
  · rw [if_neg h]
    exact h2 h
/-! ### heaps -/
/-- all that was tracked is as it was -/
def Same (H H' : Hp) : Prop := ∀ b o, H b = some o → H' b = some o
theorem Same.refl (H : Hp) : Same H H := fun _ _ h => h
theorem Same.trans {H H1 H2 : Hp} (a : Same H H1) (b : Same H1 H2) : Same H H2 := fun c o h => b c o (a c o h)
theorem Same.free {H H' : Hp} (e : Same H H') {l : Addr} (h : H' l = Option.none) : H l = Option.none := by
  cases q : H l with
  | none => rfl
  | some o =>
    rw [e l o q] at h
    cases h
theorem Same.seq {K : PySem.W.Frag} {H H' : Hp} {a : Addr} {xs : List V} (e : Same H H') (h : SqL K H a xs) : SqL K H' a xs := by
  rcases h with (h | ⟨o, h⟩) | h
  · exact .inl (.inl (e _ _ h))
  · exact .inl (.inr ⟨o, e _ _ h⟩)
  · exact .inr h

end L2

set_option maxHeartbeats 4000000
namespace L2
open PySem PySem.Spec PyProof.Rows
/-! ### lists of pairs as tables -/
section
variable {κ : Type} [DecidableEq κ]
def valV (kvs : List (κ × V)) (k : κ) : Option V := (kvs.find? fun kv => decide (kv.1 = k)).map (·.2)
/-- in its place, or at the end -/
def putK (kvs : List (κ × V)) (k : κ) (v : V) : List (κ × V) :=
  if (kvs.any fun kv => decide (kv.1 = k)) = true then kvs.map (fun kv => if kv.1 = k then (kv.1, v) else kv) else kvs ++ [(k, v)]
def dropK (kvs : List (κ × V)) (k : κ) : List (κ × V) := kvs.filter fun kv => decide (kv.1 ≠ k)

theorem valV_pos {p : κ × V} {r : List (κ × V)} {k : κ} (e : p.1 = k) : valV (p :: r) k = some p.2 := by simp [valV, List.find?_cons, e]
theorem valV_neg {p : κ × V} {r : List (κ × V)} {k : κ} (e : ¬ p.1 = k) : valV (p :: r) k = valV r k := by simp [valV, List.find?_cons, e]
theorem valV_any (k : κ) : ∀ kvs : List (κ × V), (kvs.any fun kv => decide (kv.1 = k)) = (valV kvs k).isSome
  | [] => rfl
  | p :: r => by
    rw [List.any_cons]
    by_cases e : p.1 = k
    · simp only [valV_pos e, decide_eq_true e, Bool.true_or, Option.isSome_some]
    · rw [valV_neg e, decide_eq_false e, Bool.false_or]; exact valV_any k r
theorem length_putK (kvs : List (κ × V)) (k : κ) (v : V) : (putK kvs k v).length ≤ kvs.length + 1 := by
  unfold putK
  split
  · rw [List.length_map]; omega
  · rw [List.length_append, List.length_cons, List.length_nil]; omega
theorem putK_new {kvs : List (κ × V)} {k : κ} (v : V) (h : valV kvs k = none) : putK kvs k v = kvs ++ [(k, v)] := by
  unfold putK
  rw [valV_any, h]
  exact if_neg (by decide)

theorem RelO.isSome_eq {o : Option V} {u : Option Value} (r : RelO o u) : o.isSome = u.isSome := by
  cases o with
  | none => cases u with
    | none => rfl
    | some _ => exact (show False from r).elim
  | some _ => cases u with
    | none => exact (show False from r).elim
    | some _ => rfl
theorem RelO.getD {o : Option V} {u : Option Value} {d : V} {d' : Value} (r : RelO o u) (rd : RelV d d') : RelV (o.getD d) (u.getD d') := by
  cases o with
  | none => cases u with
    | none => exact rd
    | some _ => exact (show False from r).elim
  | some _ => cases u with
    | none => exact (show False from r).elim
    | some _ => exact r

/-- raw tables of the same keys -/
theorem KV.val {kvs : List (κ × V)} {vs : List (κ × Value)} (r : KV kvs vs) (k : κ) : RelO (valV kvs k) (valueAt vs k) := by
  unfold KV at r
  induction r with
  | nil => exact True.intro
  | @cons p q ps qs h t ih =>
    obtain ⟨h1, h2⟩ := h
    by_cases e : p.1 = k
    · have e' : q.1 = k := h1.symm.trans e
      have b : valueAt (q :: qs) k = some q.2 := by simp [valueAt, List.find?_cons, e']
      rw [valV_pos e, b]; exact h2
    · have e' : ¬ q.1 = k := fun z => e (h1.trans z)
      have b : valueAt (q :: qs) k = valueAt qs k := by simp [valueAt, List.find?_cons, e']
      rw [valV_neg e, b]; exact ih
theorem KV.any {kvs : List (κ × V)} {vs : List (κ × Value)} (r : KV kvs vs) (k : κ) : (kvs.any fun kv => decide (kv.1 = k)) = vs.any fun kv => decide (kv.1 = k) := by
  unfold KV at r
  induction r with
  | nil => rfl
  | cons h t ih => rw [List.any_cons, List.any_cons, ih, h.1]
theorem KV.repl {kvs : List (κ × V)} {vs : List (κ × Value)} (r : KV kvs vs) (k : κ) {y : V} {u : Value} (ry : RelV y u) :
    KV (kvs.map fun kv => if kv.1 = k then (kv.1, y) else kv) (vs.map fun kv => if kv.1 = k then (kv.1, u) else kv) := by
  unfold KV at r ⊢
  induction r with
  | nil => exact .nil
  | @cons p q ps qs h t ih =>
    rw [List.map_cons, List.map_cons]
    refine .cons ?_ ih
    obtain ⟨h1, h2⟩ := h
    by_cases e : p.1 = k
    · rw [if_pos e, if_pos (h1.symm.trans e)]; exact ⟨h1, ry⟩
    · rw [if_neg e, if_neg (fun z => e (h1.trans z))]; exact ⟨h1, h2⟩
theorem KV.put {kvs : List (κ × V)} {vs : List (κ × Value)} (r : KV kvs vs) (k : κ) {y : V} {u : Value} (ry : RelV y u) : KV (putK kvs k y) (stored vs k u) := by
  unfold putK stored
  rw [r.any k]
  by_cases e : (vs.any fun kv => decide (kv.1 = k)) = true
  · rw [if_pos e, if_pos e]; exact r.repl k ry
  · rw [if_neg e, if_neg e]; exact Paired.snoc r ⟨rfl, ry⟩
theorem KV.drop {kvs : List (κ × V)} {vs : List (κ × Value)} (r : KV kvs vs) (k : κ) : KV (dropK kvs k) (without vs k) := by
  unfold KV at r ⊢
  unfold dropK without
  induction r with
  | nil => exact .nil
  | @cons p q ps qs h t ih =>
    obtain ⟨h1, h2⟩ := h
    rw [List.filter_cons, List.filter_cons]
    by_cases e : p.1 = k
    · have a : ¬ decide (p.1 ≠ k) = true := by simp [e]
      have b : ¬ decide (q.1 ≠ k) = true := by simp [h1.symm.trans e]
      rw [if_neg a, if_neg b]; exact ih
    · have e' : ¬ q.1 = k := fun z => e (h1.trans z)
      have a : decide (p.1 ≠ k) = true := by simp [e]
      have b : decide (q.1 ≠ k) = true := by simp [e']
      rw [if_pos a, if_pos b]; exact .cons ⟨h1, h2⟩ ih
theorem KV.keys {kvs : List (κ × V)} {vs : List (κ × Value)} (r : KV kvs vs) : kvs.map (·.1) = vs.map (·.1) := by
  unfold KV at r
  induction r with
  | nil => rfl
  | cons h t ih => rw [List.map_cons, List.map_cons, ih, h.1]
theorem KV.length {kvs : List (κ × V)} {vs : List (κ × Value)} (r : KV kvs vs) : kvs.length = vs.length := Paired.length r
end


/-! ### a tracked dict, its keys ints and texts or tuples of these -/
theorem kV_is {P : Program} {w : World} {k : Key} {u : Value} (r : RelV (kV k) u) : (mixKind P w).is k u = true := by
  cases k with
  | inl i => obtain ⟨t, e⟩ := (show ∃ t, u = Value.int i t from r); subst e; exact mixKind_int P w i t
  | inr x => obtain ⟨t, e⟩ := (show ∃ t, u = Value.str x t from r); subst e; exact mixKind_str P w x t
theorem items_are {P : Program} {w : World} : ∀ {ks : List Key} {us : List Value}, Vals (ks.map kV) us → ItemsAre (mixKind P w) ks us
  | [], _, r => by rw [List.map_nil] at r; cases r; exact .nil
  | k :: ks, _, r => by
    rw [List.map_cons] at r
    cases r with
    | cons h t => exact .cons (kV_is h) (items_are t)

/-- raw entries of a dict with tuple keys -/
abbrev KT (H : Hp) : List (List Key × V) → List (List Key × Addr × Value) → Prop := Paired fun p q => p.1 = q.1 ∧ H q.2.1 = some (.tup (p.1.map kV)) ∧ RelV p.2 q.2.2
theorem KT.val {H : Hp} {kvs : List (List Key × V)} {xs : List (List Key × Addr × Value)} (r : KT H kvs xs) (k : List Key) : RelO (valV kvs k) ((atKey xs k).map (·.2)) := by
  induction r with
  | nil => exact True.intro
  | @cons p q ps qs h t ih =>
    obtain ⟨h1, _, h2⟩ := h
    by_cases e : p.1 = k
    · have e' : q.1 = k := h1.symm.trans e
      have b : atKey (q :: qs) k = some q.2 := by simp [atKey, List.find?_cons, e']
      rw [valV_pos e, b]; exact h2
    · have e' : ¬ q.1 = k := fun z => e (h1.trans z)
      have b : atKey (q :: qs) k = atKey qs k := by simp [atKey, List.find?_cons, e']
      rw [valV_neg e, b]; exact ih
theorem KT.repl {H : Hp} {kvs : List (List Key × V)} {xs : List (List Key × Addr × Value)} (r : KT H kvs xs) (k : List Key) {y : V} {u : Value} (ry : RelV y u) :
    KT H (kvs.map fun kv => if kv.1 = k then (kv.1, y) else kv) (xs.map (putAt k u)) := by
  induction r with
  | nil => exact .nil
  | @cons p q ps qs h t ih =>
    rw [List.map_cons, List.map_cons]
    refine .cons ?_ ih
    obtain ⟨h1, h2, h3⟩ := h
    unfold putAt
    by_cases e : p.1 = k
    · rw [if_pos e, if_pos (h1.symm.trans e)]; exact ⟨h1, h2, ry⟩
    · rw [if_neg e, if_neg (fun z => e (h1.trans z))]; exact ⟨h1, h2, h3⟩
theorem KT.put {H : Hp} {kvs : List (List Key × V)} {xs : List (List Key × Addr × Value)} (r : KT H kvs xs) (k : List Key) {b : Addr} {y : V} {u : Value} (hb : H b = some (.tup (k.map kV))) (ry : RelV y u) :
    KT H (putK kvs k y) (storedH xs k b u) := by
  have e : (kvs.any fun kv => decide (kv.1 = k)) = (atKey xs k).isSome := by
    rw [valV_any, (r.val k).isSome_eq, Option.isSome_map]
  unfold putK storedH
  rw [e]
  by_cases q : (atKey xs k).isSome = true
  · rw [if_pos q, if_pos q]; exact r.repl k ry
  · rw [if_neg q, if_neg q]; exact Paired.snoc r ⟨rfl, hb, ry⟩
theorem KT.keeps {H H' : Hp} {kvs : List (List Key × V)} {xs : List (List Key × Addr × Value)} (r : KT H kvs xs) (ht : ∀ b ys, H b = some (.tup ys) → H' b = some (.tup ys)) : KT H' kvs xs :=
  Paired.mapP r fun _ _ z => ⟨z.1, ht _ _ z.2.1, z.2.2⟩

section
variable {P : Program} {w : World} {H : Hp} {h : Heap} {a : Addr}
theorem rd_of {u : HO} (ok : HOk P w H h) (e : Rd H a u) : ObjOk P w H h a u := e.ok ok
theorem dk_rd {kvs : List (Key × V)} (ok : HOk P w H h) (e : Rd H a (.dK kvs)) : kvs.length ≤ sizeLine ∧ (a == sysModules) = false ∧ ∃ vs, KV kvs vs ∧ h.DictOf (mixKind P w) a vs :=
  show ObjOk P w H h a (.dK kvs) from rd_of ok e
theorem dk_of {kvs : List (Key × V)} (ok : HOk P w H h) (e : H a = some (.dK kvs)) : kvs.length ≤ sizeLine ∧ (a == sysModules) = false ∧ ∃ vs, KV kvs vs ∧ h.DictOf (mixKind P w) a vs := dk_rd ok (.inl e)
/-- a tracked tuple of ints and texts is a key -/
theorem key_of {ks : List Key} (ok : HOk P w H h) (e : H a = some (.tup (ks.map kV))) : (tupleKind (mixKind P w)).is h ks a := by
  obtain ⟨_, its, r, o, h1, h2, n, h3⟩ := (show ObjOk P w H h a (.tup (ks.map kV)) from ok a _ e)
  exact ⟨o, its.toArray, n, h1, h2, h3, by simpa using items_are r⟩
theorem dt_rd {kvs : List (List Key × V)} (ok : HOk P w H h) (e : Rd H a (.dT kvs)) : kvs.length ≤ sizeLine ∧ (a == sysModules) = false ∧
    ∃ xs, KT H kvs xs ∧ h.DictOfH (tupleKind (mixKind P w)) a xs := by
  obtain ⟨z, y, xs, r, o, es, ep, h1, h2, h3, h4, h5⟩ := (show ObjOk P w H h a (.dT kvs) from rd_of ok e)
  refine ⟨z, y, xs, r, o, es, ep, h1, h2, h3, h4, fun x hx => ?_, h5⟩
  have all : ∀ {l : List (List Key × V)} {m : List (List Key × Addr × Value)}, KT H l m → ∀ x ∈ m, (tupleKind (mixKind P w)).is h x.1 x.2.1 := by
    intro l m q
    induction q with
    | nil => intro x hx; exact nomatch hx
    | @cons p q ps qs hq t ih =>
      intro x hx
      rcases List.mem_cons.mp hx with e | hx
      · subst e
        exact key_of ok (by rw [← hq.1]; exact hq.2.1)
      · exact ih x hx
  exact all r x hx
theorem dt_of {kvs : List (List Key × V)} (ok : HOk P w H h) (e : H a = some (.dT kvs)) : kvs.length ≤ sizeLine ∧ (a == sysModules) = false ∧
    ∃ xs, KT H kvs xs ∧ h.DictOfH (tupleKind (mixKind P w)) a xs := dt_rd ok (.inl e)
end

/-- what the dict at a holds at the key y -/
def DGet (H : Hp) (a : Addr) (y : V) (r : Option V) : Prop :=
  (∃ kvs k, Rd H a (.dK kvs) ∧ y = kV k ∧ r = valV kvs k) ∨ ∃ kvs k b, Rd H a (.dT kvs) ∧ y = .ref b ∧ H b = some (.tup (k.map kV)) ∧ r = valV kvs k
/-- the heap behind a[y] = v -/
def DPut (H : Hp) (a : Addr) (y v : V) (H' : Hp) : Prop :=
  (∃ kvs k, H a = some (.dK kvs) ∧ y = kV k ∧ kvs.length < sizeLine ∧ H' = upd H a (.dK (putK kvs k v))) ∨
  ∃ kvs k b, H a = some (.dT kvs) ∧ y = .ref b ∧ H b = some (.tup (k.map kV)) ∧ kvs.length < sizeLine ∧ H' = upd H a (.dT (putK kvs k v))
theorem DGet.k {H : Hp} {a : Addr} {kvs : List (Key × V)} {k : Key} (e : H a = some (.dK kvs)) : DGet H a (kV k) (valV kvs k) := .inl ⟨kvs, k, .inl e, rfl, rfl⟩
theorem DGet.t {H : Hp} {a b : Addr} {kvs : List (List Key × V)} {k : List Key} (e : H a = some (.dT kvs)) (eb : H b = some (.tup (k.map kV))) : DGet H a (.ref b) (valV kvs k) := .inr ⟨kvs, k, b, .inl e, rfl, eb, rfl⟩
theorem DPut.k {H : Hp} {a : Addr} {kvs : List (Key × V)} {k : Key} {v : V} (e : H a = some (.dK kvs)) (hl : kvs.length < sizeLine) : DPut H a (kV k) v (upd H a (.dK (putK kvs k v))) := .inl ⟨kvs, k, e, rfl, hl, rfl⟩
theorem DPut.t {H : Hp} {a b : Addr} {kvs : List (List Key × V)} {k : List Key} {v : V} (e : H a = some (.dT kvs)) (eb : H b = some (.tup (k.map kV))) (hl : kvs.length < sizeLine) :
    DPut H a (.ref b) v (upd H a (.dT (putK kvs k v))) := .inr ⟨kvs, k, b, e, rfl, eb, hl, rfl⟩


section
variable {X : Cx} {pins : List (Addr × Obj)} {σ : St} {H : Hp} {s : Shared} {a : Addr} {y v : V} {u r : Value} {o : Option V} {A : Around} {E : Value → Shared → Prop}

theorem Inv.big (I : Inv X pins σ H s) : sysModules < s.heap.objs.size := by
  have h : mainGlobals < s.heap.objs.size := (I.mod.glob.keeps I.bk).lt
  exact Nat.lt_trans (by decide) h

/-- d[y], there -/
theorem d_getItem {Q : Value → Shared → Prop} (hu : A.units + 1 < cLine) (I : Inv X pins σ H s) (g : DGet H a y (some v)) (ry : RelV y u) (h : ∀ w' s', Inv X pins σ H s' → RelV v w' → Q w' s') :
    wpAny (model X.prog X.w) A (getItem (.ref a) u) Q E s := by
  rcases g with ⟨kvs, k, e, ey, l⟩ | ⟨kvs, k, b, e, ey, eb, l⟩
  · subst ey
    obtain ⟨z, hd, vs, rel, dd⟩ := dk_rd I.hok e
    obtain ⟨w', hw, rw'⟩ := RelO.some_of (v := v) (o := valueAt vs k) (by rw [l]; exact rel.val k)
    exact wpAny_getItem_of (kV_is ry) dd.mapOf hw (h w' _ (I.tok _) rw')
  · subst ey
    cases (show u = Value.ref b from ry)
    obtain ⟨z, hd, xs, rel, dd⟩ := dt_rd I.hok e
    obtain ⟨w', hw, rw'⟩ := RelO.some_of (v := v) (o := (atKey xs k).map (·.2)) (by rw [l]; exact rel.val k)
    obtain ⟨p, hp, hp2⟩ := Option.map_eq_some_iff.mp hw
    refine wpAny_getItem_heap (tupleKind_room_in1 hu) (key_of I.hok eb) dd hp ?_
    rw [hp2]
    exact h w' _ (I.tok _) rw'
theorem d_notIn {Q : Value → Shared → Prop} (hu : A.units + 1 < cLine) (I : Inv X pins σ H s) (g : DGet H a y o) (ry : RelV y u) (h : ∀ s', Inv X pins σ H s' → Q (.bool (!o.isSome)) s') :
    wpAny (model X.prog X.w) A (compareOp .NotIn u (.ref a)) Q E s := by
  rcases g with ⟨kvs, k, e, ey, l⟩ | ⟨kvs, k, b, e, ey, eb, l⟩
  · subst ey
    obtain ⟨z, hd, vs, rel, dd⟩ := dk_rd I.hok e
    refine wpAny_notIn_of (kV_is ry) hd dd.mapOf ?_
    rw [← (rel.val k).isSome_eq, ← l]
    exact h _ (I.tok _)
  · subst ey
    cases (show u = Value.ref b from ry)
    obtain ⟨z, hd, xs, rel, dd⟩ := dt_rd I.hok e
    refine wpAny_notIn_heap (tupleKind_room_in1 hu) (key_of I.hok eb) hd dd ?_
    have q := (rel.val k).isSome_eq
    rw [Option.isSome_map] at q
    rw [← q, ← l]
    exact h _ (I.tok _)
/-- a dict's object is replaced -/
theorem d_write {h' : Heap} {t' : Nat} {ob : HO} (I : Inv X pins σ H s) (mu : Mut (H a)) (hs : Heap.SameBut a s.heap h') (he : ∃ q, h'.get? a = some q) (new : ObjOk X.prog X.w (upd H a ob) h' a ob) :
    Inv X pins σ (upd H a ob) { s with heap := h', toks := t' } :=
  I.write (x := a) (e := a) mu (.inl rfl) (fun b q hb z => (hs.2 b hb).trans z) he new
theorem dk_new {P : Program} {w : World} {H' : Hp} {h' : Heap} {kvs : List (Key × V)} {vs : List (Key × Value)} (z : kvs.length ≤ sizeLine) (hd : (a == sysModules) = false) (rel : KV kvs vs) (dd : h'.DictOf (mixKind P w) a vs) :
    ObjOk P w H' h' a (.dK kvs) := ⟨z, hd, vs, rel, dd⟩
/-- d[y] = v -/
theorem d_setItem {H' : Hp} {Q : Unit → Shared → Prop} (hu : A.units + 1 < cLine) (I : Inv X pins σ H s) (g : DPut H a y v H') (ry : RelV y u) (rv : RelV v r) (h : ∀ s', Inv X pins σ H' s' → Q () s') :
    wpAny (model X.prog X.w) A (setItem (.ref a) u r) Q E s := by
  rcases g with ⟨kvs, k, e, ey, l, eH⟩ | ⟨kvs, k, b, e, ey, eb, l, eH⟩
  · subst ey eH
    obtain ⟨z, hd, vs, rel, dd⟩ := dk_of I.hok e
    have hz : vs.length ≤ sizeLine := by rw [← rel.length]; exact z
    have hl : (putK kvs k v).length ≤ sizeLine := by have := length_putK kvs k v; omega
    refine wpAny_setItem_pairs (hsz := hz) (kV_is ry) dd fun h' dd' hs => h _ ?_
    have he : ∃ q, h'.get? a = some q := let ⟨q, _, _, hq, _⟩ := dd'; ⟨q, hq⟩
    exact d_write I (by rw [e]; exact True.intro) hs he (dk_new hl hd (rel.put k rv) dd')
  · subst ey eH
    cases (show u = Value.ref b from ry)
    obtain ⟨z, hd, xs, rel, dd⟩ := dt_of I.hok e
    have hz : xs.length ≤ sizeLine := by rw [← Paired.length rel]; exact z
    have hl : (putK kvs k v).length ≤ sizeLine := by have := length_putK kvs k v; omega
    refine wpAny_setItem_heap (hsz := hz) (tupleKind_room_in1 hu) (key_of I.hok eb) dd fun h' dd' hs => h _ ?_
    obtain ⟨q, es, ep, hq, h2, h3, h4, _, h5⟩ := dd'
    refine d_write I (by rw [e]; exact True.intro) hs ⟨q, hq⟩ ⟨hl, hd, _, (rel.put k eb rv).keeps fun c ys ec => ?_, q, es, ep, hq, h2, h3, h4, h5⟩
    rw [upd_ne (ne_of ec e (fun z => nomatch z))]
    exact ec
end

section
variable {X : Cx} {pins : List (Addr × Obj)} {σ : St} {H : Hp} {s : Shared} {a : Addr} {kvs : List (Key × V)} {k : Key} {u : Value} {A : Around} {E : Value → Shared → Prop}
end


/-! ### readings and rules -/
/-- the element of a subscription, not a slice -/
def NoSl (i : Expr) : Prop := ∀ ov iv, subscripted i false ov iv = operate [ov, iv] (getItem ov iv)
theorem subD_of {prog : Program} {w : World} {A : Around} {E : Value → Shared → Prop} {s : Shared} {env : Env} {value slice : Expr} {pos : Pos} {T id : String} {Q : Value → Shared → Prop}
    (hl : typeLookup (.type T) "__getitem__" = pure (some (.builtin id))) (hs : NoSl slice)
    (h : wpAny (model prog w) A (eval value env) (fun o s₁ => wpAny (model prog w) A (eval slice env) (fun i s₂ => s₂.TypeIs o T ∧ wpAny (model prog w) A (getItem o i) Q E s₂) E s₁) E s) :
    wpAny (model prog w) A (eval (.Subscript value slice pos) env) Q E s := by
  refine Subscript_ (wpAny_mono h (fun o s₁ h₁ => wpAny_mono h₁ (fun i s₂ h₂ => ?_) fun _ _ x => x) fun _ _ x => x)
  obtain ⟨hT, h₂⟩ := h₂
  unfold subscriptTail
  refine wpAny_bind ?_
  rw [getitemInPython_of_ne hT.not_modules]
  refine wpAny_bind (wpAny_specialOf hT hl ?_)
  have fin : wpAny (model prog w) A (subscripted slice false o i) (fun r s₃ => wpAny (model prog w) A (letTemporaryGo value o r >>= fun _ => pure r) Q E s₃) E s₂ := by
    rw [hs o i]
    exact wpAny_operating (wpAny_mono h₂ (fun r s₃ h₃ => wpAny_bind (wpAny_letTemporaryGo (wpAny_pure h₃))) fun _ _ x => x)
  first
    | exact wpAny_pure (wpAny_bind fin)
    | exact wpAny_bind (wpAny_pure (wpAny_bind fin))
    | exact wpAny_bind fin

theorem dict_typeIs {X : Cx} {pins : List (Addr × Obj)} {σ : St} {H : Hp} {s : Shared} {a : Addr} {y : V} {o : Option V} (I : Inv X pins σ H s) (g : DGet H a y o) : s.TypeIs (.ref a) "dict" := by
  rcases g with ⟨kvs, k, e, _, _⟩ | ⟨kvs, k, b, e, _, _, _⟩
  · obtain ⟨_, _, vs, _, dd⟩ := dk_rd I.hok e
    exact dd.typeIs
  · obtain ⟨_, _, xs, _, dd⟩ := dt_rd I.hok e
    exact dd.typeIs
/-- d[y] -/
def tDGet (td ty : TE) : TE := fun σ H Q => td σ H fun x H1 => ty σ H1 fun y H2 => ∃ a v, x = .ref a ∧ DGet H2 a y (some v) ∧ Q v H2
/-- y in d, y not in d -/
def tDIn (ty td : TE) : TE := fun σ H Q => ty σ H fun y H1 => td σ H1 fun x H2 => ∃ a o, x = .ref a ∧ DGet H2 a y o ∧ Q (.bl o.isSome) H2
def tDNotIn (ty td : TE) : TE := fun σ H Q => ty σ H fun y H1 => td σ H1 fun x H2 => ∃ a o, x = .ref a ∧ DGet H2 a y o ∧ Q (.bl (!o.isSome)) H2
/-- d[y] = v -/
def sDPut (td ty tv : TE) : TS := fun D σ H => tv σ H fun v H1 => td σ H1 fun x H2 => ty σ H2 fun y H3 => ∃ a H4, x = .ref a ∧ DPut H3 a y v H4 ∧ D.nx σ H4
/-- d[y] op= v -/
def sDAug (td ty tv : TE) (rd : V → V → Hp → VK → Prop) : TS := fun D σ H => td σ H fun x H1 => ty σ H1 fun y H2 => ∃ a v, x = .ref a ∧ DGet H2 a y (some v) ∧
  tv σ H2 fun y2 H3 => rd v y2 H3 fun z H4 => ∃ H5, DPut H4 a y z H5 ∧ D.nx σ H5
/-- del d[y] -/
def sDDel (td ty : TE) : TS := fun D σ H => td σ H fun x H1 => ty σ H1 fun y H2 => ∃ a kvs k, x = .ref a ∧ H2 a = some (.dK kvs) ∧ y = kV k ∧ (valV kvs k).isSome = true ∧ D.nx σ (upd H2 a (.dK (dropK kvs k)))

section
variable {X : Cx} {o i e value : Expr} {pos pos' tpos : Pos} {td ty tv : TE}
theorem pe_dget (hu : X.A.units + 1 < cLine) (ho : PE X o td) (hi : PE X i ty) (hs : NoSl i) : PE X (.Subscript o i pos) (tDGet td ty) := by
  intro pins s σ H Q I h
  refine subD_of PySem.F.slot_dict_getitem.lookup hs (thn (ho pins s σ H _ I h) fun u s1 ⟨x, H1, I1, rx, q1⟩ => thn (hi pins s1 σ H1 _ I1 q1) fun iv s2 ⟨y, H2, I2, ry, a, v, ex, g, q2⟩ => ?_)
  subst ex
  obtain rfl : u = Value.ref a := rx
  exact ⟨dict_typeIs I2 g, d_getItem hu I2 g ry fun w' s3 I3 rw' => ⟨v, H2, I3, rw', q2⟩⟩
theorem pc_dnotin (hu : X.A.units + 1 < cLine) (hi : PE X i ty) (ho : PE X o td) : PC X .NotIn i o (tDNotIn ty td) := by
  intro pins s σ H Q I h
  refine thn (hi pins s σ H _ I h) fun iv s1 ⟨y, H1, I1, ry, q1⟩ => thn (ho pins s1 σ H1 _ I1 q1) fun u s2 ⟨x, H2, I2, rx, a, ov, ex, g, q2⟩ => ?_
  subst ex
  obtain rfl : u = Value.ref a := rx
  exact d_notIn hu I2 g ry fun s3 I3 => ⟨.bl (!ov.isSome), H2, I3, rfl, q2⟩
theorem ps_dput (hu : X.A.units + 1 < cLine) (ho : PE X o td) (hi : PE X i ty) (hv : PE X value tv) (hs : swapsWith value (some (.Subscript o i pos')) pos.line X.env = pure false) :
    PS X (.Assign [.Subscript o i pos'] value pos) (sDPut td ty tv) := by
  intro pins s σ H D I h
  refine wpAny_Assign_Subscript (thn (hv pins s σ H _ I h) fun r s1 ⟨v, H1, I1, rv, q1⟩ => thn (ho pins s1 σ H1 _ I1 q1) fun u s2 ⟨x, H2, I2, rx, q2⟩ => thn (hi pins s2 σ H2 _ I2 q2) fun iv s3 ⟨y, H3, I3, ry, a, H4, ex, g, q3⟩ => ?_) hs
  subst ex
  obtain rfl : u = Value.ref a := rx
  exact d_setItem hu I3 g ry rv fun s4 I4 => ⟨σ, H4, I4, q3⟩
end


/-! ### displays -/
theorem dk_empty {P : Program} {w : World} {H : Hp} (h : Heap) (hb : sysModules < h.objs.size) : ObjOk P w H (h.push { cls := .type "dict", data := .dict #[] }) h.objs.size (.dK []) :=
  ⟨Nat.zero_le _, beq_eq_false_iff_ne.mpr (Ne.symm (Nat.ne_of_lt hb)), [], .nil, Heap.DictOf.new h⟩
/-- {}, to be a dict of the kind that is wanted -/
def tDNewK : TE := fun _ H Q => ∀ p, H p = none → Q (.ref p) (upd H p (.dK []))
def tDNewT : TE := fun _ H Q => ∀ p, H p = none → Q (.ref p) (upd H p (.dT []))
section
variable {X : Cx} {pos : Pos}
theorem pe_dnewK : PE X (.Dict [] [] pos) tDNewK := fun pins s σ H Q I h =>
  wpAny_Dict_empty ⟨.ref s.heap.objs.size, _, I.laid (a := s.heap.objs.size) (o := .dK []) (t' := s.toks) (fun _ _ q => Heap.get?_push_of_some _ q) (Nat.le_refl _) (dk_empty s.heap I.big), rfl, h _ (I.hok.fresh (Nat.le_refl _))⟩
end

/-- the pairs of a display, from the left -/
def tPairs : List (TE × TE) → St → Hp → (List (V × V) → Hp → Prop) → Prop
  | [], _, H, Q => Q [] H
  | (tk, tv) :: r, σ, H, Q => tk σ H fun x H1 => tv σ H1 fun y H2 => tPairs r σ H2 fun ps H3 => Q ((x, y) :: ps) H3
abbrev VV : List (V × V) → List (Value × Value) → Prop := Paired fun p q => RelV p.1 q.1 ∧ RelV p.2 q.2
def PPs (X : Cx) (pos : Pos) (keys : List (Option Expr)) (values : List Expr) (trs : List (TE × TE)) : Prop :=
  ∀ (pins : List (Addr × Obj)) (s : Shared) (σ : St) (H : Hp) (Q : List (V × V) → Hp → Prop), Inv X pins σ H s → tPairs trs σ H Q →
    wpAny (model X.prog X.w) X.A (evalPairs (pairTrees keys values X.env pos)) (fun vs s' => ∃ ps H', Inv X pins σ H' s' ∧ VV ps vs ∧ Q ps H') X.xe s
theorem pps_nil {X : Cx} {pos : Pos} : PPs X pos [] [] [] := fun pins s σ H Q I h => pairTrees_nil_walk ⟨[], H, I, .nil, h⟩
theorem pps_cons {X : Cx} {pos : Pos} {k v : Expr} {ks : List (Option Expr)} {vs : List Expr} {tk tv : TE} {trs : List (TE × TE)} (hk : PE X k tk) (hv : PE X v tv) (hr : PPs X pos ks vs trs) :
    PPs X pos (some k :: ks) (v :: vs) ((tk, tv) :: trs) := fun pins s σ H Q I h =>
  pairTrees_cons_walk (thn (hk pins s σ H _ I h) fun u s1 ⟨x, H1, I1, rx, q1⟩ => thn (hv pins s1 σ H1 _ I1 q1) fun w2 s2 ⟨y, H2, I2, ry, q2⟩ =>
    thn (hr pins s2 σ H2 _ I2 q2) fun ws s3 ⟨ps, H3, I3, rel, q3⟩ => ⟨(x, y) :: ps, H3, I3, .cons ⟨rx, ry⟩ rel, q3⟩)

def mergeK (kvs more : List (Key × V)) : List (Key × V) := more.foldl (fun acc kv => putK acc kv.1 kv.2) kvs
theorem KV.merge : ∀ {more : List (Key × V)} {rs : List (Key × Value)} {kvs : List (Key × V)} {vs : List (Key × Value)}, KV more rs → KV kvs vs → KV (mergeK kvs more) (merged vs rs) := by
  intro more rs kvs vs r
  unfold KV at r
  induction r generalizing kvs vs with
  | nil => intro q; exact q
  | @cons p q ps qs h t ih =>
    intro r0
    have e : KV (putK kvs p.1 p.2) (stored vs q.1 q.2) := by
      have := r0.put p.1 h.2
      rw [← h.1]; exact this
    exact ih e
theorem length_mergeK : ∀ (more kvs : List (Key × V)), (mergeK kvs more).length ≤ kvs.length + more.length
  | [], kvs => by show kvs.length ≤ kvs.length + 0; omega
  | p :: r, kvs => by
    have h1 := length_mergeK r (putK kvs p.1 p.2)
    have h2 := length_putK kvs p.1 p.2
    show (mergeK (putK kvs p.1 p.2) r).length ≤ _
    rw [List.length_cons]; omega
theorem carries_of {P : Program} {w : World} : ∀ {kvs : List (Key × V)} {ws : List (Value × Value)}, VV (kvs.map fun kv => (kV kv.1, kv.2)) ws → ∃ rs, Carries (mixKind P w) ws rs ∧ KV kvs rs
  | [], _, r => by rw [List.map_nil] at r; cases r; exact ⟨[], True.intro, .nil⟩
  | p :: kvs, _, r => by
    rw [List.map_cons] at r
    cases r with
    | @cons a b as bs h t =>
      obtain ⟨rs, c, q⟩ := carries_of (P := P) (w := w) t
      obtain ⟨b1, b2⟩ := b
      exact ⟨(p.1, b2) :: rs, ⟨kV_is h.1, rfl, c⟩, .cons ⟨rfl, h.2⟩ q⟩
/-- {k: v, ..} with keys ints and texts; the new dict stands empty while the pairs are made -/
def tDisp (trs : List (TE × TE)) : TE := fun σ H Q => ∀ p, H p = none → tPairs trs σ (upd H p (.dK [])) fun ps H2 => H2 p = some (.dK []) ∧ ∃ kvs : List (Key × V), ps = kvs.map (fun kv => (kV kv.1, kv.2)) ∧ kvs.length ≤ 15 ∧ Q (.ref p) (upd H2 p (.dK (mergeK [] kvs)))
theorem pe_disp {X : Cx} {pos : Pos} {keys : List (Option Expr)} {values : List Expr} {trs : List (TE × TE)} (h : PPs X pos keys values trs) (hall : keys.all (·.isSome) = true) (hl : keys.length = values.length) (h0 : keys ≠ [])
    (h15 : keys.length ≤ 15) : PE X (.Dict keys values pos) (tDisp trs) := by
  intro pins s σ H Q I q
  have hn := I.hok.fresh (Nat.le_refl s.heap.objs.size)
  have I1 := I.laid (a := s.heap.objs.size) (o := .dK []) (h' := s.heap.push { cls := .type "dict", data := .dict #[] }) (t' := s.toks) (fun _ _ q => Heap.get?_push_of_some _ q) (Nat.le_refl _) (dk_empty s.heap I.big)
  refine wpAny_Dict_walk (knd := mixKind X.prog X.w) hall hl h0 h15 (thn (h pins _ σ _ _ I1 (q _ hn)) fun ws s2 ⟨ps, H2, I2, rel, e, kvs, ep, lk, q2⟩ => ?_)
  subst ep
  obtain ⟨rs, c, rk⟩ := carries_of (P := X.prog) (w := X.w) rel
  obtain ⟨z, hd, vs0, r0, dd⟩ := dk_of I2.hok e
  cases r0
  refine ⟨rs, c, dd, fun h' dd' hs => ⟨.ref s.heap.objs.size, _, ?_, rfl, q2⟩⟩
  have hz : (mergeK [] kvs).length ≤ sizeLine := by
    have h1 := length_mergeK kvs []
    rw [List.length_nil] at h1
    rw [sizeLine_eq]; omega
  have he : ∃ q, h'.get? s.heap.objs.size = some q := let ⟨q, _, _, hq, _⟩ := dd'; ⟨q, hq⟩
  exact d_write I2 (by rw [e]; exact True.intro) hs he (dk_new hz hd (rk.merge .nil) dd')


/-! ### methods -/
/-- a method call o.m(e) of a built-in, with one argument: what must be seen of the text -/
structure M1 (X : Cx) (o : Expr) (m : Str) (apos : Pos) (e : Expr) (cpos : Pos) : Prop where
  base : attributeBase o m X.env (eval o X.env) = eval o X.env
  few : ((backTo cpos (starEach [e] X.env)).all (fun x => !x.1) && (backToKw cpos (keywordEach [] X.env)).all (fun x => x.1.isSome)
    && decide (([e] : List Expr).length + ([] : List Keyword).length + (if ([] : List Keyword).isEmpty then 0 else 1) < 30)) = true
  line : (apos.endLine == cpos.line) = true
  trees : backTo cpos (starEach [e] X.env) = [(false, eval e X.env)]
structure M2 (X : Cx) (o : Expr) (m : Str) (apos : Pos) (e f : Expr) (cpos : Pos) : Prop where
  base : attributeBase o m X.env (eval o X.env) = eval o X.env
  few : ((backTo cpos (starEach [e, f] X.env)).all (fun x => !x.1) && (backToKw cpos (keywordEach [] X.env)).all (fun x => x.1.isSome)
    && decide (([e, f] : List Expr).length + ([] : List Keyword).length + (if ([] : List Keyword).isEmpty then 0 else 1) < 30)) = true
  line : (apos.endLine == cpos.line) = true
  trees : backTo cpos (starEach [e, f] X.env) = [(false, eval e X.env), (false, eval f X.env)]

/-- a is a dict, whatever its keys -/
def IsD (H : Hp) (a : Addr) : Prop := (∃ kvs, Rd H a (.dK kvs)) ∨ ∃ kvs, Rd H a (.dT kvs)
section
variable {X : Cx} {pins : List (Addr × Obj)} {σ : St} {H : Hp} {s : Shared} {a : Addr} {y d : V} {u r : Value} {o : Option V} {A : Around} {E : Value → Shared → Prop}
end

def tDGet1 (td ty : TE) : TE := fun σ H Q => td σ H fun x H1 => ∃ a, x = .ref a ∧ IsD H1 a ∧ ty σ H1 fun y H2 => ∃ o, DGet H2 a y o ∧ Q (o.getD .non) H2
def tDGet2 (td ty tx : TE) : TE := fun σ H Q => td σ H fun x H1 => ∃ a, x = .ref a ∧ IsD H1 a ∧ ty σ H1 fun y H2 => tx σ H2 fun z H3 => ∃ o, DGet H3 a y o ∧ Q (o.getD z) H3
/-- d.pop(k): there; d.pop(k, x): there or not -/
def tDPop1 (td ty : TE) : TE := fun σ H Q => td σ H fun x H1 => ∃ a, x = .ref a ∧ IsD H1 a ∧ ty σ H1 fun y H2 => ∃ kvs k v, H2 a = some (.dK kvs) ∧ y = kV k ∧ valV kvs k = some v ∧ Q v (upd H2 a (.dK (dropK kvs k)))
def tDPop2 (td ty tx : TE) : TE := fun σ H Q => td σ H fun x H1 => ∃ a, x = .ref a ∧ IsD H1 a ∧ ty σ H1 fun y H2 => tx σ H2 fun z H3 => ∃ kvs k, H3 a = some (.dK kvs) ∧ y = kV k ∧
  (∀ v, valV kvs k = some v → Q v (upd H3 a (.dK (dropK kvs k)))) ∧ (valV kvs k = none → Q z H3)
section
variable {X : Cx} {o e f : Expr} {apos cpos : Pos} {td ty tx : TE}
end

/-! ### dict(d): a copy -/
section
variable {X : Cx} {pins : List (Addr × Obj)} {σ : St} {H : Hp} {s : Shared} {a : Addr} {kvs : List (Key × V)} {A : Around} {E : Value → Shared → Prop}
end


section
variable {X : Cx} {pins : List (Addr × Obj)} {σ : St} {H : Hp} {s : Shared} {a : Addr} {y : V} {u : Value} {A : Around} {E : Value → Shared → Prop}
end
end L2

namespace L2
open PySem PySem.Spec PyProof.Rows
section
variable {X : Cx}
end
/-! ### a dict's pairs: keys that differ -/
section
variable {κ : Type} [DecidableEq κ]
theorem nd_snoc : ∀ {l : List κ} {k : κ}, l.Nodup → ¬ k ∈ l → (l ++ [k]).Nodup
  | [], k, _, _ => by simp
  | a :: r, k, h, hk => by
    obtain ⟨h1, h2⟩ := List.nodup_cons.mp h
    show (a :: (r ++ [k])).Nodup
    refine List.nodup_cons.mpr ⟨fun m => ?_, nd_snoc h2 fun m => hk (List.mem_cons.mpr (Or.inr m))⟩
    rcases List.mem_append.mp m with q | q
    · exact h1 q
    · exact hk (List.mem_cons.mpr (Or.inl (List.mem_singleton.mp q).symm))
end
end L2

namespace Blk
open PySem
/-- parts joined by a blank -/
def J : List (List Nat) → List Nat
  | [] => []
  | [x] => x
  | x :: y :: r => x ++ 32 :: J (y :: r)
/-- cut at blanks -/
def C : List Nat → List (List Nat)
  | [] => [[]]
  | c :: r => if c = 32 then [] :: C r else match C r with
    | [] => [[c]]
    | p :: ps => (c :: p) :: ps
theorem C_free : ∀ (x : List Nat), 32 ∉ x → C x = [x]
  | [], _ => rfl
  | c :: r, h => by
    have h1 : ¬ c = 32 := fun e => h (by rw [e]; exact List.mem_cons_self)
    have ih := C_free r fun m => h (List.mem_cons_of_mem _ m)
    show (if c = 32 then _ else _) = _
    rw [if_neg h1, ih]
theorem C_app : ∀ (x r : List Nat), 32 ∉ x → C (x ++ 32 :: r) = x :: C r
  | [], r, _ => by
    show (if 32 = 32 then _ else _) = _
    rw [if_pos rfl]
  | c :: x, r, h => by
    have h1 : ¬ c = 32 := fun e => h (by rw [e]; exact List.mem_cons_self)
    have ih := C_app x r fun m => h (List.mem_cons_of_mem _ m)
    show (if c = 32 then _ else match C (x ++ 32 :: r) with | [] => [[c]] | p :: ps => (c :: p) :: ps) = _
    rw [if_neg h1, ih]
theorem C_J : ∀ (ps : List (List Nat)), ps ≠ [] → (∀ p ∈ ps, 32 ∉ p) → C (J ps) = ps
  | [], h, _ => absurd rfl h
  | [x], _, h => C_free x (h x List.mem_cons_self)
  | x :: y :: r, _, h => by
    show C (x ++ 32 :: J (y :: r)) = _
    rw [C_app x _ (h x List.mem_cons_self), C_J (y :: r) (by intro e; cases e) fun p hp => h p (List.mem_cons_of_mem _ hp)]
theorem J_snoc : ∀ (ws : List (List Nat)) (w : List Nat), J (ws ++ [w]) = (ws.map (· ++ [32])).flatten ++ w
  | [], w => rfl
  | [x], w => by
    show x ++ 32 :: w = _
    simp
  | x :: y :: r, w => by
    have ih := J_snoc (y :: r) w
    show x ++ 32 :: J (y :: r ++ [w]) = _
    rw [ih]
    simp
/-- texts by their signs -/
def sg (x : Str) : List Nat := x.cps.toList
theorem sg_inj {x y : Str} (h : sg x = sg y) : x = y := by
  obtain ⟨a⟩ := x
  obtain ⟨b⟩ := y
  have e : a.toList = b.toList := h
  rw [Array.toList_inj.mp e]
theorem sg_app (x y : Str) : sg (x ++ y) = sg x ++ sg y := Array.toList_append ..
theorem map_sg_inj : ∀ {a b : List Str}, a.map sg = b.map sg → a = b
  | [], [], _ => rfl
  | [], _ :: _, h => by cases h
  | _ :: _, [], h => by cases h
  | x :: a, y :: b, h => by
    have e := List.cons.inj h
    rw [sg_inj e.1, map_sg_inj e.2]
theorem J_join : ∀ ps : List Str, ps ≠ [] → sg (Str.join ⟨#[32]⟩ ps) = J (ps.map sg)
  | [], h => absurd rfl h
  | [x], _ => rfl
  | x :: y :: r, _ => by
    have ih := J_join (y :: r) (by intro e; cases e)
    show sg (x ++ ⟨#[32]⟩ ++ Str.join ⟨#[32]⟩ (y :: r)) = sg x ++ 32 :: J ((y :: r).map sg)
    rw [sg_app, sg_app, ih]
    show sg x ++ [32] ++ _ = _
    rw [List.append_assoc] <;> rfl
/-- two ways to part one text at its blanks are one -/
theorem part_unique {z : Str} {a b : List Str} (ha : a ≠ []) (hb : b ≠ []) (fa : ∀ p ∈ a, 32 ∉ sg p) (fb : ∀ p ∈ b, 32 ∉ sg p) (ja : J (a.map sg) = sg z) (jb : J (b.map sg) = sg z) : a = b := by
  have h1 := C_J (a.map sg) (by simpa using ha) (by intro p hp; obtain ⟨q, hq, rfl⟩ := List.mem_map.mp hp; exact fa q hq)
  have h2 := C_J (b.map sg) (by simpa using hb) (by intro p hp; obtain ⟨q, hq, rfl⟩ := List.mem_map.mp hp; exact fb q hq)
  rw [ja] at h1
  rw [jb] at h2
  exact map_sg_inj (h1.symm.trans h2)
/-- what holds between two turns of the parting loop: the parts that are done, the one under way -/
structure Parts (pre : List Nat) (ws : List Str) (w : Str) : Prop where
  free : ∀ p ∈ ws ++ [w], 32 ∉ sg p
  join : ((ws.map sg).map (· ++ [32])).flatten ++ sg w = pre
  many : ws.length ≤ pre.length
  len : w.length ≤ pre.length
theorem Parts.start : Parts [] [] ⟨#[]⟩ := by
  refine ⟨?_, rfl, Nat.le_refl _, Nat.le_refl _⟩
  intro p hp
  rw [List.mem_singleton.mp hp]
  intro h
  cases h
theorem Parts.blank {pre : List Nat} {ws : List Str} {w : Str} (P : Parts pre ws w) : Parts (pre ++ [32]) (ws ++ [w]) ⟨#[]⟩ := by
  refine ⟨?_, ?_, ?_, Nat.zero_le _⟩
  · intro p hp
    rcases List.mem_append.mp hp with h | h
    · exact P.free p h
    · rw [List.mem_singleton.mp h]
      intro h
      cases h
  · rw [← P.join]
    simp [sg]
  · have := P.many
    simp only [List.length_append, List.length_singleton]
    omega
theorem Parts.sign {pre : List Nat} {ws : List Str} {w : Str} {c : Nat} (P : Parts pre ws w) (h : c ≠ 32) : Parts (pre ++ [c]) ws (w ++ ⟨#[c]⟩) := by
  have e : sg (w ++ ⟨#[c]⟩) = sg w ++ [c] := sg_app ..
  refine ⟨?_, ?_, ?_, ?_⟩
  · intro p hp
    rcases List.mem_append.mp hp with q | q
    · exact P.free p (List.mem_append_left _ q)
    · rw [List.mem_singleton.mp q, e]
      intro m
      rcases List.mem_append.mp m with m | m
      · exact P.free w (List.mem_append_right _ (List.mem_singleton.mpr rfl)) m
      · exact h (List.mem_singleton.mp m).symm
  · rw [← P.join, e, List.append_assoc]
  · have := P.many
    simp only [List.length_append, List.length_singleton]
    omega
  · have := P.len
    have e2 := congrArg List.length e
    simp only [List.length_append, List.length_singleton] at e2 ⊢
    have e3 : (sg (w ++ ⟨#[c]⟩)).length = (w ++ ⟨#[c]⟩ : Str).length := by simp [sg, Str.length]
    have e4 : (sg w).length = w.length := by simp [sg, Str.length]
    omega
theorem Parts.done {z : Str} {ws : List Str} {w : Str} (P : Parts (sg z) ws w) {b : List Str} (hb : b ≠ []) (fb : ∀ p ∈ b, 32 ∉ sg p) (jb : Str.join ⟨#[32]⟩ b = z) : ws ++ [w] = b := by
  refine part_unique (z := z) (by simp) hb P.free fb ?_ ?_
  · rw [List.map_append, List.map_singleton, J_snoc]
    exact P.join
  · rw [← J_join b hb, jb]
end Blk

namespace L2
open PySem PySem.Spec PyProof.Rows
theorem small {n : Nat} (h : n ≤ 1000) : n ≤ sizeLine := Nat.le_of_lt (small1000 h)
theorem len_toList (z : Str) : z.cps.toList.length = z.length := by simp [Str.length]
theorem at_in {α : Type} {xs : List α} {i : Int} (h0 : 0 ≤ i) (h1 : i < (xs.length : Int)) : ∃ v, xs[i.toNat]? = some v ∧ atI xs i = some v := by
  have hk : i.toNat < xs.length := by omega
  have q : atI xs ((i.toNat : Nat) : Int) = some xs[i.toNat] := atI_nat (List.getElem?_eq_getElem hk)
  have e : ((i.toNat : Nat) : Int) = i := by omega
  rw [e] at q
  exact ⟨_, List.getElem?_eq_getElem hk, q⟩
theorem bt_list : bootBuiltins "list" = some (.type "list") := by decide +kernel
theorem bt_bool : bootBuiltins "bool" = some (.type "bool") := by decide +kernel
theorem bt_int : bootBuiltins "int" = some (.type "int") := by decide +kernel
theorem bt_isi : bootBuiltins "isinstance" = some (.builtin "isinstance") := by decide +kernel
theorem bt_tuple : bootBuiltins "tuple" = some (.type "tuple") := by decide +kernel
theorem rel_ty (n : String) : RelV (.ty n) (.type n) := rfl
theorem rel_str (x : Str) (t : Tok) : RelV (.str x) (.str x t) := ⟨t, rfl⟩
theorem rel_int (x : Int) (t : Tok) : RelV (.int x) (.int x t) := ⟨t, rfl⟩
/-! ### a text walked sign by sign -/
def Itx (z : Str) : It := ⟨fun i _ => i < z.cps.size, fun i H x H' => H' = H ∧ ∃ c, z.cps[i]? = some c ∧ x = .str ⟨#[c]⟩, fun i _ => i = z.cps.size⟩
section
variable {X : Cx} {tg : Expr}
def iStr (tl : TE) : TI := fun σ H R => tl σ H fun x H1 => ∃ z, x = .str z ∧ R (Itx z) H1
end
section
variable {X : Cx}
/-! ### a sign of a text, at a place that lies in it -/
def rIxSA : R2 := fun x y H Q => ∃ z i, x = .str z ∧ y = .int i ∧ z.length ≤ sizeLine ∧ 0 ≤ i ∧ i < ((z.length : Nat) : Int) ∧ ∀ c, z.cps.toList[i.toNat]? = some c → Q (.str ⟨#[c]⟩) H
theorem ix_strA : IxR X rIxSA := by
  intro value slice pins s σ H x y v u Q I rx ry h hs
  obtain ⟨z, i, rfl, rfl, hz, h0, h1, q⟩ := h
  obtain ⟨c, e1, e2⟩ := at_in (xs := z.cps.toList) h0 (by rw [len_toList]; exact h1)
  exact ix_str value slice pins s σ H _ _ v u Q I rx ry ⟨z, i, c, rfl, rfl, hz, e2, q c e1⟩ hs
/-! ### isinstance(x, a built-in class) -/
def rIsi (K : PySem.W.Frag) : List V → Hp → VK → Prop := fun xs H Q => ∃ x n t b, xs = [x, .ty n] ∧ TyOf K H x t ∧ PySem.W.kitOne K t (.type n) = some b ∧ Q (.bl b) H
theorem call_isi : CallR X (.builtin "isinstance") (rIsi X.K) := by
  intro pins s σ H xs us Q I r h
  obtain ⟨x, n, t, b, rfl, ty, e, q⟩ := h
  obtain ⟨u, w', rfl, r1, r2⟩ := vals2 r
  cases (show w' = Value.type n from r2)
  exact isinst_ok I r1 ty e fun tk => ⟨.bl b, H, I.tok tk, rfl, q⟩
theorem kit_same {K : PySem.W.Frag} (n : String) : PySem.W.kitOne K (.type n) (.type n) = some true := by
  unfold PySem.W.kitOne
  rw [if_pos (beq_self_eq_true _)]
/-! ### lists of flat things: == and != -/
def eqVs (xs ys : List V) : Bool := xs.length == ys.length && (List.range xs.length).all fun j => eqV (xs.getD j .non) (ys.getD j .non)
theorem flat_at {xs : List V} (f : xs.all flatV = true) (j : Nat) : flatV (xs.getD j .non) = true := by
  by_cases h : j < xs.length
  · rw [List.getD_eq_getElem?_getD, List.getElem?_eq_getElem h]
    exact (List.all_eq_true.mp f) _ (List.getElem_mem h)
  · rw [List.getD_eq_getElem?_getD, List.getElem?_eq_none (by omega)]
    rfl
theorem vals_at {xs : List V} {us : List Value} (r : Vals xs us) (j : Nat) (h : j < us.toArray.size) : RelV (xs.getD j .non) (us.toArray[j]) := by
  have hl := r.length
  have h' : j < us.length := by simpa using h
  have h2 : j < xs.length := by omega
  obtain ⟨u, e1, e2⟩ := r.get (List.getElem?_eq_getElem h2)
  rw [List.getD_eq_getElem?_getD, List.getElem?_eq_getElem h2]
  have e3 : us.toArray[j] = u := by
    rw [List.getElem?_eq_getElem h'] at e1
    simpa using Option.some.inj e1
  rw [e3]
  exact e2
def rEqL (K : PySem.W.Frag) (neg : Bool) : R2 := fun x y H Q => ∃ p q xs ys, x = .ref p ∧ y = .ref q ∧ SqL K H p xs ∧ SqL K H q ys ∧ xs.all flatV = true ∧ ys.all flatV = true ∧ Q (.bl (if neg then !eqVs xs ys else eqVs xs ys)) H
theorem op_ne_list (hu : X.A.units < cLine) : OpR X (compareOp .NotEq) (rEqL X.K true) := by
  intro pins s σ H x y v u Q I rx ry h
  obtain ⟨p, q, xs, ys, rfl, rfl, hp, hq, fx, fy, k⟩ := h
  cases rx
  cases ry
  obtain ⟨its, r1, l1, z1⟩ := I.list hp
  obtain ⟨jts, r2, l2, z2⟩ := I.list hq
  have e1 := r1.length
  have e2 := r2.length
  have fin : ∀ b, b = eqVs xs ys → EP X pins σ Q (.bool (!b)) s := fun b e => ⟨.bl (!b), H, I, rfl, by rw [e]; exact k⟩
  by_cases hs : xs.length = ys.length
  · refine SeqAt.RcNeAt.lists (e := fun j => eqV (xs.getD j .non) (ys.getD j .non)) l1.isList l2.isList (by simp; omega) hu (fun j h1 h2 => ?_) X.prog X.w _ _ (fin _ ?_)
    · exact eqAt_V (vals_at r1 j h1) (vals_at r2 j h2) (flat_at fx j) (flat_at fy j)
    · unfold eqVs
      rw [List.size_toArray, ← e1, hs, beq_self_eq_true, Bool.true_and]
  · refine SeqAt.RcNeAt.lists_lengths l1.isList l2.isList (by simp [bne_iff_ne]; omega) hu X.prog X.w _ _ (fin false ?_)
    unfold eqVs
    rw [beq_eq_false_iff_ne.mpr hs, Bool.false_and]
theorem eqV_refl {x : V} (f : flatV x = true) : eqV x x = true := by
  cases x with
  | non => rfl
  | bl b => exact beq_self_eq_true b
  | int i => exact beq_self_eq_true i
  | str z => exact beq_self_eq_true z
  | _ => exact absurd (show false = true from f) Bool.false_ne_true
theorem eqVs_refl {xs : List V} (f : xs.all flatV = true) : eqVs xs xs = true := by
  unfold eqVs
  rw [beq_self_eq_true, Bool.true_and]
  exact List.all_eq_true.mpr fun j _ => eqV_refl (flat_at f j)
/-! ### x.split(y) -/
def rSplit : V → List V → Hp → VK → Prop := fun x vs H Q => ∃ z y, x = .str z ∧ vs = [.str y] ∧ (y.length == 0) = false ∧ z.length + 2 ≤ sizeLine ∧ ∀ p, H p = none → Q (.ref p) (upd H p (.lst ((Txt.split z y).map V.str)))
end
/-! ### heaps -/
theorem same_new {H : Hp} {p : Addr} (h : H p = none) (o : HO) : Same H (upd H p o) := fun b u q => by rw [upd_ne (ne_of_none q h)]; exact q
theorem same_on {H H' : Hp} {p : Addr} (h : H p = none) (e : Same H H') (o : HO) : Same H (upd H' p o) := fun b u q => by rw [upd_ne (ne_of_none q h)]; exact e b u q
end L2

namespace L2
open PySem PySem.Spec PyProof.Rows
/-! ### the cells that a comprehension's block takes along -/
def closOf (cells : List (Str × Addr)) : List (Str × NameKind) → List (Str × Addr) → List (Str × Addr)
  | [], acc => acc
  | (n, k) :: r, acc => closOf cells r (if (k == .free) = true then (n, (cells.lookup n).getD 0) :: acc else acc)
theorem closureFor_of {scope : Scope} {env : Env} (h : ∀ p ∈ scope.names, p.2 = .free → (env.cells.lookup p.1).isSome = true) : closureFor scope env = pure (closOf env.cells scope.names []) := by
  obtain ⟨kd, names, g1, g2, more⟩ := scope
  simp only [closureFor]
  dsimp only at h ⊢
  generalize ([] : List (Str × Addr)) = acc
  induction names generalizing acc with
  | nil => rfl
  | cons p r ih =>
    obtain ⟨n, k⟩ := p
    have hr : ∀ p ∈ r, p.2 = .free → (env.cells.lookup p.1).isSome = true := fun p hp => h p (List.mem_cons_of_mem _ hp)
    have ih' := ih hr
    simp only [closOf]
    by_cases hk : k = .free
    · subst hk
      obtain ⟨c, hc⟩ := Option.isSome_iff_exists.mp (h (n, .free) List.mem_cons_self rfl)
      have hc' : List.lookup n env.cells = some c := hc
      rw [show (NameKind.free == NameKind.free) = true from rfl, if_pos rfl, hc']
      have e : cellOf env n = pure c := by unfold cellOf; rw [hc']
      have q := ih' ((n, c) :: acc)
      simp only [List.forIn_cons, beq_self_eq_true, if_true, e, pure_bind, Option.getD_some]
      exact q
    · have hb : (k == NameKind.free) = false := by simpa using hk
      have q := ih' acc
      simp only [List.forIn_cons, hb, Bool.false_eq_true, if_false, pure_bind]
      exact q
theorem closOf_in {cells : List (Str × Addr)} {y : Str} {c : Addr} : ∀ (names : List (Str × NameKind)) (acc : List (Str × Addr)), (∀ p ∈ names, p.2 = .free → (cells.lookup p.1).isSome = true) →
    (∀ y c, acc.lookup y = some c → cells.lookup y = some c) → (closOf cells names acc).lookup y = some c → cells.lookup y = some c
  | [], _, _, ha, h => ha _ _ h
  | (n, k) :: r, acc, hn, ha, h => by
    refine closOf_in r _ (fun p hp => hn p (List.mem_cons_of_mem _ hp)) (fun y c hy => ?_) h
    by_cases hk : (k == NameKind.free) = true
    · rw [if_pos hk] at hy
      rw [List.lookup_cons] at hy
      by_cases e : (y == n) = true
      · rw [e] at hy
        obtain ⟨d, hd⟩ := Option.isSome_iff_exists.mp (hn (n, k) List.mem_cons_self (by simpa using hk))
        have hd' : cells.lookup n = some d := hd
        have hy' : (cells.lookup n).getD 0 = c := Option.some.inj hy
        rw [hd'] at hy'
        rw [eq_of_beq e, hd']
        exact congrArg some hy'
      · rw [Bool.eq_false_iff.mpr e] at hy
        exact ha y c hy
    · rw [if_neg hk] at hy
      exact ha y c hy
theorem closOf_has {cells : List (Str × Addr)} {y : Str} : ∀ (names : List (Str × NameKind)) (acc : List (Str × Addr)), ((acc.lookup y).isSome = true ∨ (y, NameKind.free) ∈ names) → ((closOf cells names acc).lookup y).isSome = true
  | [], acc, h => h.elim id (fun z => by cases z)
  | (n, k) :: r, acc, h => by
    refine closOf_has r _ ?_
    rcases h with h | h
    · refine .inl ?_
      by_cases hk : (k == NameKind.free) = true
      · rw [if_pos hk, List.lookup_cons]
        by_cases e : (y == n) = true
        · rw [e]; rfl
        · rw [Bool.eq_false_iff.mpr e]; exact h
      · rw [if_neg hk]; exact h
    · rcases List.mem_cons.mp h with e | h
      · cases e
        refine .inl ?_
        rw [if_pos (show (NameKind.free == NameKind.free) = true from rfl), List.lookup_cons, beq_self_eq_true]
        rfl
      · exact .inr h
/-- the context of a comprehension's block -/
def compCx (X : Cx) (scope : Scope) (N' : List Str) (C : Addr) (ex : List Addr) (s₂ : Shared) (H₂ : Hp) : Cx where
  prog := X.prog
  w := X.w
  K := X.K
  mg := X.mg
  base := X.base
  A := X.A
  N := N'
  s₀ := s₂
  H₀ := H₂
  env := compEnvC scope (closOf X.env.cells scope.names []) C X.env
  outer := X.stack
  stack := X.stack
  ex := ex
  fn := fun _ => false
  calm := X.calm
  pn := []
  xe := fun _ _ => False
def FreesOk (X : Cx) (scope : Scope) : List (Str × Nat) → Prop
  | [] => True
  | p :: r => (X.N[p.2]? = some p.1 ∧ X.env.kindOf p.1 = some .cell ∧ (relabel scope X.env).names.lookup p.1 = some .cell ∧ (p.1, NameKind.free) ∈ scope.names) ∧ FreesOk X scope r
theorem FreesOk.at {X : Cx} {scope : Scope} : ∀ {fr : List (Str × Nat)}, FreesOk X scope fr → ∀ p ∈ fr, X.N[p.2]? = some p.1 ∧ X.env.kindOf p.1 = some .cell ∧ (relabel scope X.env).names.lookup p.1 = some .cell ∧ (p.1, NameKind.free) ∈ scope.names
  | [], _, p, hp => by cases hp
  | _ :: _, h, p, hp => by
    rcases List.mem_cons.mp hp with e | hp
    · rw [e]; exact h.1
    · exact FreesOk.at h.2 p hp
/-- the block's names: the loop's own, then those of the def around it -/
def inSt (frees : List (Str × Nat)) (σ : St) (x : Option V) : St := x :: frees.map fun p => (σ[p.2]?).join
/-- the tests of a clause -/
def PIfs (X : Cx) (ifs : List Expr) (t : TT) : Prop :=
  ∀ (pins : List (Addr × Obj)) (s : Shared) (σ : St) (H : Hp) (Q : Bool → Hp → Prop), Inv X pins σ H s → t σ H Q →
    wpAny (model X.prog X.w) X.A (forIn ifs true fun c r => if r = true then do let ok ← isTrue c X.env (eval c X.env); pure (ForInStep.yield ok) else pure (ForInStep.yield r)) (TP X pins σ Q) X.xe s
theorem pifs_nil {X : Cx} : PIfs X [] (fun _ H Q => Q true H) := fun _ _ _ H _ I h => wpAny_tests_nil ⟨H, I, h⟩
/-- what the block wants: W, by the turn, a measure, the items so far, the heap -/
def CompB (J : It) (tc : TT) (te : TE) (σf : Option V → St) (H1 : Hp) (Q : VK) : Prop := ∀ D, H1 D = none →
  ∃ W : Nat → Nat → List V → Hp → Prop, (∃ m, W 0 m [] (upd H1 D (.lst []))) ∧ ∀ i m ys H2, W i m ys H2 → H2 D = some (.lst ys) ∧
    ((J.stop i H2 ∧ Q (.ref D) H2) ∨ (J.go i H2 ∧ ys.length < sizeLine ∧ ∀ x H3, J.yld i H2 x H3 → tc (σf (some x)) H3 fun b H4 =>
      if b = true then te (σf (some x)) H4 fun y H5 => H5 D = some (.lst ys) ∧ ∃ m', m' < m ∧ W (i + 1) m' (ys ++ [y]) (upd H5 D (.lst (ys ++ [y]))) else ∃ m', m' < m ∧ W (i + 1) m' ys H4))
section
variable {prog : Program} {w : World} {A : Around} {R : Result → Shared → Prop} {s : Shared}
theorem comp_loop {elt target iter : Expr} {ifs : List Expr} {scope : Scope} {pos : Pos} {it acc : Value} {env : Env} (I : Nat → Shared → Prop)
    (turn : ∀ n s, I n s → wpAny (model prog w) A (pyNext it) (fun r s₁ => match r with
      | none => R (.ok .next) s₁
      | some v => wpAny (model prog w) A (letOwnedTupleGo target it v) (fun _ s₁' => wpAny (model prog w) A (assign target env v) (fun _ s₂ =>
          wpAny (model prog w) A (forIn ifs true fun c r => if r = true then do let ok ← isTrue c env (eval c env); pure (ForInStep.yield ok) else pure (ForInStep.yield r)) (fun ok s₃ =>
            if ok = true then wpAny (model prog w) A (eval elt env) (fun x s₄ =>
              wpAny (model prog w) A (call (.builtin "list.append") [acc, x]) (fun _ s₅ => ∃ m, m < n ∧ I m s₅) (fun _ _ => False) s₄) (fun _ _ => False) s₃
            else ∃ m, m < n ∧ I m s₃) (fun _ _ => False) s₂) (fun _ _ => False) s₁') (fun _ _ => False) s₁) (fun _ _ => False) s)
    (n : Nat) (h : I n s) :
    codeAny (model prog w) A (.compLoop (.ListComp elt [⟨target, iter, ifs, 0⟩] scope pos) 0 it acc env) R s := by
  have no : ∀ {α : Type} {t : Sem α} {Q : α → Shared → Prop} {E : Value → Shared → Prop} {s : Shared}, wpAny (model prog w) A t Q (fun _ _ => False) s → wpAny (model prog w) A t Q E s := fun h => wpAny_mono h (fun _ _ q => q) fun _ _ f => f.elim
  refine codeAny_loop rfl I (fun n s hI => ?_) n h
  show wpAny _ A ((compTurn (.ListComp elt [⟨target, iter, ifs, 0⟩] scope pos) 0 it acc env).onRaise (fun x => do noteFrame x env; theTreesLotGoes x)) _ _ s
  refine wpAny_noted ?_
  rw [compTurn_list]
  refine wpAny_bind (wpAny_standAt (wpAny_bind (wpAny_mono (turn n s hI) (fun r s₁ h₁ => ?_) fun _ _ h' => h'.elim)))
  cases r with
  | none => exact wpAny_pure h₁
  | some v =>
    refine wpAny_bind (wpAny_mono h₁ (fun _ s₁' h₁' => ?_) fun _ _ h' => h'.elim)
    refine wpAny_bind (wpAny_mono h₁' (fun _ s₂ h₂ => wpAny_bind (wpAny_mono h₂ (fun ok s₃ h₃ => ?_) fun _ _ h' => h'.elim)) fun _ _ h' => h'.elim)
    cases ok with
    | false => exact wpAny_pure ⟨rfl, h₃⟩
    | true =>
      exact wpAny_bind (wpAny_bind (wpAny_mono h₃ (fun x s₄ h₄ => wpAny_bind (wpAny_mono h₄ (fun _ s₅ h₅ => wpAny_pure (wpAny_pure ⟨rfl, h₅⟩)) fun _ _ h' => h'.elim)) fun _ _ h' => h'.elim))
end
section
variable {X : Cx} {elt iter : Expr} {x : Str} {px pos : Pos} {ifs : List Expr} {scope : Scope} {frees : List (Str × Nat)} {tc : TT} {te : TE}
/-- what the text of a comprehension must be -/
structure CompOk (X : Cx) (scope : Scope) (x : Str) (frees : List (Str × Nat)) : Prop where
  cell : ∀ y ∈ scope.names, y.2 ≠ .cell
  kind : scope.kind = .function
  own : scope.names.lookup x = some .local
  names : ∀ y ∈ scope.names, y.2 = .local → scope.names.lookup y.1 = some .local
  fr : FreesOk X scope frees
  nd : (x :: frees.map (·.1)).Nodup
  cl : ∀ p ∈ scope.names, p.2 = .free → (X.env.cells.lookup p.1).isSome = true
  calm : X.calm = true
theorem relabel_free {scope : Scope} {env : Env} {y : Str} (hc : ∀ y ∈ scope.names, y.2 ≠ .cell) (h : (relabel scope env).names.lookup y = some .cell ∨ (relabel scope env).names.lookup y = some .free) : (y, NameKind.free) ∈ scope.names := by
  have key : ∀ k, (relabel scope env).names.lookup y = some k → k ≠ .local → k = .cell ∨ k = .free → (y, NameKind.free) ∈ scope.names := fun k hk _ hkk => by
    have hm := PySem.mem_of_lookup hk
    obtain ⟨⟨n, k0⟩, hm0, e⟩ := List.mem_map.mp hm
    by_cases hcond : (k0 == NameKind.free && env.scope.kind == .function && env.kindOf n == some .cell) = true
    · have e' : (n, NameKind.cell) = (y, k) := by rw [← e]; exact (if_pos hcond).symm
      have hk0 : k0 = .free := by
        rw [Bool.and_eq_true, Bool.and_eq_true] at hcond
        exact eq_of_beq hcond.1.1
      have en : n = y := congrArg Prod.fst e'
      rw [← en, ← hk0]
      exact hm0
    · have e' : (n, k0) = (y, k) := by rw [← e]; exact (if_neg hcond).symm
      have en : n = y := congrArg Prod.fst e'
      have ek : k0 = k := congrArg Prod.snd e'
      rcases hkk with hkk | hkk
      · exact absurd (ek.trans hkk) (hc _ hm0)
      · rw [← en, ← hkk, ← ek]
        exact hm0
  rcases h with h | h
  · exact key _ h (by decide) (.inl rfl)
  · exact key _ h (by decide) (.inr rfl)
theorem comp_core {pins : List (Addr × Obj)} {σ : St} {H1 : Hp} {s₂ : Shared} {it : Addr} {fp : List Addr} {tn : Nat → Heap → Prop} {J : It} {Q : VK} {RR : Value → Addr → Result → Shared → Prop} {E : Value → Shared → Prop}
    (O : CompOk X scope x frees) (hc : ∀ C ex s₂ H₂, PIfs (compCx X scope (x :: frees.map (·.1)) C ex s₂ H₂) ifs tc) (he : ∀ C ex s₂ H₂, PE (compCx X scope (x :: frees.map (·.1)) C ex s₂ H₂) elt te)
    (I : Inv X pins σ H1 s₂) (T : Turn X.prog X.w X.K (.Name x px) J fp it tn) (st : tn 0 s₂.heap) (hf : ∀ b ∈ fp, FpOk X pins H1 b) (hB : CompB J tc te (inSt frees σ) H1 Q)
    (hRR : ∀ D C H' s', Inv X pins σ H' s' → (∃ m, s'.heap.Ns C m) → FpOk X pins H' C → Q (.ref D) H' → RR (.ref D) C (.ok .next) s') :
    wpAny (model X.prog X.w) X.A (newList []) (fun acc s₃ => wpAny (model X.prog X.w) X.A (newFunctionEnv scope X.env.globals (closOf X.env.cells scope.names []) [] X.env.qual none .none (some X.env)) (fun cenv s₄ =>
      codeAny (model X.prog X.w) X.A (.compStart (.ListComp elt [⟨.Name x px, iter, ifs, 0⟩] scope pos) 0 (.ref it) acc { cenv with scope := relabel scope X.env }) (RR acc cenv.locals) s₄) E s₃) E s₂ := by
  refine wpAny_newObj_type (wpAny_newFunctionEnv O.cell (by intro y hy; simp at hy) (fun h₁ hns₁ hsb₁ => ?_) O.kind)
  dsimp only at hns₁ hsb₁ ⊢
  generalize hH2 : s₂.heap.push { cls := .type "list", dict := none, data := .seq ([] : List Value).toArray } = H2 at hns₁ hsb₁ ⊢
  have hC : H2.objs.size = s₂.heap.objs.size + 1 := by rw [← hH2, Heap.size_push]
  have hDC : s₂.heap.objs.size ≠ H2.objs.size := by rw [hC]; exact Nat.ne_of_lt (Nat.lt_succ_self _)
  have hCle : s₂.heap.objs.size ≤ H2.objs.size := by rw [hC]; exact Nat.le_succ _
  have below : ∀ b, b < s₂.heap.objs.size → b ≠ H2.objs.size ∧ b ≠ s₂.heap.objs.size := fun b hb => ⟨by rw [hC]; exact Nat.ne_of_lt (Nat.lt_succ_of_lt hb), Nat.ne_of_lt hb⟩
  have old : ∀ b o, s₂.heap.get? b = some o → h₁.get? b = some o := fun b o e => hsb₁.extBut b o (below b (Heap.lt_size e)).1 (Heap.get?_push_of_some _ (hH2 ▸ Heap.get?_push_of_some _ e))
  have hacc : h₁.get? s₂.heap.objs.size = some { cls := .type "list", data := .seq ([] : List Value).toArray } := hsb₁.extBut _ _ hDC (Heap.get?_push_of_some _ (hH2 ▸ Heap.get?_push_size _ rfl))
  have nD : H1 s₂.heap.objs.size = none := I.hok.fresh (Nat.le_refl _)
  obtain ⟨W, ⟨m0, w0⟩, hW⟩ := hB s₂.heap.objs.size nD
  -- the block's context and its first state
  let X' : Cx := compCx X scope (x :: frees.map (·.1)) H2.objs.size fp s₂ H1
  have inC : ∀ y c, (closOf X.env.cells scope.names []).lookup y = some c → X.env.cells.lookup y = some c := fun y c h => closOf_in scope.names [] O.cl (fun y c h => by cases h) h
  have fpl : ∀ b ∈ fp, b < s₂.heap.objs.size := fun b hb => by
    obtain ⟨o, e, _⟩ := T.obj _ _ st b hb
    exact Heap.lt_size e
  have ok' : X'.Ok := by
    refine ⟨I.ok.mod, O.kind, I.ok.glob, I.ok.blt, hCle, fun y z c h1 h2 => I.ok.inj y z c (inC y c h1) (inC z c h2), fun y hy => ?_, fun y c h _ => (by cases h), I.ok.hd, I.ok.frames, .inl rfl, fun b hb => ?_, I.bs, Nat.le_trans I.ok.bsz I.sz, fun b o e hb => ?_, fun b hb z => ?_, I.stack, I.stkFree⟩
    · exact Option.isSome_iff_exists.mp (closOf_has scope.names [] (.inr (relabel_free O.cell hy)))
    · exact ⟨(below b (fpl b hb)).1, fun y c h => (hf b hb).2.2.2.2.1 y c (inC y c h)⟩
    · rcases (hf b hb).2.2.2.1 with z | z
      · exact I.ok.noex b o e z
      · exact absurd (Nat.lt_of_lt_of_le (Nat.lt_of_lt_of_le (Heap.lt_size e) I.ok.bsz) z) (Nat.lt_irrefl _)
    · exact (List.mem_cons.mp (I.stkSub b z)).elim (hf b hb).2.1 (hf b hb).2.2.1
  have hok1 : HOk X.prog X.w (upd H1 s₂.heap.objs.size (.lst [])) h₁ := I.hok.laid old (Nat.le_refl _) ⟨Nat.zero_le _, [], 0, .nil, hacc⟩
  have I0 : ∀ tk, Inv X' [] (inSt frees σ none) (upd H1 s₂.heap.objs.size (.lst [])) { s₂ with heap := h₁, toks := tk } := fun tk => by
    refine ⟨ok', rfl, I.bare, Un.laid old (Nat.le_refl _) nD, ⟨_, hns₁, fun i y v h1 h2 h3 => ?_⟩, fun y c h => ?_, ?_, fun y c h => ?_, fun p hp => absurd (show p ∈ ([] : List (Addr × Obj)) from hp) (by simp), hok1, ?_⟩
    · cases i with
      | zero =>
        have h2' : (none : Option V) = some v := Option.some.inj h2
        cases h2'
      | succ j =>
        have h1' : (frees.map (·.1))[j]? = some y := h1
        have h2' : (frees.map fun p => (σ[p.2]?).join)[j]? = some (some v) := h2
        rw [List.getElem?_map] at h1' h2'
        cases e : frees[j]? with
        | none => rw [e] at h1'; cases h1'
        | some p =>
          rw [e] at h1' h2'
          have e1 : p.1 = y := Option.some.inj h1'
          have e2 : (σ[p.2]?).join = some v := Option.some.inj h2'
          obtain ⟨g1, g2, g3, g4⟩ := O.fr.at p (List.mem_of_getElem? e)
          have e3 : σ[p.2]? = some (some v) := by
            cases q : σ[p.2]? with
            | none => rw [q] at e2; cases e2
            | some o => rw [q] at e2; exact congrArg some e2
          obtain ⟨m, hn, hl⟩ := I.loc
          obtain ⟨u, r, l⟩ := hl p.2 p.1 v g1 e3 (.inr (.inl g2))
          refine ⟨u, r, ?_⟩
          rcases l with ⟨k, _⟩ | ⟨_, c, hc1, hc2⟩
          · rw [g2] at k; cases k
          · obtain ⟨c2, hc3⟩ := Option.isSome_iff_exists.mp (closOf_has (cells := X.env.cells) scope.names [] (.inr g4))
            have hc4 := inC _ _ hc3
            rw [hc1] at hc4
            cases hc4
            rw [← e1]
            refine .inr ⟨.inl g3, c, hc3, ?_⟩
            obtain ⟨o, ho, hd⟩ := hc2
            exact ⟨o, old c o ho, hd⟩
    · obtain ⟨v, o, ho, hd⟩ := I.cell y c (inC y c h)
      exact ⟨v, o, old c o ho, hd⟩
    · show upd H1 s₂.heap.objs.size (.lst []) H2.objs.size = none
      rw [upd_ne (Ne.symm hDC)]
      exact I.hok.fresh hCle
    · obtain ⟨v, o, ho, hd⟩ := I.cell y c (inC y c h)
      rw [upd_ne (below c (Heap.lt_size ho)).2]
      exact I.freeC y c (inC y c h)
    · show (inSt frees σ none).length = (x :: frees.map (·.1)).length
      simp [inSt]
  have stat : ∀ {H' : Hp}, (∀ b ∈ fp, H' b = none) → ∀ b ∈ fp, FpOk X' [] H' b := fun hn b hb =>
    ⟨hn b hb, (below b (fpl b hb)).1, fun z => (List.mem_cons.mp (I.stkSub b z)).elim (hf b hb).2.1 (hf b hb).2.2.1, .inl hb, fun y c h => (hf b hb).2.2.2.2.1 y c (inC y c h), fun p hp => absurd (show p ∈ ([] : List (Addr × Obj)) from hp) (by simp)⟩
  have hst₁ : tn 0 h₁ := T.keep _ _ _ st fun b _ o e => old b o e
  have fr0 : ∀ b ∈ fp, (upd H1 s₂.heap.objs.size (.lst [])) b = none := fun b hb => by
    rw [upd_ne (below b (fpl b hb)).2]
    exact (hf b hb).1
  have loop : ∀ tk, codeAny (model X.prog X.w) X.A (.compLoop (.ListComp elt [⟨.Name x px, iter, ifs, 0⟩] scope pos) 0 (.ref it) (.ref s₂.heap.objs.size) X'.env) (RR (.ref s₂.heap.objs.size) H2.objs.size) { s₂ with heap := h₁, toks := tk } := fun tk => by
    refine comp_loop (fun n s' => ∃ i ys o H', Inv X' [] (inSt frees σ o) H' s' ∧ tn i s'.heap ∧ (∀ b ∈ fp, H' b = none) ∧ W i n ys H') ?_ m0 ⟨0, [], none, _, I0 tk, hst₁, fr0, w0⟩
    rintro n s3 ⟨i, ys, o3, H3, I3, st3, fr3, w3⟩
    obtain ⟨hD3, alt⟩ := hW i n ys H3 w3
    rcases alt with ⟨stop, q⟩ | ⟨go, hlt, step⟩
    · refine thn (T.done X' rfl rfl rfl O.calm i [] s3 _ H3 _ I3 (stat fr3) st3 stop) fun r s4 ⟨hr, I4⟩ => ?_
      subst hr
      have J4 : Inv X pins σ H3 s4 := I.call' (ch := fp) I4.os I4.base I4.hok I4.bare fun b hb => ⟨(hf b hb).2.2.2.1, (hf b hb).2.1, (hf b hb).2.2.2.2.1, (hf b hb).2.2.2.2.2⟩
      obtain ⟨m4, hn4, _⟩ := I4.loc
      exact hRR _ _ H3 s4 J4 ⟨m4, hn4⟩ (I.fpOk hCle I4.free) q
    · refine thn (T.item X' rfl rfl rfl O.calm i [] s3 _ H3 _ I3 (stat fr3) st3 go) fun r s4 ⟨u, hr, h4⟩ => ?_
      subst hr
      refine thn h4 fun _ s5 ⟨v, H5, I5, r5, y5, st5, fr5⟩ => ?_
      have I5' := I5.pinned (stat fr5) (T.obj _ _ st5)
      have tail : ∀ {σ7 : St} {H7 : Hp} {s7 : Shared}, Inv X' ([] ++ pinsAt fp s5.heap) σ7 H7 s7 → Inv X' [] σ7 H7 s7 ∧ tn (i + 1) s7.heap ∧ ∀ b ∈ fp, H7 b = none := fun {σ7 H7 s7} I7 => by
        refine ⟨I7.unpinned, T.keep _ _ _ st5 fun b hb o e => (I7.pin (b, o) (List.mem_append_right _ (List.mem_append_right _ (mem_pinsAt hb e)))).1, fun b hb => ?_⟩
        obtain ⟨o, e, d⟩ := T.obj _ _ st5 b hb
        exact (I7.pin (b, o) (List.mem_append_right _ (List.mem_append_right _ (mem_pinsAt hb e)))).2.1
      have hg : PG X' (.Name x px) (gName 0) := pg_name O.nd rfl (Or.inl (lookup_relabel_local O.own)) (.inr (lookup_relabel_local O.own))
      refine thn (hg _ s5 _ H5 v u (fun σ6 H6 => σ6 = inSt frees σ (some v) ∧ H6 = H5) I5' r5 ⟨rfl, rfl⟩) fun _ s6 ⟨σ6, H6, I6, e6, e6'⟩ => ?_
      subst e6 e6'
      refine thn (hc _ _ _ _ _ s6 _ _ _ I6 (step v _ y5)) fun b s7 ⟨H7, I7, q7⟩ => ?_
      cases b with
      | false =>
        obtain ⟨m', hm, w7⟩ := (show ∃ m', m' < n ∧ W (i + 1) m' ys H7 from q7)
        obtain ⟨t1, t2, t3⟩ := tail I7
        exact ⟨m', hm, i + 1, ys, some v, H7, t1, t2, t3, w7⟩
      | true =>
        refine thn (he _ _ _ _ _ s7 _ _ _ I7 q7) fun y s8 ⟨y', H8, I8, r8, hD8, m', hm, w8⟩ => ?_
        refine thn (mt_append (X := X') _ s8 _ H8 (.ref s₂.heap.objs.size) [y'] _ [y] (fun _ H9 => H9 = upd H8 s₂.heap.objs.size (.lst (ys ++ [y']))) I8 rfl (.cons r8 .nil) ⟨_, _, _, rfl, rfl, hD8, hlt, rfl⟩) fun _ s9 ⟨_, H9, I9, _, e9⟩ => ?_
        subst e9
        obtain ⟨t1, t2, t3⟩ := tail I9
        exact ⟨m', hm, i + 1, ys ++ [y'], some v, _, t1, t2, t3, w8⟩
  exact codeAny_compStart_list (loop _) (T.self _ 0 _ _ _ hst₁ (loop _))
/-- [elt for x in iter if ..] -/
def tComp (frees : List (Str × Nat)) (tc : TT) (te : TE) (wi : TI) : TE := fun σ H Q => wi σ H fun J H1 => CompB J tc te (inSt frees σ) H1 Q
theorem pe_comp {wi : TI} (O : CompOk X scope x frees) (hxe : X.xe = fun _ _ => False) (hi : PI X (.Name x px) iter wi)
    (hc : ∀ C ex s₂ H₂, PIfs (compCx X scope (x :: frees.map (·.1)) C ex s₂ H₂) ifs tc) (he : ∀ C ex s₂ H₂, PE (compCx X scope (x :: frees.map (·.1)) C ex s₂ H₂) elt te)
    (hs : ∀ x, foldedSetIterable iter X.env x = pure x := by intro _; rfl) : PE X (.ListComp elt [⟨.Name x px, iter, ifs, 0⟩] scope pos) (tComp frees tc te wi) := by
  intro pins s σ H Q I h
  rw [eval_ListComp]
  refine wpAny_comprehension_free (use := none) rfl hs (closureFor_of O.cl) O.kind O.names (thn (hi pins s σ H _ I h) fun xv s₁ h₁ => thn h₁ fun itv s₂ h₂ => ?_)
  obtain ⟨it, fp, tn, J, H2, e, I2, T, st2, f2, hB⟩ := h₂
  subst e
  refine comp_core (RR := fun acc C => compPost (model X.prog X.w) X.A X.xe none (EP X pins σ Q) acc C) O hc he I2 T st2 f2 hB ?_
  intro D C H' s' I' hn hC q
  obtain ⟨m, hn⟩ := hn
  refine ⟨m, hn, fun h' hs' => ?_⟩
  exact ⟨.ref D, H', I'.turned (t' := s'.toks) (fun b o hb e => hs'.extBut b o hb e) hC.1 hC.2.1 hC.2.2.2.1 hC.2.2.2.2.1 hC.2.2.2.2.2, rfl, q⟩
/-- y = [elt for x in iter if ..], y a local of the def -/
theorem ps_comp {wi : TI} {i : Nat} {y : Str} {py spos : Pos} (O : CompOk X scope x frees) (hN : X.N.Nodup) (hiy : X.N[i]? = some y) (hy : X.env.kindOf y = some .local) (hsw : swapsWith (.ListComp elt [⟨.Name x px, iter, ifs, 0⟩] scope pos) (some (.Name y py)) spos.line X.env = pure true)
    (hi : PI X (.Name x px) iter wi) (hc : ∀ C ex s₂ H₂, PIfs (compCx X scope (x :: frees.map (·.1)) C ex s₂ H₂) ifs tc) (he : ∀ C ex s₂ H₂, PE (compCx X scope (x :: frees.map (·.1)) C ex s₂ H₂) elt te)
    (hs : ∀ x, foldedSetIterable iter X.env x = pure x := by intro _; rfl) : PS X (.Assign [.Name y py] (.ListComp elt [⟨.Name x px, iter, ifs, 0⟩] scope pos) spos) (tAsg (tComp frees tc te wi) (gName i)) := by
  intro pins s σ H D I h
  rw [exec_Assign_Name_used _ _ _ _ hsw]
  refine wpAny_bind (wpAny_standAt (wpAny_bind ?_))
  show wpAny _ X.A (do let _ ← comprehension (.ListComp elt [⟨.Name x px, iter, ifs, 0⟩] scope pos) scope X.env _ (newList []) false (eval iter X.env) (some (assign (.Name y py) X.env))) _ _ s
  refine wpAny_bind (wpAny_mono (wpAny_comprehension_free (use := some (assign (.Name y py) X.env)) (Q := fun _ s' => SP X pins D .next s') rfl hs (closureFor_of O.cl) O.kind O.names
    (thn (hi pins s σ H _ I h) fun xv s₁ h₁ => thn h₁ fun itv s₂ h₂ => ?_)) (fun _ s' hq => wpAny_pure (wpAny_pure hq)) fun _ _ e => e)
  obtain ⟨it, fp, tn, J, H2, e, I2, T, st2, f2, hB⟩ := h₂
  subst e
  refine comp_core (RR := fun acc C => compPost (model X.prog X.w) X.A X.xe (some (assign (.Name y py) X.env)) (fun _ s' => SP X pins D .next s') acc C) O hc he I2 T st2 f2 hB ?_
  intro A C H' s' I' hn hC q
  obtain ⟨m, hn⟩ := hn
  obtain ⟨oC, es, ep, hoC, hdC, hr⟩ := id hn
  have I'' : Inv X (pins ++ [(C, oC)]) σ H' s' := I'.pins_of fun p hp => (List.mem_append.mp hp).elim (fun z => I'.pin p (List.mem_append_right _ z)) fun z => by
    rw [List.mem_singleton.mp z]
    exact ⟨hoC, hC.1, hC.2.1, hC.2.2.1, fun v e => by rw [hdC] at e; cases e⟩
  show wpAny _ X.A (assign (.Name y py) X.env (.ref A)) _ _ _
  refine wpAny_assign_Name (store_ok I'' hN hiy (.inl hy) (v := .ref A) rfl (fun s3 I3 => ?_) (.inr hy))
  have hC3 := (I3.pin (C, oC) (List.mem_append_right _ (List.mem_append_right _ (List.mem_singleton.mpr rfl)))).1
  have J3 : Inv X pins (σ.set i (some (.ref A))) H' s3 := I3.unpinned
  refine ⟨m, ⟨oC, es, ep, hC3, hdC, hr⟩, fun h' hs' => ?_⟩
  exact ⟨_, H', J3.turned (t' := s3.toks) (fun b o hb e => hs'.extBut b o hb e) hC.1 hC.2.1 hC.2.2.2.1 hC.2.2.2.2.1 hC.2.2.2.2.2, q⟩
end
end L2

namespace L2
open PySem PySem.Spec PyProof.Rows
section
variable {X : Cx}
/-! ### all(..) of a list of truths -/
/-! ### methods of texts -/
theorem strs_of : ∀ {ws : List Str} {us : List Value}, Vals (ws.map V.str) us → ∃ l : List (Str × Tok), us = strValues l ∧ l.map (·.1) = ws
  | [], us, r => by
    cases r
    exact ⟨[], rfl, rfl⟩
  | w :: ws, us, r => by
    cases r with
    | cons r1 r2 =>
      obtain ⟨t, rfl⟩ := r1
      obtain ⟨l, rfl, e⟩ := strs_of r2
      exact ⟨(w, t) :: l, rfl, by rw [← e]; rfl⟩
theorem mt_join : MtR X "str.join" (fun x vs H Q => ∃ (z : Str) (p : Addr) (ws : List Str), x = .str z ∧ vs = [.ref p] ∧ SqL X.K H p (ws.map V.str) ∧ JoinOk z ws = true ∧ Q (.str (Txt.join z ws)) H) := by
  intro pins s σ H x vs v us Q I rx rv h
  obtain ⟨z, p, ws, rfl, rfl, hq, hj, q⟩ := h
  obtain ⟨t, rfl⟩ := rx
  obtain ⟨u', rfl, ru⟩ := rv.one
  cases ru
  obtain ⟨its, r, pl, hz⟩ := I.list hq
  obtain ⟨l, rfl, e⟩ := strs_of r
  exact SC.join pl.isList e hj fun t' k => ⟨.str _, H, I.tok _, ⟨t', rfl⟩, q⟩
/-- x[lo:hi] of a text -/
def rSlS : V → Option Int → Option Int → Hp → VK → Prop := fun x lo hi H Q => ∃ z, x = .str z ∧ z.length ≤ sizeLine ∧ Q (.str (Txt.slice z lo hi)) H
theorem part_of {v : Value} {o : Option Int} (p : IsPart v o) : ∃ l : Option (Int × Tok), v = partValue l ∧ l.map (·.1) = o := by
  cases p with
  | none => exact ⟨none, rfl, rfl⟩
  | int i t => exact ⟨some (i, t), rfl, rfl⟩
theorem sl_str : SlR X rSlS := by
  intro pins s σ H x v vl vu lo hi sl Q I rx hs pl pu h
  obtain ⟨z, rfl, hz, q⟩ := h
  obtain ⟨t, rfl⟩ := rx
  obtain ⟨l, rfl, rfl⟩ := part_of pl
  obtain ⟨u, rfl, rfl⟩ := part_of pu
  exact ⟨"str", _, F.slot_str_getitem.lookup, typeIs_str _ _ _, wpAny_getItem_str_slice (l := l) (u := u) (st := none) hs rfl
    (post_val_or_str ⟨Nat.le_trans (Txt.slice_le z _ _) hz, fun t' k => ⟨.str _, H, I.tok _, ⟨t', rfl⟩, q⟩⟩)⟩
/-! ### signs in texts -/
/-! ### o.m(..) where the fragment is named (within a comprehension) -/
/-! ### weaker readings: a statement's (or a block's) reading by one of your own -/
theorem PS.weak {st : Stmt} {t t' : TS} (h : PS X st t) (k : ∀ D σ H, t' D σ H → t D σ H) : PS X st t' := fun pins s σ H D I hw => h pins s σ H D I (k D σ H hw)
theorem PSs.weak {st : List Stmt} {t t' : TS} (h : PSs X st t) (k : ∀ D σ H, t' D σ H → t D σ H) : PSs X st t' := fun pins s σ H D I hw => h pins s σ H D I (k D σ H hw)
end
/-! ### comprehensions whose items are reckoned without a change of the heap -/
structure Seq (J : It) (H1 : Hp) (xs : List V) : Prop where
  go : ∀ i H, Same H1 H → i < xs.length → J.go i H
  yld : ∀ i H x H', Same H1 H → i < xs.length → J.yld i H x H' → H' = H ∧ xs[i]? = some x
  stop : ∀ H, Same H1 H → J.stop xs.length H
theorem seq_range (lo : Int) (n : Nat) (H1 : Hp) : Seq (Itr lo n) H1 ((List.range n).map fun i => V.int (lo + (i : Nat))) where
  go := fun i H _ h => by
    rw [List.length_map, List.length_range] at h
    exact h
  yld := fun i H x H' _ hi h => by
    obtain ⟨e, hx⟩ := h
    refine ⟨e, ?_⟩
    rw [List.length_map, List.length_range] at hi
    rw [List.getElem?_map, List.getElem?_range hi, hx]
    rfl
  stop := fun H _ => by
    show n ≤ _
    rw [List.length_map, List.length_range]
    exact Nat.le_refl _
/-- what is asked of a comprehension's text, in short -/
def cellsFor (cells : List (Str × Addr)) (names : List (Str × NameKind)) : Bool := names.all fun p => if (p.2 == NameKind.free) = true then (cells.lookup p.1).isSome else true
theorem cellsFor_at {cells : List (Str × Addr)} {names : List (Str × NameKind)} (h : cellsFor cells names = true) : ∀ p ∈ names, p.2 = .free → (cells.lookup p.1).isSome = true := fun p hp hk => by
  have q := (List.all_eq_true.mp h) p hp
  rw [hk, show (NameKind.free == NameKind.free) = true from rfl, if_pos rfl] at q
  exact q
end L2

namespace L2
open PySem PySem.Spec PyProof.Rows
section
variable {X : Cx}
/-! ### text * number, int(text) -/
theorem kit_int_bool (K : PySem.W.Frag) : PySem.W.kitOne K (.type "int") (.type "bool") = some false := by
  have e1 : PySem.W.kitMeta "bool" = true := by decide +kernel
  have e2 : PySem.W.subIn K (.type "int") (.type "bool") = some false := by
    show (fastBuiltinMro "int").map (·.contains (Value.type "bool")) = some false
    decide +kernel
  show (if (Value.type "int" == Value.type "bool") = true then some true else (if PySem.W.kitMeta "bool" = true then PySem.W.subIn K (.type "int") (.type "bool") else none)) = some false
  rw [if_neg (by decide), if_pos e1]
  exact e2
/-! ### a list's item, at a place that lies in it -/
def rIxLA (K : PySem.W.Frag) : R2 := fun x y H Q => ∃ p xs i, x = .ref p ∧ y = .int i ∧ SqL K H p xs ∧ 0 ≤ i ∧ i < ((xs.length : Nat) : Int) ∧ ∀ v, xs[i.toNat]? = some v → Q v H
theorem ix_listA : IxR X (rIxLA X.K) := by
  intro value slice pins s σ H x y v u Q I rx ry h hs
  obtain ⟨p, xs, i, rfl, rfl, hq, h0, h1, q⟩ := h
  obtain ⟨c, e1, e2⟩ := at_in (xs := xs) h0 h1
  exact ix_list value slice pins s σ H _ _ v u Q I rx ry ⟨p, xs, i, c, rfl, rfl, hq, e2, q c e1⟩ hs
def intV : V → Bool
  | .int _ => true
  | _ => false
end
end L2

namespace L2
open PySem PySem.Spec PyProof.Rows
section
variable {X : Cx}
/-! ### readings that lean on a token's being made already (x.replace(y, z) asks whether y and z are one object) -/
def PSk (X : Cx) (st : Stmt) (t : TS) : Prop :=
  ∀ (pins : List (Addr × Obj)) (s : Shared) (σ : St) (H : Hp) (D : Ends), Inv X pins σ H s → 1 ≤ s.toks → t D σ H → wpAny (model X.prog X.w) X.A (exec st X.env) (SP X pins D) X.xe s
def PSsK (X : Cx) (st : List Stmt) (t : TS) : Prop :=
  ∀ (pins : List (Addr × Obj)) (s : Shared) (σ : St) (H : Hp) (D : Ends), Inv X pins σ H s → 1 ≤ s.toks → t D σ H → wpAny (model X.prog X.w) X.A (execs st X.env) (SP X pins D) X.xe s
def PEk (X : Cx) (e : Expr) (t : TE) : Prop :=
  ∀ (pins : List (Addr × Obj)) (s : Shared) (σ : St) (H : Hp) (Q : VK), Inv X pins σ H s → 1 ≤ s.toks → t σ H Q → wpAny (model X.prog X.w) X.A (eval e X.env) (EP X pins σ Q) X.xe s
/-- a value behind which a token was made -/
def PE1 (X : Cx) (e : Expr) (t : TE) : Prop :=
  ∀ (pins : List (Addr × Obj)) (s : Shared) (σ : St) (H : Hp) (Q : VK), Inv X pins σ H s → t σ H Q → wpAny (model X.prog X.w) X.A (eval e X.env) (fun u s' => 1 ≤ s'.toks ∧ EP X pins σ Q u s') X.xe s
def PS1 (X : Cx) (st : Stmt) (t : TS) : Prop :=
  ∀ (pins : List (Addr × Obj)) (s : Shared) (σ : St) (H : Hp) (D : Ends), Inv X pins σ H s → t D σ H → wpAny (model X.prog X.w) X.A (exec st X.env) (fun f s' => 1 ≤ s'.toks ∧ SP X pins D f s') X.xe s
theorem PS.k {st : Stmt} {t : TS} (h : PS X st t) : PSk X st t := fun pins s σ H D I _ hw => h pins s σ H D I hw
theorem PSs.k {st : List Stmt} {t : TS} (h : PSs X st t) : PSsK X st t := fun pins s σ H D I _ hw => h pins s σ H D I hw
/-- o.replace('..', '..'), two unlike texts written there -/
def tRepl (y z : Str) (to : TE) : TE := fun σ H Q => to σ H fun v H1 => ∃ x, v = .str x ∧ x.length + (x.length + 1) * z.length ≤ 16777216 ∧ ∀ u : Str, u.length ≤ x.length + (x.length + 1) * z.length → Q (.str u) H1
end
end L2

namespace L2
open PySem PySem.Spec PyProof.Rows
/-! ### enumerate(xs), enumerate(xs, start=j) over a list -/
section
variable {prog : Program} {w : World} {A : Around} {E : Value → Shared → Prop} {s : Shared}
set_option maxHeartbeats 2000000 in
end
end L2

namespace L2
open PySem PySem.Spec PyProof.Rows
section
variable {prog : Program} {w : World} {A : Around} {E : Value → Shared → Prop} {s : Shared}
end
end L2

namespace L2
open PySem PySem.Spec PyProof.Rows
section
variable {prog : Program} {w : World} {A : Around} {E : Value → Shared → Prop} {s : Shared}
end
/-- j, j + 1, .. beside the list's things -/
def Ite (K : PySem.W.Frag) (a : Addr) (j : Int) : It :=
  ⟨fun i H => ∃ xs x, SqL K H a xs ∧ xs[i]? = some x, fun i H x H' => ∃ p y, x = .ref p ∧ H p = none ∧ H' = upd H p (.tup [.int (j + (i : Nat)), y]) ∧ ∀ xs, SqL K H a xs → xs[i]? = some y, fun i H => ∃ xs, SqL K H a xs ∧ xs.length = i⟩
section
variable {X : Cx} {elts : List Expr} {x1 : Nat} {tpos : Pos}
/-- enumerate(l, start=j) -/
def iEnumK (K : PySem.W.Frag) (tl : TA) (tj : TA) : TI := fun σ H R => tl σ H fun vs H1 => tj σ H1 fun zs H2 => ∃ a j, vs = [.ref a] ∧ zs = [.int j] ∧ (∃ xs, SqL K H2 a xs) ∧ Builtin.SmallTypes.fitsIndex j = true ∧ R (Ite K a j) H2
def iEnum (K : PySem.W.Frag) (tl : TA) : TI := fun σ H R => tl σ H fun vs H1 => ∃ a, vs = [.ref a] ∧ (∃ xs, SqL K H1 a xs) ∧ R (Ite K a 0) H1
end
end L2

namespace L2
open PySem PySem.Spec PyProof.Rows
section
variable {X : Cx} {pins : List (Addr × Obj)} {σ : St} {H : Hp} {s : Shared} {d : Addr} {kvs : List (Key × V)}
/-! ### a dict is held still while a loop walks it -/
theorem Inv.freeze (I : Inv X pins σ H s) (h : H d = some (.dK kvs)) : ∃ o, s.heap.get? d = some o ∧ Inv X pins σ (upd H d (.frz o (.dK kvs))) s := by
  obtain ⟨z, hd, vs, r, o, es, ep, e, c⟩ := I.hok d _ h
  have mu : Mut (H d) := by rw [h]; trivial
  refine ⟨o, e, I.un (h' := s.heap) (t' := s.toks) (Un.write mu (.inl rfl) (fun _ _ _ q => q) ⟨o, e⟩) (I.hok.write mu (.inl rfl) (fun _ _ _ q => q) ⟨o, e⟩ ⟨e, z, hd, vs, r, o, es, ep, e, c⟩)⟩
theorem Inv.thaw {o : Obj} (I : Inv X pins σ H s) (h : H d = some (.frz o (.dK kvs))) (h0 : ∀ o u, X.H₀ d ≠ some (.frz o u)) : Inv X pins σ (upd H d (.dK kvs)) s := by
  have nn : ∀ b, H b = none → b ≠ d := fun b q z => by rw [z, h] at q; cases q
  refine ⟨I.ok, I.os, I.bare, ⟨I.base.keep, I.base.slot, fun b o' e n hx => ?_, I.base.there, fun b xs e => ?_, fun b o' u e => ?_, fun b ps e => ?_⟩, I.loc, I.cell, ?_, fun x c e => ?_, fun p hp => ?_, fun b u e => ?_, I.len⟩
  · have q := I.base.free b o' e n hx
    rw [upd_ne (nn b q)]
    exact q
  · have q := I.base.tups b xs e
    rw [upd_ne (ne_of q h (by intro z; cases z))]
    exact q
  · have q := I.base.frzs b o' u e
    rw [upd_ne (fun z => h0 o' u (by rw [← z]; exact e))]
    exact q
  · obtain ⟨more, q⟩ := I.base.tbls b ps e
    refine ⟨more, ?_⟩
    rw [upd_ne (ne_of q h (by intro z; cases z))]
    exact q
  · rw [upd_ne (nn _ I.free)]
    exact I.free
  · rw [upd_ne (nn _ (I.freeC x c e))]
    exact I.freeC x c e
  · obtain ⟨a, b, c⟩ := I.pin p hp
    exact ⟨a, by rw [upd_ne (nn _ b)]; exact b, c⟩
  · by_cases hb : b = d
    · subst hb
      rw [upd_same] at e
      cases e
      obtain ⟨q, ok⟩ := I.hok b _ h
      exact ok
    · rw [upd_ne hb] at e
      exact (I.hok b u e).stay (fun _ _ _ q => q) (fun c q => by rw [upd_ne (ne_of q h (by intro z; cases z))]; exact q) (fun c xs q => by rw [upd_ne (ne_of q h (by intro z; cases z))]; exact q)
theorem Inv.unfrozen (I : Inv X pins σ H s) (h : H d = some (.dK kvs)) : ∀ o u, X.H₀ d ≠ some (.frz o u) := fun o u e => by
  have q := I.base.frzs d o u e
  rw [h] at q
  cases q
def tFrz (t : TE) : TE := fun σ H Q => ∃ (d : Addr) (kvs : List (Key × V)), H d = some (.dK kvs) ∧ ∀ o, t σ (upd H d (.frz o (.dK kvs))) fun v H' => H' d = some (.frz o (.dK kvs)) ∧ Q v (upd H' d (.dK kvs))
def sFrz (t : TS) : TS := fun D σ H => ∃ (d : Addr) (kvs : List (Key × V)), H d = some (.dK kvs) ∧ ∀ o, t { nx := fun σ' H' => H' d = some (.frz o (.dK kvs)) ∧ D.nx σ' (upd H' d (.dK kvs)), rt := fun v H' => H' d = some (.frz o (.dK kvs)) ∧ D.rt v (upd H' d (.dK kvs)), bk := fun σ' H' => H' d = some (.frz o (.dK kvs)) ∧ D.bk σ' (upd H' d (.dK kvs)), ct := fun σ' H' => H' d = some (.frz o (.dK kvs)) ∧ D.ct σ' (upd H' d (.dK kvs)) } σ (upd H d (.frz o (.dK kvs)))
theorem ps_frz {st : Stmt} {t : TS} (h : PS X st t) : PS X st (sFrz t) := by
  intro pins s σ H D I hw
  obtain ⟨d, kvs, hd, q⟩ := hw
  obtain ⟨o, eo, I1⟩ := I.freeze hd
  refine thn (h pins s σ _ _ I1 (q o)) fun f s1 q1 => ?_
  have un := I.unfrozen hd
  cases f with
  | next => obtain ⟨σ', H', I2, hz, q2⟩ := q1; exact ⟨σ', _, I2.thaw hz un, q2⟩
  | brk => obtain ⟨σ', H', I2, hz, q2⟩ := q1; exact ⟨σ', _, I2.thaw hz un, q2⟩
  | cont => obtain ⟨σ', H', I2, hz, q2⟩ := q1; exact ⟨σ', _, I2.thaw hz un, q2⟩
  | ret u => obtain ⟨v, σ', H', I2, r, hz, q2⟩ := q1; exact ⟨v, σ', _, I2.thaw hz un, r, q2⟩
end
/-- a dict's keys, in order -/
def Itd (d : Addr) (o : Obj) (kvs : List (Key × V)) : It :=
  ⟨fun i H => H d = some (.frz o (.dK kvs)) ∧ i < kvs.length, fun i H x H' => H' = H ∧ ∃ k v, kvs[i]? = some (k, v) ∧ x = kV k, fun i H => H d = some (.frz o (.dK kvs)) ∧ kvs.length = i⟩
theorem rel_key {k : Key} {v : Value} (h : keyIs k v = true) : RelV (kV k) v := by
  rcases keyIs_shape h with ⟨i, t, rfl, rfl⟩ | ⟨x, t, rfl, rfl⟩
  · exact ⟨t, rfl⟩
  · exact ⟨t, rfl⟩
theorem turn_dict {P : Program} {w : World} {K : PySem.W.Frag} {tg : Expr} (d it : Addr) (o : Obj) (kvs : List (Key × V)) {vs : List (Key × Value)} {es : Array DictEntry} {ep : Nat} (rk : KV kvs vs) (hd : o.ExactDict) (he : o.data = .dict es ep) (hk : KeysOf (mixKind P w) es) (hp : Pairs (mixKind P w) es.toList vs) (nd : (vs.map (·.1)).Nodup) :
    Turn P w K tg (Itd d o kvs) [it] it (fun i h => h.IsKeyIter it d i vs.length ep) where
  mem := by simp
  obj := fun i h st b hb => by
    have e : b = it := by simpa using hb
    subst e
    obtain ⟨o, e, c, d⟩ := st
    exact ⟨o, e, fun v z => by rw [d] at z; cases z⟩
  keep := fun i h h' st k => st.at fun o e => k it (by simp) o e
  item := by
    intro X hP hw hK hc i pins s σ H E I hf st hg
    subst hP hw hK
    obtain ⟨hz, hi⟩ := hg
    obtain ⟨eo, _⟩ := I.hok d _ hz
    obtain ⟨f0, f1, f2, f3, f4, f5⟩ := hf it (by simp)
    have hl := KV.length rk
    have hi2 : i < vs.length := by omega
    have ev : vs[i]? = some (vs[i].1, vs[i].2) := List.getElem?_eq_getElem hi2
    have ks : kvs[i]? = some (kvs[i].1, kvs[i].2) := List.getElem?_eq_getElem hi
    have keq : kvs[i].1 = vs[i].1 := by
      have q := KV.keys rk
      have q1 : (kvs.map (·.1))[i]? = (vs.map (·.1))[i]? := by rw [q]
      rw [List.getElem?_map, List.getElem?_map, ks, ev] at q1
      exact Option.some.inj q1
    refine wpAny_pyNext_dict_item st ⟨o, es, eo, hd, he, hk, hp, nd⟩ ev fun key h' hkey st' sb => ?_
    have I1 : Inv X pins σ H { s with heap := h' } := I.turned (t' := s.toks) (fun b o hb e => (sb.2 b hb).trans e) f0 f1 f3 f4 f5
    obtain ⟨o2, e2, c2, d2⟩ := id st'
    refine ⟨key, rfl, go_of (s := { s with heap := h' }) e2 c2 d2 (by decide) ⟨kV kvs[i].1, H, I1, ?_, ⟨rfl, _, _, ks, rfl⟩, st', fun b hb => (hf b hb).1⟩⟩
    rw [keq]
    exact rel_key hkey
  done := by
    intro X hP hw hK hc i pins s σ H E I hf st hg
    subst hP hw hK
    obtain ⟨hz, hi⟩ := hg
    obtain ⟨eo, _⟩ := I.hok d _ hz
    obtain ⟨f0, f1, f2, f3, f4, f5⟩ := hf it (by simp)
    have hl := KV.length rk
    have hin : vs[i]? = none := List.getElem?_eq_none (by omega)
    exact wpAny_pyNext_dict_end (I.ok.hd hc) st ⟨o, es, eo, hd, he, hk, hp, nd⟩ hin fun h' eb => ⟨rfl, I.turned (t' := s.toks) (fun b o hb e => eb b o hb e) f0 f1 f3 f4 f5⟩
  self := fun _ _ _ _ _ st h => wpAny_pyIter_keyiter st h
section
variable {X : Cx} {tg : Expr}
def iDict (tl : TE) : TI := fun σ H R => tl σ H fun x H1 => ∃ d o kvs, x = .ref d ∧ H1 d = some (.frz o (.dK kvs)) ∧ R (Itd d o kvs) H1
theorem pi_dict {l : Expr} {tl : TE} (hl : PE X l tl) : PI X tg l (iDict tl) := by
  intro pins s σ H R I h
  refine thn (hl pins s σ H _ I h) fun v s1 ⟨x, H1, I1, r1, q1⟩ => ?_
  obtain ⟨d, o, kvs, rfl, hz, q⟩ := q1
  cases r1
  obtain ⟨eo, z, hd, vs, rk, o', es, ep, e', xd, dt, ko, pr, nd⟩ := I1.hok d _ hz
  rw [eo] at e'
  cases e'
  refine wpAny_pyIter_dict hd ⟨o, es, eo, xd, dt, ko, pr, nd⟩ ?_
  refine ⟨s1.heap.objs.size, [s1.heap.objs.size], _, _, H1, rfl, I1.kept (t' := s1.toks) fun b o e => Heap.get?_push_of_some _ e, turn_dict d _ o kvs rk xd dt ko pr nd, ⟨_, Heap.get?_push_size _ rfl, rfl, rfl⟩, fun b hb => ?_, q⟩
  have e : b = s1.heap.objs.size := by simpa using hb
  subst e
  exact I1.fpOk (Nat.le_refl _) (I1.hok.fresh (Nat.le_refl _))
theorem seq_dict {d : Addr} {o : Obj} {kvs : List (Key × V)} {H1 : Hp} (h : H1 d = some (.frz o (.dK kvs))) : Seq (Itd d o kvs) H1 (kvs.map fun p => kV p.1) where
  go := fun i H e hi => ⟨e _ _ h, by rw [List.length_map] at hi; exact hi⟩
  yld := fun i H x H' e _ y => by
    obtain ⟨a, k, v, b, c⟩ := y
    refine ⟨a, ?_⟩
    rw [List.getElem?_map, b, c]
    rfl
  stop := fun H e => ⟨e _ _ h, by rw [List.length_map]⟩
/-! ### xs.insert(i, y) at a place that lies in it -/
def rInsert : V → List V → Hp → VK → Prop := fun x vs H Q => ∃ l xs i y, x = .ref l ∧ vs = [.int i, y] ∧ H l = some (.lst xs) ∧ 0 ≤ i ∧ i ≤ ((xs.length : Nat) : Int) ∧ xs.length < sizeLine ∧ Q .non (upd H l (.lst (xs.take i.toNat ++ y :: xs.drop i.toNat)))
/-! ### a def of the text, all in one -/
structure Dfn (P : Program) (w : World) (K : PySem.W.Frag) (mg : Str → Option Value) (base : Heap) (k : Nat) (x : Str) (ps : List Str) (sp : Sp) : Prop where
  ex : ∃ f fd, FnOk P w K mg base CX0 k f fd ps sp ∧ Binds K fd ps [] ∧ PySem.W.keepIn K (.ref f) = true ∧ mg x = some (.ref f)
theorem pe_callD {k : Nat} {x : Str} {ps : List Str} {sp : Sp} {e : Expr} {es : List Expr} {t : TA} {p pos : Pos} (D : Dfn X.prog X.w X.K X.mg X.base k x ps sp) (hr : Room k X.A) (hg : Gl X x) (ha : PA X (e :: es) t) (hdb : (x == ("__debug__" : Str)) = false := by decide)
    (he : starEach (e :: es) X.env = (false, eval e X.env) :: starEach es X.env := by rfl) (hpl : (backTo pos (starEach es X.env)).any (·.1) = false := by rfl) : PE X (.Call (.Name x p) (e :: es) [] pos) (tCall sp [] E0 t) := by
  obtain ⟨f, fd, F, b, kp, m⟩ := D.ex
  exact pe_call F hr hg m kp b .nil pass0 ha hdb he hpl
structure GS (mg : Str → Option Value) (x : Str) (z : Str) : Prop where
  ex : ∃ t, mg x = some (.str z t)
structure GI (mg : Str → Option Value) (x : Str) (z : Int) : Prop where
  ex : ∃ t, mg x = some (.int z t)
theorem pe_gs {x z : Str} {pos : Pos} (G : GS X.mg x z) (hg : Gl X x) (hd : (x == ("__debug__" : Str)) = false := by decide) : PE X (.Name x pos) (tC (.str z)) := by
  obtain ⟨t, e⟩ := G.ex
  exact pe_glob hg e (rel_str _ _) hd
theorem pe_gi {x : Str} {z : Int} {pos : Pos} (G : GI X.mg x z) (hg : Gl X x) (hd : (x == ("__debug__" : Str)) = false := by decide) : PE X (.Name x pos) (tC (.int z)) := by
  obtain ⟨t, e⟩ := G.ex
  exact pe_glob hg e (rel_int _ _) hd
end
end L2

namespace L2
open PySem PySem.Spec PyProof.Rows
section
variable {X : Cx}
/-! ### a class that is made; a method: all in one -/
structure MkD (P : Program) (w : World) (K : PySem.W.Frag) (mg : Str → Option Value) (base : Heap) (k : Nat) (x : Str) (C : Addr) (ps : List Str) (sp : Sp) : Prop where
  ex : ∃ f fd, Mk K C f ∧ FnOk P w K mg base CX0 k f fd ps sp ∧ Binds K fd ps [] ∧ mg x = some (.ref C)
structure MtD (P : Program) (w : World) (K : PySem.W.Frag) (mg : Str → Option Value) (base : Heap) (k : Nat) (m : Str) (C : Addr) (ps : List Str) (sp : Sp) : Prop where
  ex : ∃ f fd, Meth K C m f ∧ FnOk P w K mg base CX0 k f fd ps sp ∧ Binds K fd ps []
theorem pe_ixK {K : PySem.W.Frag} {a b : Expr} {ta tb : TE} {pos : Pos} {r : PySem.W.Frag → R2} (hK : X.K = K) (hr : IxR X (r X.K)) (ha : PE X a ta) (hb : PE X b tb) (hs : PlainIx b) : PE X (.Subscript a b pos) (tOp (r K) ta tb) := by
  subst hK
  exact pe_ix hr ha hb hs
/-! ### the names' values written out anew -/
def tAt (t : TS) : TS := fun D σ H => ∃ σ', σ = σ' ∧ t D σ' H
/-! ### classes by isinstance: tuples, lists, texts, numbers, truths, None -/
end
end L2

namespace PySem.W
open PySem PySem.Spec PySem.Calls PyProof.Rows Builtin Builtin.ObjectAttr Builtin.Getset_descriptor
/-! ### own classes of refusals: made by ValueError's new, by an own __init__ -/
abbrev veMro : List Value := [.type "ValueError", .type "Exception", .type "BaseException", .type "object"]
def excMk (K : Frag) (C : Addr) : Bool := match K.lookup C with
  | some ⟨.type "type", _, .cls cd, sls⟩ => (match cd.mro, sls.toList with
    | .ref C' :: tlm, [_, _, _, _, some (.builtin n), _] => C' == C && n == "ValueError.__new__" && !cd.hasDel && tailIn K veMro tlm
    | _, _ => false)
  | _ => false
def ExcAt (h : Heap) (C : Addr) (tlm : List Value) : Prop := ∃ N nm q bs hdct sn sub ab col dd q0 q1 q2 q3 q5, h.get? C = some (excClassObj nm q C N bs tlm hdct sn sub ab col dd q0 q1 q2 q3 q5 "ValueError.__new__")
abbrev excTup (us : List Value) : Obj := { cls := .type "tuple", data := .seq us.toArray }
abbrev excNew (C t0 : Addr) : Obj := { cls := .ref C, data := .fields #[.ref t0, .none, .none, .none, .bool false, .none] }
section
variable {prog : Program} {w : World} {A : Around} {K : Frag} {C f : Addr} {R : Result → Shared → Prop} {h : Heap} {g : Array GenState} {d : Drawn} {t : Nat} {os : OsState}
end
end PySem.W

namespace PySem.W
open PySem PySem.Spec PySem.Calls PyProof.Rows Builtin Builtin.ObjectAttr Builtin.Getset_descriptor
/-! ### attributes of a refusal -/
def onlyVE : List Value → Bool
  | .ref _ :: r => onlyVE r
  | .type n :: r => (.type n :: r) == veMro
  | _ => false
def excOver (K : Frag) (C : Addr) : Bool := (clsIn K C).any fun cdt => onlyVE cdt.mro
section
variable {prog : Program} {w : World} {A : Around} {K : Frag} {C x : Addr} {s : Shared} {R : Result → Shared → Prop}
variable {E : Value → Shared → Prop} {vs : Array Value} {sl : Array (Option Value)} {nm : Str} {v : Value}
end
end PySem.W

namespace PySem.W
open PySem PySem.Spec PySem.Calls PyProof.Rows Builtin Builtin.ObjectAttr Builtin.Getset_descriptor
section
variable {prog : Program} {w : World} {A : Around} {K : Frag} {C x : Addr} {s : Shared} {E : Value → Shared → Prop} {ox : Obj} {od : Option Obj} {nm : Str} {v : Value} {Q : Value → Shared → Prop} {expr : Bool}
end
end PySem.W

namespace L2
open PySem PyProof.Rows PySem.Spec PySem.Calls
/-! ### refusals: made and not raised; caught; their dicts -/
def XO (e C : Addr) (d : Option Addr) : HO := .ext fun h => ∃ t0, h.get? e = some ⟨.ref C, d, .fields #[.ref t0, .none, .none, .none, .bool false, .none], #[]⟩
def XC (e C : Addr) (d : Option Addr) : HO := .ext fun h => ∃ vs sl, h.get? e = some ⟨.ref C, d, .fields vs, sl⟩
def XD (a : Addr) (fs : List (Str × V)) : HO := .ext fun h => fs.length ≤ 1000 ∧ ∃ mA, h.Ns1 a mA ∧ (∀ f, RelO (fs.lookup f) (mA f)) ∧ PySem.Within mA (fs.map (·.1))
def IsX (H : Hp) (e C : Addr) (d : Option Addr) : Prop := H e = some (XO e C d) ∨ H e = some (XC e C d)
section
variable {P : Program} {w : World} {H : Hp} {h : Heap} {e C a : Addr} {d : Option Addr} {fs : List (Str × V)}
end
/-- what a class of refusals must have -/
structure ClsX (K : PySem.W.Frag) (C : Addr) : Prop where
  hd : PySem.W.hasDictIn K C = true
  po : PySem.W.excOver K C = true
  sa : PySem.W.findIn K (.ref C) "__setattr__" = some (some (.builtin "object.__setattr__"))
  ga : PySem.W.findIn K (.ref C) "__getattribute__" = some (some (.builtin "BaseException.__getattribute__"))
  gn : PySem.W.findIn K (.ref C) "__getattr__" = some none
section
variable {X : Cx} {pins : List (Addr × Obj)} {σ : St} {H : Hp} {s : Shared} {a C dx : Addr} {d : Option Addr} {fs : List (Str × V)} {f : Str} {v y : V} {u : Value} {A : Around} {E : Value → Shared → Prop}
end
end L2

namespace PySem.W
open PySem PySem.Spec PySem.Calls PyProof.Rows Builtin Builtin.ObjectAttr Builtin.Getset_descriptor
section
variable {prog : Program} {w : World} {A : Around} {K : Frag} {C x t0 : Addr} {s : Shared} {E : Value → Shared → Prop} {od : Option Addr} {Q : Value → Shared → Prop}
end
end PySem.W

namespace PySem.W
open PySem PySem.Spec PySem.Calls PyProof.Rows Builtin Builtin.ObjectAttr Builtin.Getset_descriptor
section
variable {prog : Program} {w : World} {A : Around} {K : Frag} {C x : Addr} {s : Shared} {E : Value → Shared → Prop} {ox : Obj} {od : Obj}
structure ClsAt (K : Frag) (C : Addr) : Prop where
  hd : hasDictIn K C = true
  po : excOver K C = true
  ga : findIn K (.ref C) "__getattribute__" = some (some (.builtin "BaseException.__getattribute__"))
  gn : findIn K (.ref C) "__getattr__" = some none
  ca : findIn K (.ref C) "__class__" = some (some (.builtin "object.__class__"))
  cn : specialIn K (.builtin "object.__class__") "__get__" = some (some (.builtin "getset_descriptor.__get__"))
  ct : takesIn K (.builtin "object.__class__") = some true
end
end PySem.W

namespace L2
open PySem PyProof.Rows PySem.Spec PySem.Calls
theorem ClsX.at {K : PySem.W.Frag} {C : Addr} (c : ClsX K C) (ca : PySem.W.findIn K (.ref C) "__class__" = some (some (.builtin "object.__class__")))
    (cn : PySem.W.specialIn K (.builtin "object.__class__") "__get__" = some (some (.builtin "getset_descriptor.__get__"))) (ct : PySem.W.takesIn K (.builtin "object.__class__") = some true) : PySem.W.ClsAt K C :=
  ⟨c.hd, c.po, c.ga, c.gn, ca, cn, ct⟩
/-- what a class of refusals must have to be made -/
structure MkX (K : PySem.W.Frag) (C f : Addr) : Prop where
  makes : PySem.W.excMk K C = true
  init : PySem.W.findIn K (.ref C) "__init__" = some (some (.ref f))
  fn : PySem.W.isFn K (.ref f) = true
  kp : PySem.W.keepIn K (.ref C) = true
def tMakeX (C : Addr) (sp : Sp) (E : XK) (t : TA) : TE := fun σ H Q => t σ H fun vs H1 => ∀ x, H1 x = none → sp (.ref x :: vs) (upd H1 x (XO x C none)) (fun v H2 => v = .non ∧ Q (.ref x) H2) E
section
variable {X : Cx} {CX : CXT} {k : Nat} {f C : Addr} {fd : FuncData} {ps : List Str} {sp : Sp} {E : XK} {x m : Str} {p pos apos : Pos} {e o : Expr} {es : List Expr} {ta : TE} {t : TA}
/-- Base.__init__(self, ..), Base an own class of refusals without an __init__ of its own -/
structure InX (K : PySem.W.Frag) (B : Addr) : Prop where
  sp : PySem.W.specialIn K (.ref B) "__getattribute__" = some (some (.builtin "type.__getattribute__"))
  rd : PySem.W.readsIn K B (.type "type") = true
  fc : PySem.W.findCls K (.ref B) (.type "type") "__init__" = some (.val (.builtin "ValueError.__init__"))
def tInX (K : PySem.W.Frag) (t : TA) : TE := fun σ H Q => t σ H fun vs H1 => ∃ a C d xs, vs = .ref a :: xs ∧ xs.length ≤ 1000 ∧ H1 a = some (XO a C d) ∧ PySem.W.excMk K C = true ∧ Q .non H1
end
end L2

namespace L2
open PySem PyProof.Rows PySem.Spec PySem.Calls
/-! ### a refusal with its values, whatever the addresses -/
def XF (H : Hp) (e C : Addr) (fs : List (Str × V)) : Prop := ∃ dx, H e = some (XO e C (some dx)) ∧ H dx = some (XD dx fs) ∧ dx ≠ e
theorem XF.keep {H H' : Hp} {e C : Addr} {fs : List (Str × V)} (x : XF H e C fs) (k : Same H H') : XF H' e C fs := let ⟨d, a, b, c⟩ := x; ⟨d, k _ _ a, k _ _ b, c⟩
theorem XF.upd {H : Hp} {e C p : Addr} {fs : List (Str × V)} {o : HO} (x : XF H e C fs) (k : ∀ φ, H p ≠ some (.ext φ)) : XF (L2.upd H p o) e C fs := by
  obtain ⟨d, a, b, c⟩ := x
  have h1 : e ≠ p := fun z => k _ (by rw [← z]; exact a)
  have h2 : d ≠ p := fun z => k _ (by rw [← z]; exact b)
  exact ⟨d, by rw [upd_ne h1]; exact a, by rw [upd_ne h2]; exact b, c⟩
def sFldX (K : PySem.W.Frag) (ta tv : TE) (f : Str) : TS := fun D σ H => tv σ H fun y H1 => ta σ H1 fun x H2 =>
  (∃ a C, x = .ref a ∧ H2 a = some (XO a C none) ∧ ClsX K C ∧ NoAttr K C f ∧ ∀ dx, H2 dx = none → dx ≠ a → D.nx σ (upd (upd H2 dx (XD dx [(f, y)])) a (XO a C (some dx)))) ∨
  (∃ a C dx fs, x = .ref a ∧ IsX H2 a C (some dx) ∧ H2 dx = some (XD dx fs) ∧ dx ≠ a ∧ ClsX K C ∧ NoAttr K C f ∧ fs.length < 1000 ∧ D.nx σ (upd H2 dx (XD dx (putF f y fs))))
def tFldX (K : PySem.W.Frag) (ta : TE) (f : Str) : TE := fun σ H Q => ta σ H fun x H1 => ∃ a C fs v, x = .ref a ∧ XF H1 a C fs ∧ ClsX K C ∧ NoAttr K C f ∧ fs.lookup f = some v ∧ Q v H1
/-- isinstance(e, C) of a refusal -/
structure ClsI (K : PySem.W.Frag) (C : Addr) : Prop where
  c : ClsX K C
  ca : PySem.W.findIn K (.ref C) "__class__" = some (some (.builtin "object.__class__"))
  cn : PySem.W.specialIn K (.builtin "object.__class__") "__get__" = some (some (.builtin "getset_descriptor.__get__"))
  ct : PySem.W.takesIn K (.builtin "object.__class__") = some true
def clV : V → Value
  | .ref a => .ref a
  | .ty n => .type n
  | _ => .none
def rIsX (K : PySem.W.Frag) : List V → Hp → VK → Prop := fun xs H Q => ∃ a C fs c b, xs = [.ref a, c] ∧ XF H a C fs ∧ ClsI K C ∧ (∀ u, RelV c u → u = clV c) ∧ PySem.W.kitOne K (.ref C) (clV c) = some b ∧ Q (.bl b) H
/-- d.update(e), two dicts of ints and texts -/
def rUpd : V → List V → Hp → VK → Prop := fun x vs H Q => ∃ d e kvs more, x = .ref d ∧ vs = [.ref e] ∧ H d = some (.dK kvs) ∧ H e = some (.dK more) ∧ d ≠ e ∧ kvs.length + more.length ≤ 1000 ∧ Q .non (upd H d (.dK (mergeK kvs more)))
section
variable {X : Cx} {o e value : Expr} {f : Str} {pos pos' tpos : Pos} {ta tv : TE}
end
end L2

namespace L2
open PySem PyProof.Rows PySem.Spec PySem.Calls
/-! ### equality of lists and tuples within each other, where they are equal -/
def Deq (K : PySem.W.Frag) (H : Hp) : Nat → V → V → Prop
  | 0, x, y => x = y ∧ flatV x = true
  | n + 1, x, y => (x = y ∧ flatV x = true) ∨ ∃ a b xs ys, x = .ref a ∧ y = .ref b ∧ ((SqL K H a xs ∧ SqL K H b ys) ∨ (SqT K H a xs ∧ SqT K H b ys)) ∧ xs.length = ys.length ∧ ∀ j, j < xs.length → Deq K H n (xs.getD j .non) (ys.getD j .non)
theorem deq_eqAt {X : Cx} {pins : List (Addr × Obj)} {σ : St} {H : Hp} {s : Shared} (I : Inv X pins σ H s) : ∀ (n : Nat) (A : Around) (x y : V) (u v : Value), A.units + n < cLine → Deq X.K H n x y → RelV x u → RelV y v → SeqAt.EqAt A s u v true
  | 0, A, x, y, u, v, _, ⟨e, f⟩, rx, ry => by
    subst e
    have := eqAt_V (A := A) (s := s) rx ry f f
    rwa [eqV_refl f] at this
  | n + 1, A, x, y, u, v, hu, h, rx, ry => by
    rcases h with ⟨e, f⟩ | ⟨a, b, xs, ys, rfl, rfl, hs, hl, he⟩
    · subst e
      have := eqAt_V (A := A) (s := s) rx ry f f
      rwa [eqV_refl f] at this
    · cases rx
      cases ry
      by_cases hab : a = b
      · subst hab; exact SeqAt.EqAt.same _
      have hu1 : A.in1.units + n < cLine := by
        have : A.in1.units = A.units + 1 := by first | rfl | exact Around.units_in1 A
        omega
      refine SeqAt.EqAt.of_refs hab ?_
      rcases hs with ⟨h1, h2⟩ | ⟨h1, h2⟩
      · obtain ⟨its, r1, l1, _⟩ := I.list h1
        obtain ⟨jts, r2, l2, _⟩ := I.list h2
        have e1 := r1.length
        have e2 := r2.length
        have := SeqAt.RcAt.lists (A := A) (e := fun _ => true) l1.isList l2.isList (by simp; omega) (by omega) (fun j q1 q2 => deq_eqAt I n A.in1 _ _ _ _ hu1 (he j (by simp at q1; omega)) (vals_at r1 j q1) (vals_at r2 j q2))
        rwa [show (List.range its.toArray.size).all (fun _ => true) = true from List.all_eq_true.mpr fun _ _ => rfl] at this
      · obtain ⟨its, r1, l1, _⟩ := I.tuple h1
        obtain ⟨jts, r2, l2, _⟩ := I.tuple h2
        have e1 := r1.length
        have e2 := r2.length
        have := SeqAt.RcAt.tuples (A := A) (e := fun _ => true) l1 l2 (by omega) (fun j q1 q2 => deq_eqAt I n A.in1 _ _ _ _ hu1 (he j (by simp at q1; omega)) (vals_at r1 j q1) (vals_at r2 j q2))
        rw [show (List.range (min its.toArray.size jts.toArray.size)).all (fun _ => true) = true from List.all_eq_true.mpr fun _ _ => rfl, Bool.true_and, beq_iff_eq.mpr (by simp; omega)] at this
        exact this
def rEqD (K : PySem.W.Frag) (n : Nat) : R2 := fun x y H Q => ∃ a b xs ys, x = .ref a ∧ y = .ref b ∧ SqL K H a xs ∧ SqL K H b ys ∧ xs.length = ys.length ∧ (∀ j, j < xs.length → Deq K H n (xs.getD j .non) (ys.getD j .non)) ∧ Q (.bl true) H
/-! ### a class of refusals, all in one -/
structure MkXD (P : Program) (w : World) (K : PySem.W.Frag) (mg : Str → Option Value) (base : Heap) (k : Nat) (x : Str) (C : Addr) (ps : List Str) (sp : Sp) : Prop where
  ex : ∃ f fd, MkX K C f ∧ FnOk P w K mg base CX0 k f fd ps sp ∧ Binds K fd ps [] ∧ mg x = some (.ref C)
  few : ps.length ≤ 1000
/-- what is seen of a class of refusals -/
def xcls (K : PySem.W.Frag) (C : Addr) (fs : List Str) : Bool :=
  PySem.W.hasDictIn K C && PySem.W.excOver K C && PySem.W.findIn K (.ref C) "__setattr__" == some (some (.builtin "object.__setattr__")) && PySem.W.findIn K (.ref C) "__getattribute__" == some (some (.builtin "BaseException.__getattribute__")) &&
  PySem.W.findIn K (.ref C) "__getattr__" == some none && PySem.W.findIn K (.ref C) "__class__" == some (some (.builtin "object.__class__")) && fs.all fun f => PySem.W.findIn K (.ref C) f == some none
structure XCl (K : PySem.W.Frag) (C : Addr) (fs : List Str) : Prop where
  i : ClsI K C
  n : ∀ f ∈ fs, NoAttr K C f
  m : PySem.W.excMk K C = true
theorem XCl.of {K : PySem.W.Frag} {C : Addr} {fs : List Str} (h : xcls K C fs = true) (m : PySem.W.excMk K C = true) (cn : PySem.W.specialIn K (.builtin "object.__class__") "__get__" = some (some (.builtin "getset_descriptor.__get__"))) (ct : PySem.W.takesIn K (.builtin "object.__class__") = some true) : XCl K C fs := by
  unfold xcls at h
  simp only [Bool.and_eq_true, beq_iff_eq, List.all_eq_true] at h
  obtain ⟨⟨⟨⟨⟨⟨h1, h2⟩, h3⟩, h4⟩, h5⟩, h6⟩, h7⟩ := h
  exact ⟨⟨⟨h1, h2, h3, h4, h5⟩, h6, cn, ct⟩, fun f hf => h7 f hf, m⟩
end L2

namespace L2
open PySem PyProof.Rows PySem.Spec PySem.Calls
/-- which class is under which, of a list of classes of refusals and what they are all under -/
def kitTab (K : PySem.W.Frag) (cs : List Addr) (b : Addr) : Bool :=
  (List.range cs.length).all fun i => PySem.W.kitOne K (.ref (cs.getD i 0)) (.ref b) == some true && PySem.W.kitOne K (.ref (cs.getD i 0)) (.type "ValueError") == some true && (List.range cs.length).all fun j => PySem.W.kitOne K (.ref (cs.getD i 0)) (.ref (cs.getD j 0)) == some (i == j)
theorem putK_fresh {kvs : List (Key × V)} {k : Key} {v : V} (h : k ∉ kvs.map (·.1)) : putK kvs k v = kvs ++ [(k, v)] := by
  unfold putK
  rw [if_neg]
  intro e
  obtain ⟨p, hp, he⟩ := List.any_eq_true.mp e
  exact h (List.mem_map.mpr ⟨p, hp, of_decide_eq_true he⟩)
theorem mergeK_new : ∀ {more kvs : List (Key × V)} {ks : List Key}, kvs.map (·.1) ++ more.map (·.1) = ks → ks.Nodup → mergeK kvs more = kvs ++ more
  | [], kvs, ks, _, _ => (List.append_nil _).symm
  | p :: r, kvs, ks, e, n => by
    subst e
    have hn : p.1 ∉ kvs.map (·.1) := fun z => by
      rw [List.map_cons, List.nodup_append] at n
      exact n.2.2 _ z _ (.head _) rfl
    show mergeK (putK kvs p.1 p.2) r = _
    rw [putK_fresh hn, mergeK_new (more := r) (kvs := kvs ++ [(p.1, p.2)]) rfl (by rw [List.map_append, List.append_assoc]; exact n), List.append_assoc]
    rfl
theorem valV_at {kvs : List (Key × V)} {ks : List Key} {j : Nat} {k : Key} {v : V} (e : kvs.map (·.1) = ks) (n : ks.Nodup) (h : kvs[j]? = some (k, v)) : valV kvs k = some v := by
  subst e
  unfold valV
  induction kvs generalizing j with
  | nil => cases h
  | cons p r ih =>
    rw [List.map_cons, List.nodup_cons] at n
    cases j with
    | zero =>
      cases Option.some.inj h
      rw [List.find?_cons_of_pos (by simp)]
      rfl
    | succ j =>
      have h' : r[j]? = some (k, v) := h
      have ne : p.1 ≠ k := fun z => n.1 (List.mem_map.mpr ⟨(k, v), List.mem_of_getElem? h', z.symm⟩)
      rw [List.find?_cons_of_neg (by simpa using ne)]
      exact ih h' n.2
theorem DGet.look {H : Hp} {a : Addr} {kvs : List (Key × V)} {ks : List Key} {j : Nat} {k : Key} {v : V} (eH : H a = some (.dK kvs)) (e : kvs.map (·.1) = ks) (n : ks.Nodup) (h : kvs[j]? = some (k, v)) : DGet H a (kV k) (some v) := by
  rw [← valV_at e n h]
  exact DGet.k eH
/-! ### a text's own copy, of texts, lists of these, a pair of a text and such a list, a list of one such pair -/
def spC (m : Nat) : Sp := fun vs H Q _ =>
  (1 ≤ m ∧ ∃ z : Str, vs = [.str z] ∧ Q (.str z) H) ∨
  (2 ≤ m ∧ ∃ (a : Addr) (zs : List Str), vs = [.ref a] ∧ H a = some (.lst (zs.map V.str)) ∧ zs.length ≤ 100 ∧ ∀ p H', Same H H' → H p = none → H' p = some (.lst (zs.map V.str)) → Q (.ref p) H') ∨
  (3 ≤ m ∧ ∃ (a l : Addr) (z : Str) (zs : List Str), vs = [.ref a] ∧ H a = some (.tup [.str z, .ref l]) ∧ H l = some (.lst (zs.map V.str)) ∧ zs.length ≤ 100 ∧
    ∀ p q H', Same H H' → H p = none → H q = none → H' p = some (.tup [.str z, .ref q]) → H' q = some (.lst (zs.map V.str)) → Q (.ref p) H') ∨
  (4 ≤ m ∧ ∃ (a b l : Addr) (z : Str) (zs : List Str), vs = [.ref a] ∧ H a = some (.lst [.ref b]) ∧ H b = some (.tup [.str z, .ref l]) ∧ H l = some (.lst (zs.map V.str)) ∧ zs.length ≤ 100 ∧
    ∀ r p q H', Same H H' → H r = none → H' r = some (.lst [.ref p]) → H' p = some (.tup [.str z, .ref q]) → H' q = some (.lst (zs.map V.str)) → Q (.ref r) H')
theorem Fun.never {P : Program} {w : World} {K : PySem.W.Frag} {mg : Str → Option Value} {base : Heap} {x qual : Str} {st : Stmt} {f : Addr} {fd : FuncData} (_F : Fun K x qual st f fd) : FnOk P w K mg base CX0 0 f fd ["value"] (spC 0) := by
  have no : ∀ vs H Q E, spC 0 vs H Q E → False := fun vs H Q E h => by
    rcases h with h | h | h | h <;> exact absurd h.1 (by decide)
  exact ⟨fun vs H Q E q => (no _ _ _ _ q).elim, fun A outer s H args us vs Q E _ _ _ _ hs => (no _ _ _ _ hs).elim⟩
end L2

namespace PySem.W
open PySem
/-! ### an exception passes a frame: what stays -/
structure Noted (e : Addr) (cl : Value) (d : Option Addr) (fr : List Addr) (off : Addr → Prop) (h h' : Heap) : Prop where
  exc : ∃ vs sl T oT ts, h'.get? e = some ⟨cl, d, .fields vs, sl⟩ ∧ vs[1]? = some (.ref T) ∧ T ≠ e ∧ h.objs.size ≤ T ∧ h'.get? T = some oT ∧ oT.data = .fields ts ∧ ts[3]? = some .none
  keep : ∀ b o, b ≠ e → ¬ off b → b ∉ fr → h.get? b = some o → h'.get? b = some o
  slot : ∀ b o, b ≠ e → ¬ off b → h.get? b = some o → ∃ sl, h'.get? b = some { o with slots := sl }
abbrev tbObj (ws : Array Value) : Obj := { cls := .type "traceback", dict := none, data := .fields ws }
section
variable {M : Model} {E : Value → Shared → Prop} {A : Around} {s : Shared}
/-- the record of the way so far -/
def HeadAt (h : Heap) (e T : Addr) : Prop := T ≠ e ∧ ∃ oT ts, h.get? T = some oT ∧ oT.data = .fields ts ∧ ts[3]? = some .none
end
end PySem.W

namespace L2
open PySem PyProof.Rows PySem.Spec PySem.Calls
/-! ### refusals that pass: how one lies behind a call -/
def TrX (n : Nat) (H : Hp) (ea : Addr) (h : Heap) : Prop := ∃ cl d vs sl T, h.get? ea = some ⟨cl, d, .fields vs, sl⟩ ∧ vs[1]? = some (.ref T) ∧ PySem.W.HeadAt h ea T ∧ n ≤ T ∧ H T = none
def CXe (P : Program) (w : World) : CXT := fun outer H s E e s' => ∃ ea C d H', e = .ref ea ∧ s'.os = s.os ∧ AllBare s'.gens ∧ Un (frs outer) [] H H' s.heap s'.heap ∧ HOk P w H' s'.heap ∧ H' ea = some (XC ea C d) ∧
  TrX s.heap.objs.size H' ea s'.heap ∧ E (.ref C) (some ea) H'
/-- .. in a body -/
def TrI (X : Cx) (pins : List (Addr × Obj)) (H : Hp) (ea : Addr) (h : Heap) : Prop := ∃ cl d vs sl T, h.get? ea = some ⟨cl, d, .fields vs, sl⟩ ∧ vs[1]? = some (.ref T) ∧ PySem.W.HeadAt h ea T ∧ X.s₀.heap.objs.size ≤ T ∧ H T = none ∧
  T ≠ X.env.locals ∧ (∀ x c, X.env.cells.lookup x = some c → c ≠ T) ∧ ∀ p ∈ X.pn ++ pins, p.1 ≠ T
/-- the frame of a def runs on top -/
structure Top (X : Cx) : Prop where
  ex : X.ex = []
  stk : X.stack = X.env :: X.outer
  fr : X.env.frame = some X.env.locals
def PassesS (X : Cx) (G : St → XK) : Prop := ∀ (pins : List (Addr × Obj)) (σ : St) (H : Hp) (s : Shared) (e : Value) (s' : Shared), Inv X pins σ H s → CXe X.prog X.w X.stack H s (G σ) e s' → X.xe e s'
def RaisesS (X : Cx) (G : St → XK) : Prop := ∀ (pins : List (Addr × Obj)) (σ : St) (H : Hp) (s : Shared) (ea C : Addr) (d : Option Addr), Inv X pins σ H s → H ea = some (XO ea C d) → G σ (.ref C) (some ea) (upd H ea (XC ea C d)) → X.xe (.ref ea) s
abbrev G0 : St → XK := fun _ _ _ _ => False
theorem passE0 {X : Cx} : PassesS X G0 := fun _ _ _ _ _ _ _ ⟨_, _, _, _, _, _, _, _, _, _, _, z⟩ => z.elim
section
variable {X : Cx} {pins : List (Addr × Obj)} {σ : St} {H H' : Hp} {s s' : Shared} {ea C : Addr} {d : Option Addr} {h' : Heap}
theorem TrI.tr (t : TrI X pins H ea h') : TrX X.s₀.heap.objs.size H ea h' := let ⟨cl, d, vs, sl, T, a, b, c, e, f, _⟩ := t; ⟨cl, d, vs, sl, T, a, b, c, e, f⟩
end
/-! ### a def that lets refusals pass -/
section
variable {P : Program} {w : World} {K : PySem.W.Frag} {mg : Str → Option Value} {base : Heap} {N ps : List Str} {qual x : Str} {scope : Scope} {f : Addr} {cd : Value} {A : Around} {outer : List Env} {s : Shared} {H : Hp} {E : XK} {k : Nat}
abbrev cxE (P : Program) (w : World) (K : PySem.W.Frag) (mg : Str → Option Value) (base : Heap) (N : List Str) (qual : Str) (scope : Scope) (f : Addr) (cd : Value) (A : Around) (outer : List Env) (s : Shared) (H : Hp) (E : XK) : Cx :=
  cxOf (CXe P w) P w K mg base N qual scope f cd A outer s H E
theorem FnOk.lift {CX : CXT} {fd : FuncData} {sp : Sp} (F : FnOk P w K mg base CX0 k f fd ps sp) : FnOk P w K mg base CX k f fd ps sp :=
  ⟨F.len, fun A outer s H args us vs Q E hr e0 hb r h => codeAny_mono (F.run A outer s H args us vs Q E hr e0 hb r h) fun r s' q => match r, q with
    | .ok (.ret _), q => q
    | .ok .next, q => q
    | .ok .brk, q => q
    | .ok .cont, q => q
    | .error _, q => False.elim q⟩
structure DfE (P : Program) (w : World) (K : PySem.W.Frag) (mg : Str → Option Value) (base : Heap) (k : Nat) (x : Str) (ps : List Str) (sp : Sp) : Prop where
  ex : ∃ f fd, FnOk P w K mg base (CXe P w) k f fd ps sp ∧ Binds K fd ps [] ∧ PySem.W.keepIn K (.ref f) = true ∧ mg x = some (.ref f)
structure MtE (P : Program) (w : World) (K : PySem.W.Frag) (mg : Str → Option Value) (base : Heap) (k : Nat) (m : Str) (C : Addr) (ps : List Str) (sp : Sp) : Prop where
  ex : ∃ f fd, Meth K C m f ∧ FnOk P w K mg base (CXe P w) k f fd ps sp ∧ Binds K fd ps []
theorem MtD.e {m : Str} {C : Addr} {sp : Sp} (D : MtD P w K mg base k m C ps sp) : MtE P w K mg base k m C ps sp := let ⟨f, fd, a, b, c⟩ := D.ex; ⟨f, fd, a, b.lift, c⟩
theorem Dfn.e {sp : Sp} (D : Dfn P w K mg base k x ps sp) : DfE P w K mg base k x ps sp := let ⟨f, fd, a, b, c⟩ := D.ex; ⟨f, fd, a.lift, b, c⟩
end
/-! ### calls -/
def tCallE (sp : Sp) (G : St → XK) (t : TA) : TE := fun σ H Q => t σ H fun vs H1 => sp vs H1 Q (G σ)
/-- o.m(..), whatever own class o is of: the method is told by the reading -/
def tMethE (P : Program) (w : World) (K : PySem.W.Frag) (mg : Str → Option Value) (base : Heap) (k : Nat) (m : Str) (G : St → XK) (ta : TE) (t : TA) : TE := fun σ H Q => ta σ H fun x H1 => ∃ a C dx fs ps sp, x = .ref a ∧ H1 a = some (.ins C dx fs) ∧ fs.lookup m = none ∧ Cls K C ∧ MtE P w K mg base k m C ps sp ∧
  t σ H1 fun vs H2 => sp (x :: vs) H2 Q (G σ)
section
variable {X : Cx} {k : Nat} {ps : List Str} {sp : Sp} {G : St → XK} {x m : Str} {p pos apos : Pos} {e o : Expr} {es : List Expr} {ta : TE} {t : TA}
theorem run_fnE {pins : List (Addr × Obj)} {σ : St} {H : Hp} {s : Shared} {Q : VK} {us : List Value} {vs : List V} {f : Addr} {fd : FuncData} (F : FnOk X.prog X.w X.K X.mg X.base (CXe X.prog X.w) k f fd ps sp) (hr : Room k X.A) (hb : Binds X.K fd ps []) (hx : PassesS X G)
    (I : Inv X pins σ H s) (r : Vals vs us) (h : sp vs H Q (G σ)) : wpAny (model X.prog X.w) X.A (call (.ref f) us) (EP X pins σ Q) X.xe s := by
  have hl : us.length = ps.length := by rw [← r.length]; exact F.len _ _ _ _ h
  have hb2 := hb s us I.kIn (by rw [List.append_nil]; exact hl)
  rw [List.append_nil] at hb2
  refine wpAny_call (codeAny_mono (F.run X.A X.stack s H ⟨us, []⟩ us vs Q (G σ) hr I.env0 hb2 r h) fun r s' hq => ?_)
  cases r with
  | error e => exact hx pins σ H s e s' I hq
  | ok fl =>
    cases fl with
    | ret u => exact I.after hq
    | next => exact False.elim hq
    | brk => exact False.elim hq
    | cont => exact False.elim hq
theorem pe_methE {pl : Sem Bool} (k : Nat) (hx : PassesS X G) (hr : Room k X.A) (he : PE X o ta) (ha : PA X (e :: es) t)
    (hst : starEach (e :: es) X.env = (false, eval e X.env) :: starEach es X.env := by rfl) (hpl : (backTo pos (starEach es X.env)).any (·.1) = false := by rfl)
    (ht : eval (.Call (.Attribute o m apos) (e :: es) [] pos) X.env = (do
      let ov ← eval o X.env
      standAt apos.atName
      let (f, first) ← holding [ov] (getMethod ov m pl)
      callWith pos f first (backTo pos (starEach (e :: es) X.env)) (backToKw pos (keywordEach [] X.env))) := by rfl) :
    PE X (.Call (.Attribute o m apos) (e :: es) [] pos) (tMethE X.prog X.w X.K X.mg X.base k m G ta t) := by
  intro pins s σ H Q I h
  refine PySem.W.methodCall_KW (pl := pl) (thn (he pins s σ H _ I h) fun u s1 ⟨x, H1, I1, rx, a, C, dx, fs, ps, sp, ex, ea, l, c, D, q⟩ => ?_) ht
  subst ex
  obtain rfl : u = Value.ref a := rx
  obtain ⟨f, fd, hm, F, b⟩ := D.ex
  refine getmeth_ok I1 ea c hm l ?_
  refine PySem.W.callWith_K (first := [.ref a]) (h₀ := X.base) I.ok.mod.kin hm.kp (thn (ha pos pins s1 σ H1 _ I1 q) fun us s2 ⟨vs, H2, I2, r, q2⟩ => ⟨I2.kIn, ?_⟩) hst hpl
  exact run_fnE (us := .ref a :: us) (vs := .ref a :: vs) F hr b hx I2 (.cons rfl r) q2
theorem pe_methE0 {pl : Sem Bool} (k : Nat) (hx : PassesS X G) (hr : Room k X.A) (he : PE X o ta)
    (ht : eval (.Call (.Attribute o m apos) [] [] pos) X.env = (do
      let ov ← eval o X.env
      standAt apos.atName
      let (f, first) ← holding [ov] (getMethod ov m pl)
      callWith pos f first (backTo pos (starEach [] X.env)) (backToKw pos (keywordEach [] X.env))) := by rfl) :
    PE X (.Call (.Attribute o m apos) [] [] pos) (tMethE X.prog X.w X.K X.mg X.base k m G ta tNil) := by
  intro pins s σ H Q I h
  refine PySem.W.methodCall_KW (pl := pl) (thn (he pins s σ H _ I h) fun u s1 ⟨x, H1, I1, rx, a, C, dx, fs, ps, sp, ex, ea, l, c, D, q⟩ => ?_) ht
  subst ex
  obtain rfl : u = Value.ref a := rx
  obtain ⟨f, fd, hm, F, b⟩ := D.ex
  refine getmeth_ok I1 ea c hm l ?_
  exact PySem.W.callWith_K0 (first := [.ref a]) I1.kIn hm.kp (run_fnE (us := [.ref a]) (vs := [.ref a]) F hr b hx I1 (.cons rfl .nil) q)
end
end L2

namespace PySem.W
open PySem PyProof.Rows PySem.Spec PySem.Calls
/-! ### raising and catching own refusals -/
def mroHas (K : Frag) (C : Addr) (c : Value) : Bool := match K.lookup C with
  | some ⟨_, _, .cls cd, _⟩ => cd.mro.contains c
  | _ => false
section
variable {M : Model} {A : Around} {E : Value → Shared → Prop} {env : Env} {K : Frag}
end
end PySem.W
namespace L2
open PySem PyProof.Rows PySem.Spec PySem.Calls
def tRaise (K : PySem.W.Frag) (G : St → XK) (te : TE) : TS := fun _ σ H => te σ H fun v H1 => ∃ ea C d, v = .ref ea ∧ H1 ea = some (XO ea C d) ∧ PySem.W.excMk K C = true ∧ G σ (.ref C) (some ea) (upd H1 ea (XC ea C d))
abbrev Cx.caught (X : Cx) (ea : Addr) : Cx := { X with A := X.A.mark (some (.ref ea)), calm := false, xe := fun _ _ => False }
abbrev Cx.inTry (X : Cx) (ps : List (Addr × Obj)) (xe : Value → Shared → Prop) : Cx := { X with pn := X.pn ++ ps, xe := xe }
section
variable {X : Cx} {pins : List (Addr × Obj)} {σ : St} {H : Hp} {s : Shared} {ea : Addr}
theorem Cx.Ok.caught (ok : X.Ok) : (X.caught ea).Ok :=
  ⟨ok.mod, ok.kind, ok.glob, ok.blt, ok.above, ok.inj, ok.has, ok.cab, (fun z => nomatch z), ok.frames, ok.stk, ok.exf, ok.bs, ok.bsz, ok.noex, ok.exfs, ok.funs, ok.frf⟩
theorem Inv.caught (I : Inv X pins σ H s) : Inv (X.caught ea) pins σ H s := ⟨I.ok.caught, I.os, I.bare, I.base, I.loc, I.cell, I.free, I.freeC, I.pin, I.hok, I.len⟩
theorem Cx.Ok.inTry {ps : List (Addr × Obj)} {xe : Value → Shared → Prop} (ok : X.Ok) : (X.inTry ps xe).Ok :=
  ⟨ok.mod, ok.kind, ok.glob, ok.blt, ok.above, ok.inj, ok.has, ok.cab, ok.hd, ok.frames, ok.stk, ok.exf, ok.bs, ok.bsz, ok.noex, ok.exfs, ok.funs, ok.frf⟩
theorem Inv.inTry {xe : Value → Shared → Prop} (I : Inv X pins σ H s) : Inv (X.inTry pins xe) [] σ H s := ⟨I.ok.inTry, I.os, I.bare, I.base, I.loc, I.cell, I.free, I.freeC, fun p hp => I.pin p (by rw [← List.append_nil (X.pn ++ pins)]; exact hp), I.hok, I.len⟩
end
/-! ### handlers -/
abbrev TH := Ends → St → Hp → Addr → Addr → Prop
def PH (X : Cx) (hs : List ExceptHandler) (t : TH) : Prop := ∀ (pins : List (Addr × Obj)) (s : Shared) (σ : St) (H : Hp) (D : Ends) (ea C : Addr) (d : Option Addr), Inv X pins σ H s → H ea = some (XC ea C d) → TrI X pins H ea s.heap → t D σ H C ea →
  wpAny (model X.prog X.w) X.A (handleBy (.ref ea) X.env hs) (SP X pins D) X.xe s
def tNoH : TH := fun _ _ _ _ _ => False
def Ends.less (D : Ends) (i : Nat) : Ends := { nx := fun σ H => D.nx (σ.set i none) H, rt := D.rt, bk := fun σ H => D.bk (σ.set i none) H, ct := fun σ H => D.ct (σ.set i none) H }
def tAs (K : PySem.W.Frag) (B : Addr) (i : Nat) (ts : TS) (tr : TH) : TH := fun D σ H C ea => PySem.W.excMk K C = true ∧ PySem.W.excMk K B = true ∧ ∃ b, PySem.W.mroHas K C (.ref B) = b ∧ if b = true then ts (D.less i) (σ.set i (some (.ref ea))) H else tr D σ H C ea
def tTry (tb : (St → XK) → TS) (th : TH) : TS := fun D σ H => tb (fun σ' c oa H' => ∃ C ea, c = .ref C ∧ oa = some ea ∧ th D σ' H' C ea) D σ H
section
variable {X : Cx}
end
end L2

namespace L2
open PySem PyProof.Rows PySem.Spec PySem.Calls
/-! ### own classes by isinstance; caught refusals; Base.__init__ of own classes -/
def XG (H : Hp) (e C : Addr) (fs : List (Str × V)) : Prop := ∃ dx, IsX H e C (some dx) ∧ H dx = some (XD dx fs) ∧ dx ≠ e
theorem XF.g {H : Hp} {e C : Addr} {fs : List (Str × V)} (x : XF H e C fs) : XG H e C fs := let ⟨d, a, b, c⟩ := x; ⟨d, .inl a, b, c⟩
theorem XG.keep {H H' : Hp} {e C : Addr} {fs : List (Str × V)} (x : XG H e C fs) (k : Same H H') : XG H' e C fs := by
  obtain ⟨d, a, b, c⟩ := x
  rcases a with a | a
  · exact ⟨d, .inl (k _ _ a), k _ _ b, c⟩
  · exact ⟨d, .inr (k _ _ a), k _ _ b, c⟩
/-- a raised one -/
theorem XF.raised {H : Hp} {e C : Addr} {fs : List (Str × V)} (x : XF H e C fs) : ∃ dx, H e = some (XO e C (some dx)) ∧ XG (L2.upd H e (XC e C (some dx))) e C fs :=
  let ⟨d, a, b, c⟩ := x
  ⟨d, a, d, .inr upd_same, by rw [upd_ne c]; exact b, c⟩
def rIsO (K : PySem.W.Frag) : List V → Hp → VK → Prop := fun xs H Q => ∃ x c t b, xs = [x, c] ∧ TyOf K H x t ∧ (∀ u, RelV c u → u = clV c) ∧ PySem.W.kitOne K t (clV c) = some b ∧ Q (.bl b) H
def rIsG (K : PySem.W.Frag) : List V → Hp → VK → Prop := fun xs H Q => ∃ a C fs c b, xs = [.ref a, c] ∧ XG H a C fs ∧ ClsI K C ∧ (∀ u, RelV c u → u = clV c) ∧ PySem.W.kitOne K (.ref C) (clV c) = some b ∧ Q (.bl b) H
def rIsGT (K : PySem.W.Frag) : List V → Hp → VK → Prop := fun xs H Q => ∃ a C fs tp cs b, xs = [.ref a, .ref tp] ∧ XG H a C fs ∧ ClsI K C ∧ H tp = some (.tup cs) ∧ (∀ c ∈ cs, ∀ u, RelV c u → u = clV c) ∧ PySem.W.kitAny K (.ref C) (cs.map clV) = some b ∧ Q (.bl b) H
def tFldG (K : PySem.W.Frag) (ta : TE) (f : Str) : TE := fun σ H Q => ta σ H fun x H1 => ∃ a C fs v, x = .ref a ∧ XG H1 a C fs ∧ ClsX K C ∧ NoAttr K C f ∧ fs.lookup f = some v ∧ Q v H1
section
variable {X : Cx} {e o : Expr} {es : List Expr} {f x : Str} {p pos apos : Pos} {ta : TE} {t : TA} {k : Nat} {ps : List Str} {sp : Sp}
/-- Base.__init__(self, ..), Base an own class with an __init__ of its own -/
structure InO (K : PySem.W.Frag) (B f : Addr) : Prop where
  sp : PySem.W.specialIn K (.ref B) "__getattribute__" = some (some (.builtin "type.__getattribute__"))
  rd : PySem.W.readsIn K B (.type "type") = true
  fc : PySem.W.findCls K (.ref B) (.type "type") "__init__" = some (.val (.ref f))
structure InD (P : Program) (w : World) (K : PySem.W.Frag) (mg : Str → Option Value) (base : Heap) (k : Nat) (x : Str) (B : Addr) (ps : List Str) (sp : Sp) : Prop where
  ex : ∃ f fd, InO K B f ∧ FnOk P w K mg base CX0 k f fd ps sp ∧ Binds K fd ps [] ∧ PySem.W.keepIn K (.ref f) = true ∧ mg x = some (.ref B)
theorem pe_makeD0 {C : Addr} (D : MkD X.prog X.w X.K X.mg X.base k x C ps sp) (hr : Room (k + 1) X.A) (hg : Gl X x) (hdb : (x == ("__debug__" : Str)) = false := by decide) : PE X (.Call (.Name x p) [] [] pos) (tMake C sp [] E0 tNil) := by
  obtain ⟨f, fd, M, F, b, m⟩ := D.ex
  exact pe_make0 M F hr hg m b .nil pass0 hdb
end
section
variable {P : Program} {w : World} {K : PySem.W.Frag} {mg : Str → Option Value} {base : Heap} {j k : Nat} {x m : Str} {C : Addr} {ps : List Str} {sp : Sp}
theorem MtE.mono (D : MtE P w K mg base j m C ps sp) (h : j ≤ k) : MtE P w K mg base k m C ps sp := let ⟨f, fd, a, b, c⟩ := D.ex; ⟨f, fd, a, b.mono h, c⟩
theorem DfE.mono (D : DfE P w K mg base j x ps sp) (h : j ≤ k) : DfE P w K mg base k x ps sp := let ⟨f, fd, a, b⟩ := D.ex; ⟨f, fd, a.mono h, b⟩
end
end L2
namespace L2
open PySem PyProof.Rows PySem.Spec PySem.Calls
structure OwnTy (K : PySem.W.Frag) (C : Addr) : Prop where
  ha : PySem.W.findIn K (.ref C) "__class__" = some (some (.builtin "object.__class__"))
  hn : PySem.W.specialIn K (.builtin "object.__class__") "__get__" = some (some (.builtin "getset_descriptor.__get__"))
  tk : PySem.W.takesIn K (.builtin "object.__class__") = some true
  hm : PySem.W.mroIn K C (.type "object") = some true
theorem OwnTy.ty {K : PySem.W.Frag} {C a dx : Addr} {H : Hp} {fs : List (Str × V)} (o : OwnTy K C) (cl : Cls K C) (e : H a = some (.ins C dx fs)) : TyOf K H (.ref a) (.ref C) := .ins e cl o.ha o.hn o.tk o.hm
theorem ixN_nat {n j : Nat} (h : j < n) : ixN n (j : Int) = some j := by
  unfold ixN
  simp [h]
end L2
namespace L2
open PySem PyProof.Rows PySem.Spec PySem.Calls
section
variable {X : Cx} {P : Program} {w : World} {K : PySem.W.Frag} {mg : Str → Option Value} {base : Heap} {G : St → XK} {m : Str} {pos apos : Pos} {e o : Expr} {es : List Expr} {ta : TE} {t : TA}
end
end L2
namespace L2
open PySem PyProof.Rows PySem.Spec PySem.Calls
section
variable {X : Cx} {K : PySem.W.Frag} {e : Expr} {f : Str} {pos : Pos} {ta : TE}
end
end L2

namespace L2
open PySem PySem.Spec PyProof.Rows
/-! ### ranges with a step -/
def Its (lo d : Int) (n : Nat) : It := ⟨fun i _ => i < n, fun i H x H' => H' = H ∧ x = .int (lo + i * d), fun i _ => n ≤ i⟩
section
variable {X : Cx} {tg : Expr}
/-- range(i, j, d), d above 0 -/
def iRng3 (ta : TA) : TI := fun σ H R => ta σ H fun vs H1 => ∃ i j d : Int, vs = [.int i, .int j, .int d] ∧ (-(2 ^ 60) ≤ i ∧ i < 2 ^ 60 ∧ -(2 ^ 60) ≤ j ∧ j < 2 ^ 60 ∧ 0 < d ∧ d < 2 ^ 29) ∧ R (Its i d (if i < j then (j - i - 1) / d + 1 else 0).toNat) H1
end
end L2
namespace L2
open PySem PySem.Spec PyProof.Rows
/-! ### a comprehension whose items are new things -/
def New (H H' : Hp) (G : Hp → Prop) : Prop := ∃ S : Addr → Prop, (∀ b, S b → H b = none ∧ ∃ o, H' b = some o) ∧ ∀ H3, (∀ b, S b → H3 b = H' b) → G H3
theorem compB_mk {J : It} {tc : TT} {te : TE} {σf : Option V → St} {H1 : Hp} {Q : VK} {xs : List V} (S : Seq J H1 xs) (G : V → V → Hp → Prop) (hz : xs.length < sizeLine)
    (hc : ∀ x ∈ xs, ∀ (H' : Hp) (R : Bool → Hp → Prop), Same H1 H' → R true H' → tc (σf (some x)) H' R)
    (he : ∀ x ∈ xs, ∀ (H' : Hp) (R : VK), Same H1 H' → (∀ y H'', Same H' H'' → New H' H'' (G x y) → R y H'') → te (σf (some x)) H' R)
    (q : ∀ D H' ys, Same H1 H' → H1 D = none → H' D = some (.lst ys) → ys.length = xs.length → (∀ (i : Nat) x y, xs[i]? = some x → ys[i]? = some y → G x y H') → Q (.ref D) H') : CompB J tc te σf H1 Q := by
  intro D hD
  refine ⟨fun i m ys H2 => m = xs.length - i ∧ i ≤ xs.length ∧ Same H1 H2 ∧ H2 D = some (.lst ys) ∧ ys.length = i ∧ ∀ (k : Nat) x y, xs[k]? = some x → ys[k]? = some y → ∃ Z : Addr → Prop, (∀ b, Z b → b ≠ D ∧ ∃ o, H2 b = some o) ∧ ∀ H3, (∀ b, Z b → H3 b = H2 b) → G x y H3,
    ⟨xs.length, rfl, Nat.zero_le _, same_new hD _, upd_same, rfl, fun k x y _ e => by simp at e⟩, ?_⟩
  rintro i m ys H2 ⟨rfl, hi, sm, hD2, hl, hg⟩
  refine ⟨hD2, ?_⟩
  by_cases hlt : i < xs.length
  · refine .inr ⟨S.go i H2 sm hlt, by omega, fun x H3 y => ?_⟩
    obtain ⟨e, hx⟩ := S.yld i H2 x H3 sm hlt y
    subst e
    have mem : x ∈ xs := List.mem_of_getElem? hx
    refine hc x mem _ _ sm (iteT (he x mem _ _ sm fun yv H5 s5 ny => ⟨s5 _ _ hD2, xs.length - (i + 1), by omega, rfl, hlt, same_on hD (sm.trans s5) _, upd_same, by rw [List.length_append, hl]; rfl, fun k x' y' ex ey => ?_⟩))
    by_cases hk : k < i
    · rw [List.getElem?_append_left (by omega)] at ey
      obtain ⟨Z, z1, z2⟩ := hg k x' y' ex ey
      refine ⟨Z, fun b hb => ?_, fun H6 h6 => z2 H6 fun b hb => ?_⟩
      · obtain ⟨nb, o, ho⟩ := z1 b hb
        exact ⟨nb, o, by rw [upd_ne nb]; exact s5 _ _ ho⟩
      · obtain ⟨nb, o, ho⟩ := z1 b hb
        rw [h6 b hb, upd_ne nb, s5 _ _ ho, ho]
    · have ek : k = i := by
        have := (List.getElem?_eq_some_iff.mp ey).1
        rw [List.length_append, hl] at this
        have : k < i + 1 := this
        omega
      subst ek
      rw [List.getElem?_append_right (by omega), hl, Nat.sub_self] at ey
      obtain rfl : yv = y' := Option.some.inj ey
      obtain rfl : x = x' := Option.some.inj (hx.symm.trans ex)
      obtain ⟨Z, z1, z2⟩ := ny
      have nD : ∀ b, Z b → b ≠ D := fun b hb e => by
        have := (z1 b hb).1
        rw [e, hD2] at this
        cases this
      refine ⟨Z, fun b hb => ?_, fun H6 h6 => z2 H6 fun b hb => ?_⟩
      · obtain ⟨_, o, ho⟩ := z1 b hb
        exact ⟨nD b hb, o, by rw [upd_ne (nD b hb)]; exact ho⟩
      · rw [h6 b hb, upd_ne (nD b hb)]
  · have e : i = xs.length := by omega
    refine .inl ⟨by rw [e]; exact S.stop H2 sm, q D H2 ys sm hD hD2 (by omega) fun k x y ex ey => ?_⟩
    obtain ⟨Z, _, z2⟩ := hg k x y ex ey
    exact z2 H2 fun _ _ => rfl
end L2
namespace L2
open PySem PySem.Spec PyProof.Rows
/-! ### xs.index(y), of flat things -/
def ofVal : Value → V
  | .bool b => .bl b
  | .int i _ => .int i
  | .str x _ => .str x
  | .bytes b _ => .byt b
  | .float b _ => .flt b
  | .ref a => .ref a
  | .type n => .ty n
  | _ => .non
def rIndex : V → List V → Hp → VK → Prop := fun x vs H Q => ∃ l xs y j, x = .ref l ∧ vs = [y] ∧ H l = some (.lst xs) ∧ xs.all flatV = true ∧ flatV y = true ∧ xs.length ≤ 1000 ∧ j < xs.length ∧ eqV (xs.getD j .non) y = true ∧ (∀ m, m < j → eqV (xs.getD m .non) y = false) ∧ Q (.int (j : Nat)) H
end L2

namespace L2
open PySem PyProof.Rows PySem.Spec PySem.Calls
/-! ### == and != of what is equal all through -/
def rDq (K : PySem.W.Frag) (n : Nat) (b : Bool) : R2 := fun x y H Q => ∃ a c xs ys, x = .ref a ∧ y = .ref c ∧ ((SqL K H a xs ∧ SqL K H c ys) ∨ (SqT K H a xs ∧ SqT K H c ys)) ∧ xs.length = ys.length ∧ (∀ j, j < xs.length → Deq K H n (xs.getD j .non) (ys.getD j .non)) ∧ Q (.bl b) H
theorem in1_units {A : Around} {n : Nat} (h : A.units + (n + 1) < cLine) : A.in1.units + n < cLine := by
  have : A.in1.units = A.units + 1 := by first | rfl | exact Around.units_in1 _
  omega
theorem op_eq_dq {X : Cx} {n : Nat} (hu : X.A.units + (n + 1) < cLine) : OpR X (compareOp .Eq) (rDq X.K n true) := by
  intro pins s σ H x y v u Q I rx ry h
  obtain ⟨a, c, xs, ys, rfl, rfl, hs, hl, he, q⟩ := h
  cases rx
  cases ry
  rcases hs with ⟨h1, h2⟩ | ⟨h1, h2⟩
  · obtain ⟨its, r1, l1, _⟩ := I.list h1
    obtain ⟨jts, r2, l2, _⟩ := I.list h2
    have e1 := r1.length
    have e2 := r2.length
    have := SeqAt.RcAt.lists (A := X.A) (e := fun _ => true) l1.isList l2.isList (by simp; omega) (by omega) (fun j q1 q2 => deq_eqAt I n X.A.in1 _ _ _ _ (in1_units hu) (he j (by simp at q1; omega)) (vals_at r1 j q1) (vals_at r2 j q2))
    rw [show (List.range its.toArray.size).all (fun _ => true) = true from List.all_eq_true.mpr fun _ _ => rfl] at this
    exact this X.prog X.w _ _ ⟨.bl true, H, I, rfl, q⟩
  · obtain ⟨its, r1, l1, _⟩ := I.tuple h1
    obtain ⟨jts, r2, l2, _⟩ := I.tuple h2
    have e1 := r1.length
    have e2 := r2.length
    have := SeqAt.RcAt.tuples (A := X.A) (e := fun _ => true) l1 l2 (by omega) (fun j q1 q2 => deq_eqAt I n X.A.in1 _ _ _ _ (in1_units hu) (he j (by simp at q1; omega)) (vals_at r1 j q1) (vals_at r2 j q2))
    rw [show (List.range (min its.toArray.size jts.toArray.size)).all (fun _ => true) = true from List.all_eq_true.mpr fun _ _ => rfl, Bool.true_and, beq_iff_eq.mpr (by simp; omega)] at this
    exact this X.prog X.w _ _ ⟨.bl true, H, I, rfl, q⟩
theorem op_ne_dq {X : Cx} {n : Nat} (hu : X.A.units + (n + 1) < cLine) : OpR X (compareOp .NotEq) (rDq X.K n false) := by
  intro pins s σ H x y v u Q I rx ry h
  obtain ⟨a, c, xs, ys, rfl, rfl, hs, hl, he, q⟩ := h
  cases rx
  cases ry
  rcases hs with ⟨h1, h2⟩ | ⟨h1, h2⟩
  · obtain ⟨its, r1, l1, _⟩ := I.list h1
    obtain ⟨jts, r2, l2, _⟩ := I.list h2
    have e1 := r1.length
    have e2 := r2.length
    have := SeqAt.RcNeAt.lists (A := X.A) (e := fun _ => true) l1.isList l2.isList (by simp; omega) (by omega) (fun j q1 q2 => deq_eqAt I n X.A.in1 _ _ _ _ (in1_units hu) (he j (by simp at q1; omega)) (vals_at r1 j q1) (vals_at r2 j q2))
    rw [show (List.range its.toArray.size).all (fun _ => true) = true from List.all_eq_true.mpr fun _ _ => rfl] at this
    exact this X.prog X.w _ _ ⟨.bl false, H, I, rfl, q⟩
  · obtain ⟨its, r1, l1, _⟩ := I.tuple h1
    obtain ⟨jts, r2, l2, _⟩ := I.tuple h2
    have e1 := r1.length
    have e2 := r2.length
    have := SeqAt.RcNeAt.tuples (A := X.A) (e := fun _ => true) l1 l2 (by omega) (fun j q1 q2 => deq_eqAt I n X.A.in1 _ _ _ _ (in1_units hu) (he j (by simp at q1; omega)) (vals_at r1 j q1) (vals_at r2 j q2))
    rw [show (List.range (min its.toArray.size jts.toArray.size)).all (fun _ => true) = true from List.all_eq_true.mpr fun _ _ => rfl, Bool.true_and, beq_iff_eq.mpr (by simp; omega)] at this
    exact this X.prog X.w _ _ ⟨.bl false, H, I, rfl, q⟩
end L2
namespace L2
open PySem PyProof.Rows PySem.Spec PySem.Calls
theorem hu_n {A : Around} {k : Nat} (hr : Room k A) (n : Nat) (h : n ≤ 60) : A.units + (n + 1) < cLine := Nat.lt_of_le_of_lt (Nat.add_le_add_left (by omega : n + 1 ≤ 64) _) hr.units
end L2


namespace L2
open PySem PyProof.Rows PySem.Spec PySem.Calls
/-! ### comprehensions over pairs -/
def inSt2 (frees : List (Str × Nat)) (σ : St) (x y : Option V) : St := x :: y :: frees.map fun p => (σ[p.2]?).join
def CompB2 (K : PySem.W.Frag) (J : It) (tc : TT) (te : TE) (σf : Option V → Option V → St) (H1 : Hp) (Q : VK) : Prop := ∀ D, H1 D = none →
  ∃ W : Nat → Nat → List V → Hp → Prop, (∃ m, W 0 m [] (upd H1 D (.lst []))) ∧ ∀ i m ys H2, W i m ys H2 → H2 D = some (.lst ys) ∧
    ((J.stop i H2 ∧ Q (.ref D) H2) ∨ (J.go i H2 ∧ ys.length < sizeLine ∧ ∀ z H3, J.yld i H2 z H3 → ∃ a x x2, z = .ref a ∧ SqT K H3 a [x, x2] ∧ tc (σf (some x) (some x2)) H3 fun b H4 =>
      if b = true then te (σf (some x) (some x2)) H4 fun y H5 => H5 D = some (.lst ys) ∧ ∃ m', m' < m ∧ W (i + 1) m' (ys ++ [y]) (upd H5 D (.lst (ys ++ [y]))) else ∃ m', m' < m ∧ W (i + 1) m' ys H4))
section
variable {X : Cx} {elt iter : Expr} {x x2 : Str} {px px2 tp pos : Pos} {kk : Nat} {ifs : List Expr} {scope : Scope} {frees : List (Str × Nat)} {tc : TT} {te : TE}
structure CompOk2 (X : Cx) (scope : Scope) (x x2 : Str) (frees : List (Str × Nat)) : Prop where
  cell : ∀ y ∈ scope.names, y.2 ≠ .cell
  kind : scope.kind = .function
  own : scope.names.lookup x = some .local
  own2 : scope.names.lookup x2 = some .local
  names : ∀ y ∈ scope.names, y.2 = .local → scope.names.lookup y.1 = some .local
  fr : FreesOk X scope frees
  nd : (x :: x2 :: frees.map (·.1)).Nodup
  cl : ∀ p ∈ scope.names, p.2 = .free → (X.env.cells.lookup p.1).isSome = true
  calm : X.calm = true
/-- [elt for x in iter if ..] -/
def tComp2 (K : PySem.W.Frag) (frees : List (Str × Nat)) (tc : TT) (te : TE) (wi : TI) : TE := fun σ H Q => wi σ H fun J H1 => CompB2 K J tc te (inSt2 frees σ) H1 Q
end
end L2

namespace L2
open PySem PySem.Spec PyProof.Rows
/-! ### list(range(i, j)) -/
def rngV (i : Int) (n : Nat) : List V := (List.range n).map fun k => V.int (i + (k : Nat))
theorem vals_of : ∀ {xs : List V} {us : List Value}, xs.length = us.length → (∀ (k : Nat) x u, xs[k]? = some x → us[k]? = some u → RelV x u) → Vals xs us
  | [], [], _, _ => .nil
  | x :: xs, u :: us, e, h => .cons (h 0 x u rfl rfl) (vals_of (Nat.succ.inj e) fun k y w h1 h2 => h (k + 1) y w h1 h2)
  | [], _ :: _, e, _ => nomatch e
  | _ :: _, [], e, _ => nomatch e
section
variable {X : Cx}
def tListRange (ta : TA) : TE := fun σ H Q => ta σ H fun vs H1 => ∃ i j : Int, vs = [.int i, .int j] ∧ (-(2 ^ 62) ≤ i ∧ i < 2 ^ 62 ∧ -(2 ^ 62) ≤ j ∧ j < 2 ^ 62) ∧ (j - i).toNat ≤ sizeLine ∧ (j - i).toNat ≤ 2 ^ 24 ∧ ∀ l, H1 l = none → Q (.ref l) (upd H1 l (.lst (rngV i (j - i).toNat)))
end
end L2
namespace L2
open PySem PySem.Spec PyProof.Rows
def rListOf (K : PySem.W.Frag) : List V → Hp → VK → Prop := fun xs H Q => ∃ p ys, xs = [.ref p] ∧ (SqL K H p ys ∨ SqT K H p ys) ∧ ∀ l, H l = none → Q (.ref l) (upd H l (.lst ys))
end L2

namespace PySem
open Sem (wp)
end PySem

namespace PySem
open Sem (wp)
section
variable {prog : Program} {w : World} {K : Type} [DecidableEq K] {knd : KeyKind prog w K} {A : Around} {R : Result → Shared → Prop}
/-- the pairs, put in one behind another -/
def putAll (ps : List (K × Value)) : List (K × Value) := ps.foldl (fun acc p => stored acc p.1 p.2) []
end
end PySem
namespace L2
open PySem PySem.Spec PyProof.Rows
def rDictPairs (K : PySem.W.Frag) : List V → Hp → VK → Prop := fun xs H Q => ∃ p ts kvs, xs = [.ref p] ∧ H p = some (.lst ts) ∧ ts.length = kvs.length ∧ (∀ (i : Nat) y (q : Key × V), ts[i]? = some y → kvs[i]? = some q → ∃ t, y = .ref t ∧ SqT K H t [kV q.1, q.2]) ∧ (kvs.map (·.1)).Nodup ∧
  ∀ d, H d = none → Q (.ref d) (upd H d (.dK kvs))
def rDictOf : List V → Hp → VK → Prop := fun xs H Q => ∃ a kvs, xs = [.ref a] ∧ Rd H a (.dK kvs) ∧ ∀ d, H d = none → Q (.ref d) (upd H d (.dK kvs))
theorem bt_dict : bootBuiltins "dict" = some (.type "dict") := by decide +kernel
end L2

namespace L2
open PySem PyProof.Rows PySem.Spec PySem.Calls
/-! ### xs[i] op= v -/
section
variable {X : Cx}
def rGetL : V → V → Hp → VK → Prop := fun o i H Q => ∃ p xs k, o = .ref p ∧ i = .int k ∧ H p = some (.lst xs) ∧ 0 ≤ k ∧ k < ((xs.length : Nat) : Int) ∧ ∀ v, xs[k.toNat]? = some v → Q v H
theorem get_list : PGet X rGetL := by
  intro pins s σ H o i ov iv Q I ro ri h
  obtain ⟨p, xs, k, rfl, rfl, hp, h0, h1, q⟩ := h
  cases ro
  obtain ⟨t, rfl⟩ := ri
  obtain ⟨its, r, pl, hz⟩ := I.list (SqL.of hp)
  obtain ⟨v, ev⟩ : ∃ v, xs[k.toNat]? = some v := ⟨_, List.getElem?_eq_getElem (by omega)⟩
  obtain ⟨w, ew, rw'⟩ := r.get ev
  have hn := line63
  exact wpAny_getItem_list pl.isList h0 (by omega) (by simpa using ew) ⟨v, H, I, rw', q v ev⟩
/-! ### tuples of flat things, as long as each other: == and != -/
def rEqT (K : PySem.W.Frag) (neg : Bool) : R2 := fun x y H Q => ∃ p q xs ys, x = .ref p ∧ y = .ref q ∧ SqT K H p xs ∧ SqT K H q ys ∧ xs.length = ys.length ∧ xs.all flatV = true ∧ ys.all flatV = true ∧ Q (.bl (if neg then !eqVs xs ys else eqVs xs ys)) H
end
end L2

namespace L2
open PySem PySem.Spec PyProof.Rows
/-! ### except X: without a name -/
section
variable {X : Cx}
def tPl (K : PySem.W.Frag) (B : Addr) (ts : TS) (tr : TH) : TH := fun D σ H C ea => PySem.W.excMk K C = true ∧ PySem.W.excMk K B = true ∧ ∃ b, PySem.W.mroHas K C (.ref B) = b ∧ if b = true then ts D σ H else tr D σ H C ea
end
end L2

namespace L2
open PySem PyProof.Rows PySem.Spec PySem.Calls
/-! ### a list or a tuple is no string -/
section
variable {X : Cx}
def rNeS (K : PySem.W.Frag) : R2 := fun x y H Q => (∃ a i xs, x = .ref a ∧ y = .str i ∧ (SqL K H a xs ∨ SqT K H a xs) ∧ Q (.bl true) H) ∨ rNe x y H Q
/-! ### the smaller of a pair -/
end
end L2

namespace L2
open PySem PySem.Spec PyProof.Rows
/-! ### a comprehension with a condition whose items are new things -/
end L2

namespace L2
open PySem PySem.Spec PyProof.Rows
/-! ### list(d): the keys of a dict -/
section
variable {X : Cx}
def rListDict : List V → Hp → VK → Prop := fun xs H Q => ∃ p kvs, xs = [.ref p] ∧ H p = some (.dK kvs) ∧ ∀ l, H l = none → Q (.ref l) (upd H l (.lst (kvs.map fun q => kV q.1)))
theorem call_list_dict (hc : X.calm = true) : CallR X (.type "list") rListDict := by
  intro pins s σ H xs us Q I r h
  obtain ⟨p, kvs, rfl, hp, q⟩ := h
  obtain ⟨u, rfl, rx⟩ := vals1 r
  cases rx
  obtain ⟨z, hd, vs, rk, o, es, ep, e', xd, dt, ko, pr, nd⟩ := I.hok p _ hp
  have hl := KV.length rk
  refine PySem.W.kdl_call (PySem.W.kdl_dict (knd := mixKind X.prog X.w) (kvs := vs) (ep := ep) hd) (I.ok.hd hc) ⟨o, es, e', xd, dt, ko, pr, nd⟩ (by omega) (fun h' tk acc' c' kp e it => ?_)
  refine ⟨.ref s.heap.objs.size, _, I.laid (t' := tk) kp (Nat.le_refl _) (show ObjOk X.prog X.w _ h' _ (.lst (kvs.map fun q => kV q.1)) from ⟨by rw [List.length_map]; exact z, acc'.toList, c', vals_of ?_ fun k x u hx hu => ?_, e⟩), rfl, q _ (I.hok.fresh (Nat.le_refl _))⟩
  · have h1 : acc'.toList.length = vs.length := it.1
    rw [List.length_map, h1]
    exact hl
  · have hu' : acc'[k]? = some u := by simpa using hu
    obtain ⟨k', x', e1, e2⟩ := it.2 k u hu'
    rw [List.getElem?_map] at hx
    obtain ⟨y, ey, rfl⟩ := Option.map_eq_some_iff.mp hx
    have q1 : (kvs.map (·.1))[k]? = (vs.map (·.1))[k]? := by rw [KV.keys rk]
    rw [List.getElem?_map, List.getElem?_map, ey, e1] at q1
    have q2 : y.1 = k' := Option.some.inj q1
    show RelV (kV y.1) u
    rw [q2]
    exact rel_key e2
end
end L2

namespace L2
open PySem PySem.Spec PyProof.Rows
/-! ### sorted() of texts: a list of them, or the keys of a dict -/
section
variable {X : Cx}
def rSortedL (K : PySem.W.Frag) : List V → Hp → VK → Prop := fun xs H Q => ∃ p ss, xs = [.ref p] ∧ SqL K H p (ss.map V.str) ∧ ss.length < 64 ∧ ∀ l ss', H l = none → List.Perm ss' ss → sortedS ss' = true → Q (.ref l) (upd H l (.lst (ss'.map V.str)))
end
end L2
namespace L2
open PySem PySem.Calls PyProof.Rows PyProof.V PySem.Spec PySem.W
end L2
namespace L2
open PySem PySem.Spec PyProof.Rows
section
variable {X : Cx}
/-- the n times that a list holds a flat thing -/
def rCount : V → List V → Hp → VK → Prop := fun x vs H Q => ∃ l xs y, x = .ref l ∧ vs = [y] ∧ H l = some (.lst xs) ∧ xs.all flatV = true ∧ flatV y = true ∧ Q (.int ((xs.countP fun z => eqV z y : Nat) : Int)) H
/-- sorted() of a dict whose keys are texts -/
def rSortedD : List V → Hp → VK → Prop := fun xs H Q => ∃ p kvs ss, xs = [.ref p] ∧ H p = some (.dK kvs) ∧ kvs.map (fun q => kV q.1) = ss.map V.str ∧ ss.length < 64 ∧ ∀ l ss', H l = none → List.Perm ss' ss → sortedS ss' = true → Q (.ref l) (upd H l (.lst (ss'.map V.str)))
end
end L2
namespace L2
open PySem PySem.Spec PyProof.Rows
section
variable {X : Cx}
/-- z.index(y), where y stands in z -/
def rSIndex : V → List V → Hp → VK → Prop := fun x vs H Q => ∃ z y i rest, x = .str z ∧ vs = [.str y] ∧ Builtin.Str.occurrences z y 0 z.length 1 = i :: rest ∧ Q (.int ((i : Nat) : Int)) H
end
end L2
namespace L2
open PySem PyProof.Rows PySem.Spec PySem.Calls
section
variable {X : Cx}
/-! ### d.setdefault(k, v) -/
def rSetD : V → List V → Hp → VK → Prop := fun x vs H Q => ∃ d kvs k y, x = .ref d ∧ vs = [kV k, y] ∧ H d = some (.dK kvs) ∧ kvs.length < 1000 ∧ (∀ u, valV kvs k = some u → Q u H) ∧ (valV kvs k = none → Q y (upd H d (.dK (kvs ++ [(k, y)]))))
theorem mt_setdefault : MtR X "dict.setdefault" rSetD := by
  intro pins s σ H x vs v us Q I rx rv h
  obtain ⟨d, kvs, k, y, rfl, rfl, hd, hz, q1, q2⟩ := h
  cases rx
  obtain ⟨u, w', rfl, r1, r2⟩ := vals2 rv
  obtain ⟨z1, m1, vs1, k1, d1⟩ := dk_of I.hok hd
  have l1 := k1.length
  have hv := k1.val k
  refine call_meetsIn PySem.F.slot_dict_setdefault d1.typeIs PySem.F.entry_dict_setdefault (PySem.F.args_dict_setdefault_3 _ _ _) (kt_meets_setdefault (mixKind X.prog X.w) d (kV_is r1) m1 w')
    ⟨vs1, d1, (by rw [← l1, sizeLine_eq]; omega), (fun v' hv' => ?_), (fun hn h' hm hs => ?_)⟩
  · rw [hv'] at hv
    cases e : valV kvs k with
    | none => rw [e] at hv; exact hv.elim
    | some y' =>
      rw [e] at hv
      exact ⟨y', H, I.tok _, hv, q1 y' e⟩
  · rw [hn] at hv
    cases e : valV kvs k with
    | some y' => rw [e] at hv; exact hv.elim
    | none =>
      have kp := k1.put k r2
      rw [putK_new y e] at kp
      refine ⟨y, _, ?_, r2, q2 e⟩
      exact d_write I (by rw [hd]; exact True.intro) hs (let ⟨o, _, _, hq, _⟩ := hm; ⟨o, hq⟩) (dk_new (by rw [List.length_append, sizeLine_eq]; show kvs.length + 1 ≤ _; omega) m1 kp hm)
theorem pe_callD0 {k : Nat} {x : Str} {ps : List Str} {sp : Sp} {p pos : Pos} (D : Dfn X.prog X.w X.K X.mg X.base k x ps sp) (hr : Room k X.A) (hg : Gl X x) (hdb : (x == ("__debug__" : Str)) = false := by decide) : PE X (.Call (.Name x p) [] [] pos) (tCall sp [] E0 tNil) := by
  obtain ⟨f, fd, F, b, kp, m⟩ := D.ex
  exact pe_call0 F hr hg m kp b .nil pass0 hdb
/-! ### dicts of flat values compared -/
def hasD (kb : List (Key × V)) (p : Key × V) : Bool := match valV kb p.1 with
  | some y => eqV p.2 y
  | none => false
def eqD (ka kb : List (Key × V)) : Bool := ka.length == kb.length && ka.all (hasD kb)
theorem valV_mem {kb : List (Key × V)} {k : Key} {y : V} (e : valV kb k = some y) : ∃ p ∈ kb, p.2 = y := by
  unfold valV at e
  cases f : kb.find? (fun kv => decide (kv.1 = k)) with
  | none => rw [f] at e; cases e
  | some p => rw [f] at e; exact ⟨p, List.mem_of_find?_eq_some f, Option.some.inj e⟩
theorem keqHits {A : Around} {s : Shared} {kb : List (Key × V)} {vb : List (Key × Value)} (rb : KV kb vb) (fb : ∀ p ∈ kb, flatV p.2 = true) : ∀ {ka : List (Key × V)} {va : List (Key × Value)}, KV ka va → (∀ p ∈ ka, flatV p.2 = true) → PySem.W.KeqHits A s vb va (ka.all (hasD kb))
  | _, _, .nil, _ => .nil
  | (k, x) :: ka, (k', u) :: va, .cons ⟨e, r⟩ t, fa => by
    have e' : k = k' := e
    subst e'
    have ih := keqHits (A := A) (s := s) rb fb t fun p hp => fa p (.tail _ hp)
    have hv := rb.val k
    rw [List.all_cons]
    cases f : valV kb k with
    | none =>
      rw [f] at hv
      cases g : valueAt vb k with
      | some y => rw [g] at hv; exact hv.elim
      | none =>
        have : hasD kb (k, x) = false := by unfold hasD; rw [show (k, x).1 = k from rfl, f]
        rw [this, Bool.false_and]
        exact .miss g
    | some y =>
      rw [f] at hv
      cases g : valueAt vb k with
      | none => rw [g] at hv; exact hv.elim
      | some y' =>
        rw [g] at hv
        have : hasD kb (k, x) = eqV x y := by unfold hasD; rw [show (k, x).1 = k from rfl, f]
        rw [this]
        obtain ⟨p, hp, hy⟩ := valV_mem f
        exact .hit g (eqAt_V r hv (fa _ (.head _)) (by rw [← hy]; exact fb p hp)) ih
def rEqDk (neg : Bool) : R2 := fun x y H Q => ∃ a b ka kb, x = .ref a ∧ y = .ref b ∧ H a = some (.dK ka) ∧ H b = some (.dK kb) ∧ (∀ p ∈ ka, flatV p.2 = true) ∧ (∀ p ∈ kb, flatV p.2 = true) ∧ Q (.bl (if neg then !eqD ka kb else eqD ka kb)) H
theorem op_ne_d (hu : X.A.units < cLine) : OpR X (compareOp .NotEq) (rEqDk true) := by
  intro pins s σ H x y v u Q I rx ry h
  obtain ⟨a, b, ka, kb, rfl, rfl, ha, hb, fa, fb, q⟩ := h
  cases rx
  cases ry
  obtain ⟨_, m1, va, k1, d1⟩ := dk_of I.hok ha
  obtain ⟨_, m2, vb, k2, d2⟩ := dk_of I.hok hb
  refine PySem.W.keq_ne m1 m2 d1 d2 hu (fun _ => keqHits k2 fb k1 fa) ⟨.bl _, H, I, rfl, ?_⟩
  rw [← k1.length, ← k2.length]
  exact q
/-! ### slices with a step -/
def pickV (xs : List V) (lo hi st : Option Int) : List V := (sliceRange (sliceBounds lo hi st xs.length).1 (sliceBounds lo hi st xs.length).2.1 (sliceBounds lo hi st xs.length).2.2).filterMap (xs[·]?)
theorem vals_pick {xs : List V} {us : List Value} (r : Vals xs us) : ∀ ix : List Nat, Vals (ix.filterMap (xs[·]?)) (ix.filterMap (us.toArray[·]?))
  | [] => .nil
  | i :: ix => by
    have ih := vals_pick r ix
    have hl := r.length
    cases e : xs[i]? with
    | none =>
      have e' : us.toArray[i]? = none := by
        rw [List.getElem?_toArray]
        exact List.getElem?_eq_none (by have := List.getElem?_eq_none_iff.mp e; omega)
      rw [List.filterMap_cons_none e, List.filterMap_cons_none e']
      exact ih
    | some x =>
      obtain ⟨u, eu, ru⟩ := r.get e
      have e' : us.toArray[i]? = some u := by rw [List.getElem?_toArray]; exact eu
      rw [List.filterMap_cons_some e, List.filterMap_cons_some e']
      exact .cons ru ih
def tSl3 (K : PySem.W.Frag) (te : TE) (tl th ts : TO) : TE := fun σ H Q => te σ H fun x H1 => tl σ H1 fun l H2 => th σ H2 fun u H3 => ts σ H3 fun c H4 => ∃ a xs, x = .ref a ∧ SqL K H4 a xs ∧ c ≠ some 0 ∧ ∀ p, H4 p = none → Q (.ref p) (upd H4 p (.lst (pickV xs l u c)))
theorem pe_slice3 {e : Expr} {te : TE} {lo hi : Option Expr} {st : Expr} {tl th ts : TO} {pos p2 : Pos} (he : PE X e te) (hl : PO X lo tl) (hu : PO X hi th) (hst : PO X (some st) ts) : PE X (.Subscript e (.Slice lo hi (some st) p2) pos) (tSl3 X.K te tl th ts) := by
  intro pins s σ H Q I h
  refine Subscript_ (thn (he pins s σ H _ I h) fun v s1 ⟨x, H1, I1, r1, q1⟩ => ?_)
  refine wpAny_Slice (thn (hl pins s1 σ H1 _ I1 q1) fun vl s2 ⟨l, H2, I2, pl, q2⟩ => thn (hu pins s2 σ H2 _ I2 q2) fun vu s3 ⟨u, H3, I3, pu, q3⟩ => thn (hst pins s3 σ H3 _ I3 q3) fun vk s4 ⟨c, H4, I4, pk, q4⟩ => ?_)
  obtain ⟨a, xs, rfl, hx, c0, q⟩ := q4
  cases r1
  have I5 : Inv X pins σ H4 { s4 with heap := s4.heap.push { cls := .type "slice", data := .fields #[vl, vu, vk] } } := I4.kept (t' := s4.toks) fun b ob q => Heap.get?_push_of_some _ q
  obtain ⟨its, r, ht, hz⟩ := I5.list hx
  have hlen := r.length
  refine tail_any (ops := [.ref a, .ref s4.heap.objs.size]) ht.isList.typeIs slot_list_getitem.lookup ?_ (by with_unfolding_all rfl)
  refine wpAny_getItem_list_slice ht.isList (Heap.IsSliceOf.new ..) pl pu pk c0 ?_ (by rw [List.size_toArray] <;> omega)
  refine ⟨.ref _, _, I5.laid (t' := s4.toks) (o := .lst (pickV xs l u c)) (fun b ob q => Heap.get?_push_of_some _ q) (Nat.le_refl _) ?_, rfl, q _ (I5.hok.fresh (Nat.le_refl _))⟩
  have sz := slicePick_size_le its.toArray l u c
  have pk' := vals_pick r (sliceRange (sliceBounds l u c xs.length).1 (sliceBounds l u c xs.length).2.1 (sliceBounds l u c xs.length).2.2)
  refine ⟨?_, _, 0, pk', ?_⟩
  · show (pickV xs l u c).length ≤ sizeLine
    have e1 := pk'.length
    unfold pickV
    rw [e1]
    unfold slicePick at sz
    rw [List.size_toArray, List.size_toArray, ← hlen] at sz
    exact Nat.le_trans sz hz
  · rw [hlen]
    have e2 : its.toArray.size = its.length := List.size_toArray ..
    show (Heap.push _ { cls := .type "list", data := .seq (slicePick its.toArray l u c) }).get? _ = _
    unfold slicePick
    rw [e2]
    exact Heap.get?_push_size _ rfl
def thirds (n : Nat) : List Nat := (List.range n).filter fun k => k % 3 == 1
theorem thirds_succ (n : Nat) : thirds (n + 1) = thirds n ++ (if n % 3 = 1 then [n] else []) := by
  unfold thirds
  rw [List.range_succ, List.filter_append]
  congr 1
  by_cases c : n % 3 = 1
  · rw [if_pos c, List.filter_cons_of_pos (by rw [c]; rfl)]; rfl
  · rw [if_neg c, List.filter_cons_of_neg (by intro h; exact c (eq_of_beq h))]; rfl
theorem thirds_eq (n : Nat) : thirds n = (List.range ((n + 1) / 3)).map fun k => 1 + 3 * k := by
  induction n with
  | zero => rfl
  | succ n ih =>
    rw [thirds_succ, ih]
    by_cases c : n % 3 = 1
    · rw [if_pos c, show (n + 1 + 1) / 3 = (n + 1) / 3 + 1 by omega, List.range_succ, List.map_append]
      congr 1
      show [n] = [1 + 3 * ((n + 1) / 3)]
      congr 1
      omega
    · rw [if_neg c, List.append_nil, show (n + 1 + 1) / 3 = (n + 1) / 3 by omega]
theorem pick_thirds (xs : List V) : pickV xs (some 1) none (some 3) = (thirds xs.length).filterMap (xs[·]?) := by
  unfold pickV
  congr 1
  rw [thirds_eq]
  have e1 : (sliceBounds (some 1) none (some 3) xs.length).1 = max 0 (min 1 (xs.length : Int)) := rfl
  have e2 : (sliceBounds (some 1) none (some 3) xs.length).2.1 = (xs.length : Int) := rfl
  have e3 : (sliceBounds (some 1) none (some 3) xs.length).2.2 = 3 := rfl
  rw [e1, e2, e3]
  unfold sliceRange
  generalize xs.length = n
  dsimp only
  rw [if_pos (by decide)]
  by_cases c : 1 < n
  · have a1 : max (0 : Int) (min 1 (n : Int)) = 1 := by omega
    rw [a1, if_pos (by omega)]
    have a2 : (((n : Int) - 1 + 3 - 1) / 3).toNat = (n + 1) / 3 := by omega
    rw [a2]
    refine List.map_congr_left fun k _ => ?_
    omega
  · rw [if_neg (by omega)]
    have a2 : (n + 1) / 3 = 0 := by omega
    rw [a2]
    rfl
/-! ### a comprehension with a pair as target and a condition -/
/-! ### a comprehension whose items are new things, told by their kinds -/
/-! ### a comprehension of which just some items are known to stand -/
end
end L2

namespace My
open PySem L2
/-- figures, by their codes; what is a number, what it writes -/
def fig : List Nat := List.range' 48 10
def isnum (z : Str) : Bool := decide ((1 : Int) ≤ (z.length : Nat)) && decide (((z.length : Nat) : Int) ≤ 9) && (z.cps.toList.all fun c => decide (c ∈ fig)) && (decide (z = ⟨#[48]⟩) || !decide (z.cps.toList.headD 0 = 48))
def val (z : Str) : Int := ((NumText.digitsVal z.cps.toList : Nat) : Int)
def wr (z : Str) : V := if isnum z = true then .int (val z) else .non
def inNum (z : Str) (lo hi : Int) : V := if (isnum z && decide (lo ≤ val z) && decide (val z ≤ hi)) = true then .int (val z) else .non
/-- small letters, figures, by their codes -/
def low : List Nat := List.range' 97 26
def good (z : Str) : Bool := decide ((1 : Int) ≤ (z.length : Nat)) && decide (((z.length : Nat) : Int) ≤ 12) && decide (z.cps.toList.headD 0 ∈ low) && z.cps.toList.all fun c => decide (c ∈ low ++ fig)
/-- what is_layout tells of a text -/
def lay (z : Str) : Bool := decide (z = Str.ofString "both") || (Txt.startswith z (Str.ofString "up:") && decide (¬ inNum (Txt.slice z (some 3) none) 2 16 = V.non))
/-- the fifteen texts behind both -/
def goods : List V := (((List.range 15).map fun i => V.int (2 + ((i : Nat) : Int))).filter fun _ => true).map fun v => match v with | .int n => V.str (Str.ofString "up:" ++ Str.ofString (toString n)) | _ => .non
def goodTexts : List Str := (List.range 15).map fun i => Str.ofString "up:" ++ Str.ofString (toString (2 + ((i : Nat) : Int)))
end My

namespace My
open PySem L2
open Blk (sg sg_inj sg_app)
/-! ### parts between a sign c -/
def Jc (c : Nat) : List (List Nat) → List Nat
  | [] => []
  | [x] => x
  | x :: y :: r => x ++ c :: Jc c (y :: r)
def Cc (c : Nat) : List Nat → List (List Nat)
  | [] => [[]]
  | d :: r => if d = c then [] :: Cc c r else match Cc c r with
    | [] => [[d]]
    | p :: ps => (d :: p) :: ps
/-! ### beginnings -/
theorem sg_len (z : Str) : (sg z).length = z.length := len_toList z
/-! ### numbers written -/
def tn (n : Int) : Str := Str.ofString (toString n)
end My

namespace My
open PySem L2
open Blk (sg sg_inj sg_app)
/-- what a word tells: a plain value, or a pair of pages -/
inductive VO where
  | v (x : V) | pair (a b : Int)
  deriving DecidableEq
def non : VO := .v .non
abbrev cX : Str := Str.ofString "x"
abbrev cCol : Str := Str.ofString "colour:"
abbrev cPap : Str := Str.ofString "paper:"
abbrev cCov : Str := Str.ofString "cover:"
abbrev cAft : Str := Str.ofString "after:"
abbrev cSta : Str := Str.ofString "staple"
abbrev cLay : Str := Str.ofString "layout"
abbrev cOne : Str := Str.ofString "one"
abbrev cPla : Str := Str.ofString "plain"
abbrev cDash : Str := Str.ofString "-"
abbrev cBlank : Str := Str.ofString " "
/-- the rest of a text behind a beginning -/
def rst (z p : Str) : Str := Txt.slice z (some ((p.length : Nat) : Int)) none
def readCol (span : Str) (pages : Int) : VO := match Txt.split span cDash with
  | [a, b] => (match inNum a 1 pages with
    | .int f => (match inNum b f pages with
      | .int l => .pair f l
      | _ => non)
    | _ => non)
  | _ => non
def three : List Str := [cPap, cCov, cAft]
def four : List Str := [cX, cCol, cPap, cCov]
def valueOf (z : Str) (pages : Int) : VO :=
  if z = cSta then .v (.bl true) else if lay z = true then .v (.str z) else if Txt.startswith z cX = true then .v (inNum (rst z cX) 1 99) else if Txt.startswith z cCol = true then readCol (rst z cCol) pages
  else match three.find? (fun p => Txt.startswith z p && good (rst z p)) with
    | some p => .v (.str (rst z p))
    | none => non
def sortOf (z : Str) : Str := if lay z = true then cLay else (four.find? fun p => Txt.startswith z p).getD z
def readTail (pages : Int) : List Str → Nat → List (Str × VO) → Except Nat (List (Str × VO))
  | [], _, t => .ok t
  | w :: r, p, t => if valueOf w pages = non ∨ sortOf w ∈ t.map (·.1) then .error p else readTail pages r (p + 1) (t ++ [(sortOf w, valueOf w pages)])
def toldV (t : List (Str × VO)) (k : Str) : Option VO := (t.find? fun p => decide (p.1 = k)).map (·.2)
/-- a job as it is read -/
structure JF where
  name : Str
  asker : Str
  pages : Int
  copies : VO
  layout : VO
  paper : VO
  cover : VO
  colour : VO
  staple : VO
  after : List VO
def readHead (ws : List Str) : Except Nat Int :=
  if good (ws.getD 0 cBlank) = false then .error 0 else if ws.length < 2 then .error ws.length else if good (ws.getD 1 cBlank) = false then .error 1 else if ws.length < 3 then .error ws.length else
  match inNum (ws.getD 2 cBlank) 1 999 with
  | .int n => .ok n
  | _ => .error 2
def toldJob (ws : List Str) (pages : Int) (t : List (Str × VO)) : JF :=
  { name := ws.getD 0 cBlank, asker := ws.getD 1 cBlank, pages := pages, copies := (toldV t cX).getD (.v (.int 1)), layout := (toldV t cLay).getD (.v (.str cOne)), paper := (toldV t cPap).getD (.v (.str cPla)), cover := (toldV t cCov).getD non, colour := (toldV t cCol).getD non,
    staple := (toldV t cSta).getD (.v (.bl false)), after := (t.filter fun p => Txt.startswith p.1 cAft).map (·.2) }
def readJ (z : Str) : Except Nat JF := match readHead (Txt.split z cBlank) with
  | .error p => .error p
  | .ok n => match readTail n ((Txt.split z cBlank).drop 3) 3 [] with
    | .error p => .error p
    | .ok t => .ok (toldJob (Txt.split z cBlank) n t)
/-! ### a job's own values -/
structure Jb where
  name : Str
  asker : Str
  pages : Int
  copies : Int
  layout : Str
  paper : Str
  cover : Option Str
  colour : Option (Int × Int)
  staple : Bool
  after : List Str
structure Jb.Ok (j : Jb) : Prop where
  name : good j.name = true
  asker : good j.asker = true
  p0 : 1 ≤ j.pages
  p1 : j.pages ≤ 999
  c0 : 1 ≤ j.copies
  c1 : j.copies ≤ 99
  lay : j.layout ∈ cOne :: Str.ofString "both" :: goodTexts
  paper : good j.paper = true
  cover : ∀ z, j.cover = some z → good z = true
  colour : ∀ a b, j.colour = some (a, b) → 1 ≤ a ∧ a ≤ b ∧ b ≤ j.pages
  after : ∀ z ∈ j.after, good z = true
  nd : j.after.Nodup
  few : j.after.length ≤ 3
def Jb.jf (j : Jb) : JF := { name := j.name, asker := j.asker, pages := j.pages, copies := .v (.int j.copies), layout := .v (.str j.layout), paper := .v (.str j.paper), cover := (match j.cover with | some z => .v (.str z) | none => non), colour := (match j.colour with | some (a, b) => .pair a b | none => non), staple := .v (.bl j.staple), after := j.after.map fun z => .v (.str z) }
/-- the words that may be told: is it, the word, its sort, what it tells -/
def Jb.ents (j : Jb) (told : Bool) : List (Bool × Str × Str × VO) :=
  [(!decide (j.copies = 1) || told, cX ++ tn j.copies, cX, .v (.int j.copies)), (!decide (j.layout = cOne), j.layout, cLay, .v (.str j.layout)),
   (j.colour.isSome, cCol ++ tn (j.colour.getD (1, 1)).1 ++ cDash ++ tn (j.colour.getD (1, 1)).2, cCol, .pair (j.colour.getD (1, 1)).1 (j.colour.getD (1, 1)).2),
   (!decide (j.paper = cPla) || told, cPap ++ j.paper, cPap, .v (.str j.paper)), (j.cover.isSome, cCov ++ j.cover.getD cPla, cCov, .v (.str (j.cover.getD cPla))), (j.staple, cSta, cSta, .v (.bl true))]
def Jb.words (j : Jb) (told : Bool) : List Str := ((j.ents told).filter (·.1)).map (·.2.1)
def Jb.afts (j : Jb) : List Str := j.after.map fun n => cAft ++ n
/-! ### what each word is worth -/
end My

namespace My
open PySem L2
open Blk (sg sg_inj sg_app)
def sorts : List Str := [cX, cLay, cCol, cPap, cCov, cSta]
def told (pages : Int) (M : List Str) : List (Str × VO) := M.map fun w => (sortOf w, valueOf w pages)
/-- the words behind the head, mixed: those of the sorts in any order, those after which it comes in theirs -/
structure Mix (ws as M : List Str) : Prop where
  perm : M.Perm (ws ++ as)
  afts : (M.filter fun w => Txt.startswith w cAft) = as
def Jb.head (j : Jb) : List Str := [j.name, j.asker, tn j.pages]
end My

namespace My
open PySem L2
open Blk (sg sg_inj sg_app)
/-! ### what stands for a word's worth on the heap -/
def HoldsV (H : Hp) (x : V) : VO → Prop
  | .v y => x = y
  | .pair a b => ∃ p, x = .ref p ∧ H p = some (.tup [.int a, .int b])
theorem HoldsV.same {H H' : Hp} {x : V} {o : VO} (h : HoldsV H x o) (e : Same H H') : HoldsV H' x o := by
  cases o with
  | v y => exact h
  | pair a b => obtain ⟨p, h1, h2⟩ := h; exact ⟨p, h1, e _ _ h2⟩
theorem HoldsV.upd {H : Hp} {x : V} {o : VO} {D : Addr} {kvs : List (Key × V)} {u : HO} (h : HoldsV H x o) (hD : H D = some (.dK kvs)) : HoldsV (L2.upd H D u) x o := by
  cases o with
  | v y => exact h
  | pair a b =>
    obtain ⟨p, h1, h2⟩ := h
    exact ⟨p, h1, by rw [upd_ne (ne_of h2 hD (by intro z; cases z))]; exact h2⟩
/-- the dict of what was told -/
def TR (H : Hp) (q : Key × V) (p : Str × VO) : Prop := q.1 = Sum.inr p.1 ∧ HoldsV H q.2 p.2
structure Told (H : Hp) (D : Addr) (kvs : List (Key × V)) (t : List (Str × VO)) : Prop where
  at_ : H D = some (.dK kvs)
  rel : Paired (TR H) kvs t
  nd : (t.map (·.1)).Nodup
theorem Told.look {H : Hp} {D : Addr} {kvs : List (Key × V)} {t : List (Str × VO)} (T : Told H D kvs t) (k : Str) : match valV kvs (Sum.inr k : Key), toldV t k with | some x, some o => HoldsV H x o | none, none => True | _, _ => False := by
  have key : ∀ {kvs : List (Key × V)} {t : List (Str × VO)}, Paired (TR H) kvs t → match valV kvs (Sum.inr k : Key), toldV t k with | some x, some o => HoldsV H x o | none, none => True | _, _ => False := by
    intro kvs t r
    induction r with
    | nil => trivial
    | @cons q p kvs t h r ih =>
      obtain ⟨h1, h2⟩ := h
      by_cases e : p.1 = k
      · rw [valV_pos (by rw [h1, e])]
        unfold toldV
        rw [List.find?_cons_of_pos (h := by exact decide_eq_true e)]
        exact h2
      · rw [valV_neg (by rw [h1]; intro z; injection z with z; exact e z)]
        unfold toldV
        rw [List.find?_cons_of_neg (h := by rw [decide_eq_false e]; decide)]
        exact ih
  exact key T.rel
theorem Told.has {H : Hp} {D : Addr} {kvs : List (Key × V)} {t : List (Str × VO)} (T : Told H D kvs t) (k : Str) : (valV kvs (Sum.inr k : Key)).isSome = decide (k ∈ t.map (·.1)) := by
  have q := T.look k
  cases e2 : toldV t k with
  | none =>
    have nm : k ∉ t.map (·.1) := fun m => by
      obtain ⟨p, hp, rfl⟩ := List.mem_map.mp m
      unfold toldV at e2
      rw [Option.map_eq_none_iff] at e2
      have := List.find?_eq_none.mp e2 p hp
      exact this (decide_eq_true rfl)
    rw [decide_eq_false nm]
    cases e1 : valV kvs (Sum.inr k : Key) with
    | none => rfl
    | some x => rw [e1, e2] at q; exact q.elim
  | some o =>
    have m : k ∈ t.map (·.1) := by
      unfold toldV at e2
      obtain ⟨p, hp, _⟩ := Option.map_eq_some_iff.mp e2
      exact List.mem_map.mpr ⟨p, List.mem_of_find?_eq_some hp, by have q := List.find?_some hp; exact of_decide_eq_true q⟩
    rw [decide_eq_true m]
    cases e1 : valV kvs (Sum.inr k : Key) with
    | none => rw [e1, e2] at q; exact q.elim
    | some x => rfl
theorem Told.same {H H' : Hp} {D : Addr} {kvs : List (Key × V)} {t : List (Str × VO)} (T : Told H D kvs t) (e : Same H H') : Told H' D kvs t := ⟨e _ _ T.at_, Paired.mapP T.rel fun _ _ h => ⟨h.1, h.2.same e⟩, T.nd⟩
theorem paired_snoc {α β : Type} {R : α → β → Prop} : ∀ {xs : List α} {ys : List β} {x : α} {y : β}, Paired R xs ys → R x y → Paired R (xs ++ [x]) (ys ++ [y])
  | _, _, _, _, .nil, h => .cons h .nil
  | _, _, _, _, .cons a b, h => .cons a (paired_snoc b h)
theorem Told.put {H : Hp} {D : Addr} {kvs : List (Key × V)} {t : List (Str × VO)} (T : Told H D kvs t) {k : Str} {x : V} {o : VO} (hx : HoldsV H x o) (hn : valV kvs (Sum.inr k : Key) = none) :
    Told (upd H D (.dK (putK kvs (Sum.inr k) x))) D (kvs ++ [(Sum.inr k, x)]) (t ++ [(k, o)]) := by
  have hk : k ∉ t.map (·.1) := fun m => by
    have q := T.has k
    rw [hn, decide_eq_true m] at q
    cases q
  refine ⟨?_, ?_, by rw [List.map_append]; exact nd_snoc T.nd hk⟩
  · rw [upd_same, putK_new x hn]
  · exact paired_snoc (Paired.mapP T.rel fun _ _ h => ⟨h.1, h.2.upd T.at_⟩) ⟨rfl, hx.upd T.at_⟩
theorem Told.keys {H : Hp} {kvs : List (Key × V)} {t : List (Str × VO)} (r : Paired (TR H) kvs t) : kvs.map (·.1) = (t.map (·.1)).map Sum.inr := by
  induction r with
  | nil => rfl
  | cons h r ih => rw [List.map_cons, List.map_cons, List.map_cons, ih, h.1]
def luV (kvs : List (Key × V)) : V → V
  | .str s => (valV kvs (Sum.inr s : Key)).getD .non
  | _ => .non
def afterP : V → Bool
  | .str x => Txt.startswith x cAft
  | _ => false
theorem Told.after {H : Hp} {D : Addr} {kvs : List (Key × V)} {t : List (Str × VO)} (T : Told H D kvs t) (g : V → V) (hg : ∀ q ∈ kvs, g (kV q.1) = q.2) :
    Paired (fun a o => HoldsV H a o) (((kvs.map fun p => kV p.1).filter afterP).map g) ((t.filter fun p => Txt.startswith p.1 cAft).map (·.2)) := by
  rw [List.filter_map, List.map_map]
  have e : (kvs.filter (afterP ∘ fun p => kV p.1)).map (g ∘ fun p => kV p.1) = (kvs.filter (afterP ∘ fun p => kV p.1)).map (·.2) := List.map_congr_left fun q hq => hg q (List.mem_filter.mp hq).1
  rw [e]
  clear e hg
  have key : ∀ {kvs : List (Key × V)} {t : List (Str × VO)}, Paired (TR H) kvs t → Paired (fun a o => HoldsV H a o) ((kvs.filter (afterP ∘ fun p => kV p.1)).map (·.2)) ((t.filter fun p => Txt.startswith p.1 cAft).map (·.2)) := by
    intro kvs t r
    induction r with
    | nil => exact .nil
    | @cons q p kvs t h r ih =>
      obtain ⟨h1, h2⟩ := h
      have e1 : (afterP ∘ fun p : Key × V => kV p.1) q = Txt.startswith p.1 cAft := by
        show afterP (kV q.1) = _
        rw [h1]
        rfl
      cases hs : Txt.startswith p.1 cAft with
      | true =>
        rw [List.filter_cons_of_pos (by rw [e1, hs]), List.filter_cons_of_pos (by exact hs)]
        exact .cons h2 ih
      | false =>
        rw [List.filter_cons_of_neg (by rw [e1, hs]; decide), List.filter_cons_of_neg (by rw [hs]; decide)]
        exact ih
  exact key T.rel
theorem Told.len {H : Hp} {D : Addr} {kvs : List (Key × V)} {t : List (Str × VO)} (T : Told H D kvs t) : kvs.length = t.length := Paired.length T.rel
/-! ### a job on the heap -/
def jobF (a b c d e f g h i j : V) : List (Str × V) := [("name", a), ("asker", b), ("pages", c), ("copies", d), ("layout", e), ("paper", f), ("cover", g), ("colour", h), ("staple", i), ("after", j)]
structure JobAt (C : Addr) (H : Hp) (x : Addr) (f : JF) : Prop where
  ex : ∃ (dx pa : Addr) (d e p g h i : V) (as : List V), H x = some (.ins C dx (jobF (.str f.name) (.str f.asker) (.int f.pages) d e p g h i (.ref pa))) ∧ HoldsV H d f.copies ∧ HoldsV H e f.layout ∧ HoldsV H p f.paper ∧ HoldsV H g f.cover ∧ HoldsV H h f.colour ∧ HoldsV H i f.staple ∧
    H pa = some (.tup as) ∧ Paired (fun a o => HoldsV H a o) as f.after
theorem JobAt.same {C : Addr} {H H' : Hp} {x : Addr} {f : JF} (J : JobAt C H x f) (e : Same H H') : JobAt C H' x f := by
  obtain ⟨dx, pa, v1, v2, v3, v4, v5, v6, as, h0, h1, h2, h3, h4, h5, h6, h7, h8⟩ := J.ex
  exact ⟨dx, pa, v1, v2, v3, v4, v5, v6, as, e _ _ h0, h1.same e, h2.same e, h3.same e, h4.same e, h5.same e, h6.same e, e _ _ h7, Paired.mapP h8 fun _ _ h => h.same e⟩
end My

namespace My
open PySem L2
open Blk (sg sg_inj sg_app)
/-! ### names that differ at one place -/
def nmC (f r : Nat) (size place l : Nat) : List Nat := (f :: List.replicate (size - 1) r).set place l
def nm (f r : Nat) (size place l : Nat) : Str := ⟨(nmC f r size place l).toArray⟩
def ltr (s : Nat) (j : Nat) : Nat := 97 + (s + 5 * j) % 26
def nms (f r size place s : Nat) (m : Nat) : List Str := (List.range m).map fun j => nm f r size place (ltr s j)
structure NamesOk (ns : List Str) (m : Nat) : Prop where
  len : ns.length = m
  good : ∀ z ∈ ns, good z = true
  nd : ns.Nodup
def six : List Str := [Str.ofString "x2", Str.ofString "staple", Str.ofString "both", Str.ofString "up2", Str.ofString "plain", Str.ofString "after"]
def one (c : Nat) : Str := ⟨#[c]⟩
/-! ### the values that are due, on the heap -/
def optV : Option Str → V
  | some z => .str z
  | none => .non
structure Due (H : Hp) (t : Addr) (j : Jb) : Prop where
  ex : ∃ (vc : V) (pa : Addr), H t = some (.tup [.str j.name, .str j.asker, .int j.pages, .int j.copies, .str j.layout, .str j.paper, optV j.cover, vc, .bl j.staple, .ref pa]) ∧ HoldsV H vc j.jf.colour ∧ H pa = some (.tup (j.after.map V.str))
theorem Due.same {H H' : Hp} {t : Addr} {j : Jb} (D : Due H t j) (e : Same H H') : Due H' t j := by
  obtain ⟨vc, pa, h1, h2, h3⟩ := D.ex
  exact ⟨vc, pa, e _ _ h1, h2.same e, e _ _ h3⟩
end My

namespace My
open PySem L2
open Blk (sg sg_inj sg_app)
/-! ### words put in at drawn places -/
theorem ins_perm {α : Type} (M : List α) (i : Nat) (y : α) : (M.take i ++ y :: M.drop i).Perm (M ++ [y]) := by
  have a : (M.take i ++ y :: M.drop i).Perm (y :: (M.take i ++ M.drop i)) := List.perm_middle
  rw [List.take_append_drop] at a
  exact a.trans (List.perm_append_singleton y M).symm
structure Mid (ws as : List Str) (A : Nat) (M : List Str) : Prop where
  perm : M.Perm (ws ++ as)
  le : A ≤ M.length
  pre : ((M.take A).filter fun w => Txt.startswith w cAft) = as
  post : ((M.drop A).filter fun w => Txt.startswith w cAft) = []
theorem Mid.start {ws M : List Str} (p : M.Perm ws) (h : ∀ w ∈ ws, Txt.startswith w cAft = false) : Mid ws [] 0 M := by
  refine ⟨by rw [List.append_nil]; exact p, Nat.zero_le _, by simp, ?_⟩
  rw [List.drop_zero]
  exact List.filter_eq_nil_iff.mpr fun w hw => by rw [h w (p.mem_iff.mp hw)]; decide
theorem Mid.put {ws as M : List Str} {A B : Nat} {y : Str} (m : Mid ws as A M) (h1 : A ≤ B) (h2 : B ≤ M.length) (hy : Txt.startswith y cAft = true) : Mid ws (as ++ [y]) (B + 1) (M.take B ++ y :: M.drop B) := by
  have hl : (M.take B).length = B := by rw [List.length_take]; omega
  refine ⟨?_, ?_, ?_, ?_⟩
  · exact (ins_perm M B y).trans (by rw [← List.append_assoc]; exact m.perm.append_right [y])
  · rw [List.length_append, List.length_cons, hl, List.length_drop]
    omega
  · have e : (M.take B ++ y :: M.drop B).take (B + 1) = M.take B ++ [y] := by
      rw [List.take_append, hl, List.take_of_length_le (by omega), show B + 1 - B = 1 by omega]
      rfl
    rw [e, List.filter_append]
    have e2 : ((M.take B).filter fun w => Txt.startswith w cAft) = as := by
      have e3 : M.take B = M.take A ++ (M.drop A).take (B - A) := by
        rw [← List.take_append_drop A (M.take B), List.take_take, Nat.min_eq_left h1, List.drop_take]
      rw [e3, List.filter_append, m.pre]
      have e4 : (((M.drop A).take (B - A)).filter fun w => Txt.startswith w cAft) = [] := by
        refine List.filter_eq_nil_iff.mpr fun w hw => ?_
        exact List.filter_eq_nil_iff.mp m.post w (List.mem_of_mem_take hw)
      rw [e4, List.append_nil]
    rw [e2]
    simp [hy]
  · have e : (M.take B ++ y :: M.drop B).drop (B + 1) = M.drop B := by
      rw [List.drop_append, hl, List.drop_of_length_le (by omega), show B + 1 - B = 1 by omega]
      rfl
    rw [e]
    refine List.filter_eq_nil_iff.mpr fun w hw => ?_
    have : w ∈ M.drop A := by
      have e3 : M.drop B = (M.drop A).drop (B - A) := by rw [List.drop_drop]; congr 1; omega
      rw [e3] at hw
      exact List.mem_of_mem_drop hw
    exact List.filter_eq_nil_iff.mp m.post w this
theorem Mid.done {ws as M : List Str} {A : Nat} (m : Mid ws as A M) : Mix ws as M := by
  refine ⟨m.perm, ?_⟩
  rw [← List.take_append_drop A M, List.filter_append, m.pre, m.post, List.append_nil]
end My

namespace My
open PySem L2
def top (i : Nat) : Stmt := PySem.Challenge.pw_spoolhall_k67_book_sums.main.body.getD i (.Pass ⟨0, 0, 0, 0⟩)
abbrev s_Book_init : Stmt := inClass (top 5) 0
abbrev s_Book_write : Stmt := inClass (top 5) 1
abbrev s_Book_told : Stmt := inClass (top 5) 2
abbrev s_sums : Stmt := top 8
abbrev s_no_sums : Stmt := top 9
abbrev s_entries : Stmt := top 10
abbrev s__law_draw : Stmt := top 12
abbrev s__law_great : Stmt := top 13
abbrev s__law_whole : Stmt := top 14
abbrev s__law_names : Stmt := top 15
abbrev s__law_number : Stmt := top 16
abbrev s__law_any_row : Stmt := top 17
abbrev s__law_due : Stmt := top 18
abbrev s__law_alike : Stmt := top 19
abbrev s__law_is_told : Stmt := top 20
abbrev s_law : Stmt := top 21
structure Txt (K : PySem.W.Frag) (mg : Str → Option Value) (cBook : Addr) : Prop where
  len : mg "len" = none
  range : mg "range" = none
  int : mg "int" = none
  bool : mg "bool" = none
  tuple : mg "tuple" = none
  list : mg "list" = none
  isinstance : mg "isinstance" = none
  dict : mg "dict" = none
  LOAD : GS mg "LOAD" (Str.ofString "load")
  INK : GS mg "INK" (Str.ofString "ink")
  FEED : GS mg "FEED" (Str.ofString "feed")
  OUT : GS mg "OUT" (Str.ofString "out")
  SUMS : GI mg "SUMS" (8)
  cl_Book : Cls K cBook
  mg_Book : mg "Book" = some (.ref cBook)
  n_Book_rows : NoAttr K cBook "rows"
end My

seal L2.PE L2.PS L2.PSs L2.PT L2.PW L2.PA L2.PI L2.PG L2.PGs L2.PSet L2.PIfs L2.PO L2.PK L2.CallR L2.OpR L2.IxR L2.SlR L2.UnR
namespace My
open PySem L2
open Blk (sg sg_inj sg_app)
section
variable {P : Program} {w : World} {K : PySem.W.Frag} {mg : Str → Option Value} {base : Heap}
theorem int_of {ns : List Int} {j : Nat} {v : V} (h : (ns.map V.int)[j]? = some v) : ∃ z, v = V.int z := by
  rw [List.getElem?_map] at h
  cases e : ns[j]? with
  | none => rw [e] at h; cases h
  | some z => rw [e] at h; exact ⟨z, (Option.some.inj h).symm⟩
/-- the script stands at a -/
structure Scr (K : PySem.W.Frag) (H : Hp) (a : Addr) : Prop where
  ex : ∃ ns : List Int, SqL K H a (ns.map V.int) ∧ ns.length ≤ 63
theorem Scr.same {K : PySem.W.Frag} {H H' : Hp} {a : Addr} (s : Scr K H a) (e : Same H H') : Scr K H' a := by
  obtain ⟨ns, h, l⟩ := s.ex
  exact ⟨ns, e.seq h, l⟩

end
end My

namespace My
open PySem L2
open Blk (sg sg_inj sg_app)
section
variable {P : Program} {w : World} {K : PySem.W.Frag} {mg : Str → Option Value} {base : Heap}
/-! ### the rows of the book -/
abbrev ldW : Str := Str.ofString "load"
abbrev ikW : Str := Str.ofString "ink"
abbrev fdW : Str := Str.ofString "feed"
abbrev otW : Str := Str.ofString "out"
abbrev lsW : Str := Str.ofString "lost"
inductive Row67 where
  | load (p k : Str) (n : Int)
  | ink (p : Str) (b c : Int)
  | feed (p k j : Str) (m b c : Int)
  | out (p j : Str) (m : Int)
  | lost (p j : Str) (m : Int)
def Row67.vs : Row67 → List V
  | .load p k n => [.str ldW, .str p, .str k, .int n]
  | .ink p b c => [.str ikW, .str p, .int b, .int c]
  | .feed p k j m b c => [.str fdW, .str p, .str k, .str j, .int m, .int b, .int c]
  | .out p j m => [.str otW, .str p, .str j, .int m]
  | .lost p j m => [.str lsW, .str p, .str j, .int m]
def Row67.pr : Row67 → Str
  | .load p _ _ => p
  | .ink p _ _ => p
  | .feed p _ _ _ _ _ => p
  | .out p _ _ => p
  | .lost p _ _ => p
theorem row_pr (r : Row67) : atI r.vs 1 = some (.str r.pr) := by cases r <;> rfl
/-- the rows' list at a: the tuples' addresses, and what they hold -/
structure RowsAt (H : Hp) (a : Addr) (prs : List (Addr × Row67)) : Prop where
  l : H a = some (.lst (prs.map fun p => .ref p.1))
  t : ∀ p ∈ prs, H p.1 = some (.tup p.2.vs)
theorem RowsAt.same {H H' : Hp} {a : Addr} {prs : List (Addr × Row67)} (R : RowsAt H a prs) (k : Same H H') : RowsAt H' a prs := ⟨k _ _ R.l, fun p hp => k _ _ (R.t p hp)⟩
theorem rows_at {prs : List (Addr × Row67)} {i : Nat} {x : V} (h : (prs.map fun p => V.ref p.1)[i]? = some x) : ∃ p, prs[i]? = some p ∧ x = .ref p.1 := by
  rw [List.getElem?_map] at h
  obtain ⟨p, e, rfl⟩ := Option.map_eq_some_iff.mp h
  exact ⟨p, e, rfl⟩
theorem row_flat (r : Row67) : ∀ v ∈ r.vs, (∃ z, v = V.int z) ∨ ∃ z, v = V.str z := by
  intro v hv
  cases r <;> (simp only [Row67.vs, List.mem_cons, List.not_mem_nil, or_false] at hv) <;> (rcases hv with rfl | rfl | rfl | rfl | rfl | rfl | rfl) <;> first | exact .inl ⟨_, rfl⟩ | exact .inr ⟨_, rfl⟩
theorem deq_rows {K : PySem.W.Frag} {H : Hp} {prs : List (Addr × Row67)} (t : ∀ p ∈ prs, H p.1 = some (.tup p.2.vs)) : ∀ j, j < (prs.map fun p => V.ref p.1).length → Deq K H 1 ((prs.map fun p => V.ref p.1).getD j .non) ((prs.map fun p => V.ref p.1).getD j .non) := fun j hj => by
  obtain ⟨x, ex⟩ : ∃ x, (prs.map fun p => V.ref p.1)[j]? = some x := ⟨_, List.getElem?_eq_getElem hj⟩
  rw [List.getD_eq_getElem?_getD, ex]
  obtain ⟨p, ep, rfl⟩ := rows_at ex
  have h := t p (List.mem_of_getElem? ep)
  refine .inr ⟨p.1, p.1, _, _, rfl, rfl, .inr ⟨SqT.of h, SqT.of h⟩, rfl, fun i hi => ?_⟩
  obtain ⟨v, ev⟩ : ∃ v, p.2.vs[i]? = some v := ⟨_, List.getElem?_eq_getElem hi⟩
  rw [List.getD_eq_getElem?_getD, ev]
  rcases row_flat p.2 v (List.mem_of_getElem? ev) with ⟨z, rfl⟩ | ⟨z, rfl⟩
  · exact ⟨rfl, rfl⟩
  · exact ⟨rfl, rfl⟩
/-! ### the book -/
def BookAt (C : Addr) (H : Hp) (x r : Addr) (xs : List V) : Prop := (∃ dx, H x = some (.ins C dx [("rows", .ref r)])) ∧ H r = some (.lst xs)
theorem BookAt.same {C : Addr} {H H' : Hp} {x r : Addr} {xs : List V} (B : BookAt C H x r xs) (k : Same H H') : BookAt C H' x r xs := let ⟨⟨dx, a⟩, b⟩ := B; ⟨⟨dx, k _ _ a⟩, k _ _ b⟩
def sp_Book_init (C : Addr) : Sp := fun vs H Q _ => ∃ x dx, vs = [.ref x] ∧ H x = some (.ins C dx []) ∧ ∀ r H', (∀ b o, b ≠ x → H b = some o → H' b = some o) → H r = none → H' x = some (.ins C dx [("rows", .ref r)]) → H' r = some (.lst []) → Q .non H'
theorem sc_Book_init : FnScope ["self"] ["self"] (defScope s_Book_init) := ⟨rfl, rfl, rfl, by decide +kernel, rfl, by decide +kernel, by decide +kernel⟩
theorem ok_Book_init {fa cBook : Addr} {fd : FuncData} (F : Fun K "__init__" "Book.__init__" s_Book_init fa fd) (T : Txt K mg cBook)  :
    FnOk P w K mg base CX0 1 fa fd ["self"] (sp_Book_init cBook) := by
  refine F.ok sc_Book_init (fun vs H Q E h => ?_) (fun cdv A outer s H vs Q E hr h => ?_)
  · obtain ⟨x, dx, rfl, _⟩ := h
    rfl
  obtain ⟨x, dx, rfl, hx, q⟩ := h
  refine ⟨_, (pss_one (ps_fld (pv 0) (pe_lst pa_nil) rfl)), ?_⟩
  refine ⟨Nat.zero_le _, fun r nr => ?_⟩
  have nrx : r ≠ x := Ne.symm (ne_of_none hx nr)
  have s1 := same_new nr (.lst [])
  refine ⟨_, rfl, x, cBook, dx, _, rfl, s1 _ _ hx, T.cl_Book, T.n_Book_rows, (by show 0 < 1000; decide), ?_⟩
  exact q r _ (fun b o nb e => by rw [upd_ne nb]; exact s1 _ _ e) nr (by rw [upd_same]; rfl) (by rw [upd_ne nrx]; exact upd_same)
def sp_Book_write (C : Addr) : Sp := fun vs H Q _ => ∃ x r xs v, vs = [.ref x, v] ∧ BookAt C H x r xs ∧ xs.length ≤ 900 ∧ Q .non (upd H r (.lst (xs ++ [v])))
theorem sc_Book_write : FnScope ["self", "row"] ["self", "row"] (defScope s_Book_write) := ⟨rfl, rfl, rfl, by decide +kernel, rfl, by decide +kernel, by decide +kernel⟩
theorem ok_Book_write {fa cBook : Addr} {fd : FuncData} (F : Fun K "write" "Book.write" s_Book_write fa fd) (T : Txt K mg cBook)  :
    FnOk P w K mg base CX0 1 fa fd ["self", "row"] (sp_Book_write cBook) := by
  refine F.ok sc_Book_write (fun vs H Q E h => ?_) (fun cdv A outer s H vs Q E hr h => ?_)
  · obtain ⟨x, r, xs, v, rfl, _⟩ := h
    rfl
  obtain ⟨x, r, xs, v, rfl, ⟨⟨dx, hx⟩, hr'⟩, lx, q⟩ := h
  refine ⟨_, (pss_one (ps_expr (pe_bm PySem.F.plainAttrs_list PySem.F.slot_list_append PySem.F.type_list_append mt_append (pe_fld (pv 0) rfl) (pa_cons (pv 1) pa_nil)))), ?_⟩
  exact ⟨_, rfl, x, cBook, dx, _, _, rfl, hx, T.cl_Book, T.n_Book_rows, rfl, .inl ⟨rfl, _, SqL.of hr'⟩, _, rfl, r, _, _, rfl, rfl, hr', small1000 (by omega), q⟩
def sp_Book_told (C : Addr) : Sp := fun vs H Q _ => ∃ x r xs, vs = [.ref x] ∧ BookAt C H x r xs ∧ ∀ l, H l = none → Q (.ref l) (upd H l (.lst xs))
theorem sc_Book_told : FnScope ["self"] ["self"] (defScope s_Book_told) := ⟨rfl, rfl, rfl, by decide +kernel, rfl, by decide +kernel, by decide +kernel⟩
theorem ok_Book_told {fa cBook : Addr} {fd : FuncData} (F : Fun K "told" "Book.told" s_Book_told fa fd) (T : Txt K mg cBook)  :
    FnOk P w K mg base CX0 1 fa fd ["self"] (sp_Book_told cBook) := by
  refine F.ok sc_Book_told (fun vs H Q E h => ?_) (fun cdv A outer s H vs Q E hr h => ?_)
  · obtain ⟨x, r, xs, rfl, _⟩ := h
    rfl
  obtain ⟨x, r, xs, rfl, ⟨⟨dx, hx⟩, hr'⟩, q⟩ := h
  refine ⟨_, (pss_one (ps_ret (pe_callTy call_list_of rfl T.list bt_list (pa_cons (pe_fld (pv 0) rfl) pa_nil)))), ?_⟩
  exact ⟨_, rfl, x, cBook, dx, _, _, rfl, hx, T.cl_Book, T.n_Book_rows, rfl, r, _, rfl, .inl (SqL.of hr'), fun l nl => q l nl⟩

end
end My

namespace My
open PySem L2
open Blk (sg sg_inj sg_app)
section
variable {P : Program} {w : World} {K : PySem.W.Frag} {mg : Str → Option Value} {base : Heap}
/-! ### sums of the book -/
def zeros : List Int := [0, 0, 0, 0, 0, 0, 0, 0]
def addE (l : List Int) (es : List (Nat × Int)) : List Int := es.foldl (fun l e => l.set e.1 (l.getD e.1 0 + e.2)) l
def Row67.ent : Row67 → List (Nat × Int)
  | .load _ _ n => [(0, n)]
  | .ink _ b c => [(4, b), (6, c)]
  | .feed _ _ _ _ b c => [(1, 1), (5, b), (7, c)]
  | .out _ _ _ => [(2, 1)]
  | .lost _ _ _ => [(3, 1)]
def prStep (ps : List Str) (r : Row67) : List Str := if r.pr ∈ ps then ps else ps ++ [r.pr]
def vStep (p : Str) (l : List Int) (r : Row67) : List Int := if r.pr = p then addE l r.ent else l
def prOf (rs : List Row67) : List Str := rs.foldl prStep []
def valOf (rs : List Row67) (p : Str) : List Int := rs.foldl (vStep p) zeros
theorem prOf_snoc (rs : List Row67) (r : Row67) : prOf (rs ++ [r]) = if r.pr ∈ prOf rs then prOf rs else prOf rs ++ [r.pr] := by
  unfold prOf
  rw [List.foldl_append]
  rfl
theorem valOf_snoc (rs : List Row67) (r : Row67) (p : Str) : valOf (rs ++ [r]) p = if r.pr = p then addE (valOf rs p) r.ent else valOf rs p := by
  unfold valOf
  rw [List.foldl_append]
  rfl
theorem addE_len : ∀ (es : List (Nat × Int)) (l : List Int), (addE l es).length = l.length
  | [], l => rfl
  | e :: es, l => by
    show (addE (l.set e.1 (l.getD e.1 0 + e.2)) es).length = _
    rw [addE_len es, List.length_set]
theorem addE_snoc (l : List Int) (es : List (Nat × Int)) (e : Nat × Int) : addE l (es ++ [e]) = (addE l es).set e.1 ((addE l es).getD e.1 0 + e.2) := by
  unfold addE
  rw [List.foldl_append]
  rfl
theorem vfold_len (p : Str) : ∀ (rs : List Row67) (l : List Int), (rs.foldl (vStep p) l).length = l.length
  | [], l => rfl
  | r :: rs, l => by
    rw [List.foldl_cons, vfold_len p rs]
    unfold vStep
    split
    · exact addE_len _ _
    · rfl
theorem valOf_len (rs : List Row67) (p : Str) : (valOf rs p).length = 8 := vfold_len p rs zeros
theorem prfold_few : ∀ (rs : List Row67) (ps : List Str), (rs.foldl prStep ps).length ≤ ps.length + rs.length
  | [], ps => Nat.le_refl _
  | r :: rs, ps => by
    rw [List.foldl_cons]
    have h := prfold_few rs (prStep ps r)
    have h2 : (prStep ps r).length ≤ ps.length + 1 := by
      unfold prStep
      split
      · omega
      · rw [List.length_append]; exact Nat.le_refl _
    rw [List.length_cons]
    omega
theorem prOf_few (rs : List Row67) : (prOf rs).length ≤ rs.length := by
  have := prfold_few rs []
  rw [List.length_nil, Nat.zero_add] at this
  exact this
theorem fold_new (p : Str) : ∀ (rs : List Row67) (ps : List Str) (l : List Int), p ∉ rs.foldl prStep ps → rs.foldl (vStep p) l = l ∧ p ∉ ps
  | [], ps, l, h => ⟨rfl, h⟩
  | r :: rs, ps, l, h => by
    rw [List.foldl_cons] at h ⊢
    obtain ⟨h1, h2⟩ := fold_new p rs _ (vStep p l r) h
    have c : ¬ r.pr = p := fun e => h2 (by
      unfold prStep
      by_cases c : r.pr ∈ ps
      · rw [if_pos c, ← e]; exact c
      · rw [if_neg c, ← e]; exact List.mem_append_right _ (List.mem_singleton.mpr rfl))
    refine ⟨h1.trans (by unfold vStep; rw [if_neg c]), fun hp => h2 ?_⟩
    unfold prStep
    split
    · exact hp
    · exact List.mem_append_left _ hp
theorem valOf_new {rs : List Row67} {p : Str} (h : p ∉ prOf rs) : valOf rs p = zeros := (fold_new p rs [] zeros h).1
/-- a dict of lists of ints by their names -/
def wD7 (ws : List (Str × Addr)) : List (Key × V) := ws.map fun w => (Sum.inr w.1, .ref w.2)
structure DictL (H : Hp) (d : Addr) (ws : List (Str × Addr)) (f : Str → List Int) : Prop where
  d : Rd H d (.dK (wD7 ws))
  l : ∀ w ∈ ws, H w.2 = some (.lst ((f w.1).map V.int))
  nd : (ws.map (·.1)).Nodup
  na : ∀ w ∈ ws, ∀ w' ∈ ws, w.2 = w'.2 → w = w'
theorem Rd.same7 {H H' : Hp} {a : Addr} {o : HO} (r : Rd H a o) (k : Same H H') : Rd H' a o := by
  rcases r with h | ⟨x, h⟩
  · exact .inl (k _ _ h)
  · exact .inr ⟨x, k _ _ h⟩
theorem DictL.same {H H' : Hp} {d : Addr} {ws : List (Str × Addr)} {f : Str → List Int} (D : DictL H d ws f) (k : Same H H') : DictL H' d ws f := { D with d := Rd.same7 D.d k, l := fun w hw => k _ _ (D.l w hw) }
theorem pair_eq : ∀ {ws : List (Str × Addr)} {a b : Str × Addr}, (ws.map (·.1)).Nodup → a ∈ ws → b ∈ ws → a.1 = b.1 → a = b
  | w :: ws, a, b, nd, ha, hb, e => by
    obtain ⟨n1, n2⟩ := List.nodup_cons.mp nd
    rcases List.mem_cons.mp ha with h1 | h1
    · rcases List.mem_cons.mp hb with h2 | h2
      · rw [h1, h2]
      · exact absurd (List.mem_map.mpr ⟨b, h2, by rw [← h1]; exact e.symm⟩) n1
    · rcases List.mem_cons.mp hb with h2 | h2
      · exact absurd (List.mem_map.mpr ⟨a, h1, by rw [← h2]; exact e⟩) n1
      · exact pair_eq n2 h1 h2 e
theorem find_key7 {l : List (Key × V)} {k : Key} (h : ∀ p ∈ l, p.1 ≠ k) : valV l k = none := by
  unfold valV
  rw [List.find?_eq_none.mpr fun p hp => by rw [decide_eq_false (h p hp)]; decide]
  rfl
theorem val_w7 : ∀ {ws : List (Str × Addr)} {w : Str × Addr}, (ws.map (·.1)).Nodup → w ∈ ws → valV (wD7 ws) (Sum.inr w.1) = some (.ref w.2)
  | [], _, _, h => by cases h
  | s :: ws, r, nd, h => by
    obtain ⟨n1, n2⟩ := List.nodup_cons.mp nd
    unfold valV wD7
    rw [List.map_cons, List.find?_cons]
    by_cases e : s.1 = r.1
    · rw [e, decide_eq_true rfl]
      rcases List.mem_cons.mp h with z | z
      · rw [z]; rfl
      · exact absurd (List.mem_map.mpr ⟨r, z, e.symm⟩) n1
    · rw [decide_eq_false (fun z => e (by injection z))]
      rcases List.mem_cons.mp h with z | z
      · exact absurd (congrArg (·.1) z.symm) e
      · exact val_w7 n2 z
theorem val_no7 {ws : List (Str × Addr)} {n : Str} (h : n ∉ ws.map (·.1)) : valV (wD7 ws) (Sum.inr n) = none := find_key7 fun p hp => by
  obtain ⟨r, hr, rfl⟩ := List.mem_map.mp hp
  exact fun z => h (List.mem_map.mpr ⟨r, hr, by injection z⟩)
theorem rget7 {H : Hp} {a : Addr} {kvs : List (Key × V)} (h : Rd H a (.dK kvs)) (n : Str) : DGet H a (.str n) (valV kvs (Sum.inr n)) := .inl ⟨kvs, Sum.inr n, h, rfl, rfl⟩
theorem DictL.set {H : Hp} {d : Addr} {ws : List (Str × Addr)} {f : Str → List Int} (D : DictL H d ws f) (hd : H d = some (.dK (wD7 ws))) {w : Str × Addr} (hw : w ∈ ws) (zs : List Int) : DictL (upd H w.2 (.lst (zs.map V.int))) d ws (fun q => if q = w.1 then zs else f q) where
  d := .inl (by rw [upd_ne (ne_of hd (D.l w hw) (by intro z; cases z))]; exact hd)
  l := fun w' hw' => by
    by_cases c : w'.2 = w.2
    · have e := D.na _ hw' _ hw c
      rw [c, upd_same, e, if_pos rfl]
    · have e : ¬ w'.1 = w.1 := fun e => c (by rw [pair_eq D.nd hw' hw e])
      rw [upd_ne c, if_neg e]
      exact D.l w' hw'
  nd := D.nd
  na := D.na
theorem DictL.congr {H : Hp} {d : Addr} {ws : List (Str × Addr)} {f g : Str → List Int} (D : DictL H d ws f) (e : ∀ w ∈ ws, f w.1 = g w.1) : DictL H d ws g := { D with l := fun w hw => by rw [← e w hw]; exact D.l w hw }
theorem DictL.add {H : Hp} {d n : Addr} {ws : List (Str × Addr)} {f : Str → List Int} {p : Str} (D : DictL H d ws f) (hd : H d = some (.dK (wD7 ws))) (hp : p ∉ ws.map (·.1)) (hn : H n = some (.lst ((f p).map V.int))) (nn : ∀ w ∈ ws, w.2 ≠ n) : DictL (upd H d (.dK (wD7 ws ++ [(Sum.inr p, .ref n)]))) d (ws ++ [(p, n)]) f where
  d := .inl (by rw [upd_same]; unfold wD7; rw [List.map_append]; rfl)
  l := fun w hw => by
    rcases List.mem_append.mp hw with h | h
    · rw [upd_ne (ne_of (D.l w h) hd (by intro z; cases z))]; exact D.l w h
    · rw [List.mem_singleton.mp h, upd_ne (ne_of hn hd (by intro z; cases z))]; exact hn
  nd := by
    rw [List.map_append]
    exact List.nodup_append.mpr ⟨D.nd, List.nodup_cons.mpr ⟨List.not_mem_nil, List.nodup_nil⟩, fun a ha b hb e => hp (by rw [show p = b from (List.mem_singleton.mp hb).symm, ← e]; exact ha)⟩
  na := fun w hw w' hw' e => by
    rcases List.mem_append.mp hw with h | h
    · rcases List.mem_append.mp hw' with h' | h'
      · exact D.na w h w' h' e
      · rw [List.mem_singleton.mp h'] at e
        exact absurd e (nn w h)
    · rcases List.mem_append.mp hw' with h' | h'
      · rw [List.mem_singleton.mp h] at e
        exact absurd e.symm (nn w' h')
      · rw [List.mem_singleton.mp h, List.mem_singleton.mp h']
def sp_no_sums (_K : PySem.W.Frag) : Sp := fun vs H Q _ => vs = [] ∧ ∀ l H', Same H H' → H l = none → H' l = some (.lst (zeros.map V.int)) → Q (.ref l) H'
theorem sc_no_sums : FnScope [] [] (defScope s_no_sums) := ⟨rfl, rfl, rfl, by decide +kernel, rfl, by decide +kernel, by decide +kernel⟩
theorem ok_no_sums {fa cBook : Addr} {fd : FuncData} (F : Fun K "no_sums" "no_sums" s_no_sums fa fd) (T : Txt K mg cBook)  :
    FnOk P w K mg base CX0 1 fa fd [] (sp_no_sums K) := by
  refine F.ok sc_no_sums (fun vs H Q E h => ?_) (fun cdv A outer s H vs Q E hr h => ?_)
  · obtain ⟨rfl, _⟩ := h
    rfl
  obtain ⟨rfl, q⟩ := h
  refine ⟨_, (pss_one (ps_ret (pe_op op_rep (pe_lst (pa_cons pe_int pa_nil)) (pe_gi T.SUMS rfl)))), ?_⟩
  refine ⟨small (by decide), fun a na => ?_⟩
  refine ⟨a, 8, _, rfl, rfl, upd_same, by decide, by decide, small (by decide), fun l nl => ?_⟩
  exact q l _ ((same_new na _).trans (same_new nl _)) ((same_new na _).free nl) upd_same
/-- what entries(row) tells -/
def sp_entries (_K : PySem.W.Frag) : Sp := fun vs H Q _ => ∃ t r, vs = [.ref t] ∧ H t = some (.tup (Row67.vs r)) ∧ ∀ l (ps : List (Addr × (Nat × Int))) H', Same H H' → H l = none → H' l = some (.lst (ps.map fun p => .ref p.1)) → ps.map (·.2) = r.ent → (∀ p ∈ ps, H' p.1 = some (.tup [.int p.2.1, .int p.2.2])) → Q (.ref l) H'
theorem tup_one {H : Hp} {t l : Addr} {e : Nat × Int} (nt : H t = none) (nl : upd H t (.tup [.int e.1, .int e.2]) l = none) (Q : V → Hp → Prop) (q : ∀ l (ps : List (Addr × (Nat × Int))) H', Same H H' → H l = none → H' l = some (.lst (ps.map fun p => .ref p.1)) → ps.map (·.2) = [e] → (∀ p ∈ ps, H' p.1 = some (.tup [.int p.2.1, .int p.2.2])) → Q (.ref l) H') : Q (.ref l) (upd (upd H t (.tup [.int e.1, .int e.2])) l (.lst [.ref t])) := by
  have k1 := same_new nt (.tup [.int e.1, .int e.2])
  have k2 := same_new nl (.lst [.ref t])
  refine q l [(t, e)] _ (k1.trans k2) (k1.free nl) upd_same rfl fun p hp => ?_
  rw [List.mem_singleton.mp hp]
  exact k2 _ _ upd_same
theorem no_str {a b : Str} {P : Prop} (h : a ≠ b) (c : decide (V.str a = V.str b) = true) : P := absurd (of_decide_eq_true c) (fun z => h (by injection z))
theorem tup_two {H : Hp} {t t' l : Addr} {e e' : Nat × Int} (nt : H t = none) (nt' : upd H t (.tup [.int e.1, .int e.2]) t' = none) (nl : upd (upd H t (.tup [.int e.1, .int e.2])) t' (.tup [.int e'.1, .int e'.2]) l = none) (Q : V → Hp → Prop) (q : ∀ l (ps : List (Addr × (Nat × Int))) H', Same H H' → H l = none → H' l = some (.lst (ps.map fun p => .ref p.1)) → ps.map (·.2) = [e, e'] → (∀ p ∈ ps, H' p.1 = some (.tup [.int p.2.1, .int p.2.2])) → Q (.ref l) H') : Q (.ref l) (upd (upd (upd H t (.tup [.int e.1, .int e.2])) t' (.tup [.int e'.1, .int e'.2])) l (.lst [.ref t, .ref t'])) := by
  have k1 := same_new nt (.tup [.int e.1, .int e.2])
  have k2 := same_new nt' (.tup [.int e'.1, .int e'.2])
  have k3 := same_new nl (.lst [.ref t, .ref t'])
  refine q l [(t, e), (t', e')] _ (k1.trans (k2.trans k3)) ((k1.trans k2).free nl) upd_same rfl fun p hp => ?_
  rcases List.mem_cons.mp hp with rfl | hp
  · exact k3 _ _ (k2 _ _ upd_same)
  · rw [List.mem_singleton.mp hp]
    exact k3 _ _ upd_same
theorem tup_three {H : Hp} {t t' t'' l : Addr} {e e' e'' : Nat × Int} (nt : H t = none) (nt' : upd H t (.tup [.int e.1, .int e.2]) t' = none) (nt'' : upd (upd H t (.tup [.int e.1, .int e.2])) t' (.tup [.int e'.1, .int e'.2]) t'' = none) (nl : upd (upd (upd H t (.tup [.int e.1, .int e.2])) t' (.tup [.int e'.1, .int e'.2])) t'' (.tup [.int e''.1, .int e''.2]) l = none) (Q : V → Hp → Prop) (q : ∀ l (ps : List (Addr × (Nat × Int))) H', Same H H' → H l = none → H' l = some (.lst (ps.map fun p => .ref p.1)) → ps.map (·.2) = [e, e', e''] → (∀ p ∈ ps, H' p.1 = some (.tup [.int p.2.1, .int p.2.2])) → Q (.ref l) H') : Q (.ref l) (upd (upd (upd (upd H t (.tup [.int e.1, .int e.2])) t' (.tup [.int e'.1, .int e'.2])) t'' (.tup [.int e''.1, .int e''.2])) l (.lst [.ref t, .ref t', .ref t''])) := by
  have k1 := same_new nt (.tup [.int e.1, .int e.2])
  have k2 := same_new nt' (.tup [.int e'.1, .int e'.2])
  have k3 := same_new nt'' (.tup [.int e''.1, .int e''.2])
  have k4 := same_new nl (.lst [.ref t, .ref t', .ref t''])
  refine q l [(t, e), (t', e'), (t'', e'')] _ (k1.trans (k2.trans (k3.trans k4))) ((k1.trans (k2.trans k3)).free nl) upd_same rfl fun p hp => ?_
  rcases List.mem_cons.mp hp with rfl | hp
  · exact k4 _ _ (k3 _ _ (k2 _ _ upd_same))
  rcases List.mem_cons.mp hp with rfl | hp
  · exact k4 _ _ (k3 _ _ upd_same)
  · rw [List.mem_singleton.mp hp]
    exact k4 _ _ upd_same
theorem sc_entries : FnScope ["row"] ["row"] (defScope s_entries) := ⟨rfl, rfl, rfl, by decide +kernel, rfl, by decide +kernel, by decide +kernel⟩
theorem ok_entries {fa cBook : Addr} {fd : FuncData} (F : Fun K "entries" "entries" s_entries fa fd) (T : Txt K mg cBook)  :
    FnOk P w K mg base CX0 1 fa fd ["row"] (sp_entries K) := by
  refine F.ok sc_entries (fun vs H Q E h => ?_) (fun cdv A outer s H vs Q E hr h => ?_)
  · obtain ⟨t, r, rfl, _⟩ := h
    rfl
  obtain ⟨t, r, rfl, ht, q⟩ := h
  refine ⟨_, (pss_cons (ps_if (pt_cmpR op_eq (pe_ix ix_tup (pv 0) pe_int (fun _ _ => rfl)) (pe_gs T.LOAD rfl) (nomark _)) (pss_one (ps_ret (pe_lst (pa_cons (pe_tup (pa_cons pe_int (pa_cons (pe_ix ix_tup (pv 0) pe_int (fun _ _ => rfl)) pa_nil))) pa_nil)))) pss_nil)
  (pss_cons (ps_if (pt_cmpR op_eq (pe_ix ix_tup (pv 0) pe_int (fun _ _ => rfl)) (pe_gs T.INK rfl) (nomark _)) (pss_one (ps_ret (pe_lst (pa_cons (pe_tup (pa_cons pe_int (pa_cons (pe_ix ix_tup (pv 0) pe_int (fun _ _ => rfl)) pa_nil))) (pa_cons (pe_tup (pa_cons pe_int (pa_cons (pe_ix ix_tup (pv 0) pe_int (fun _ _ => rfl)) pa_nil))) pa_nil))))) pss_nil)
  (pss_cons (ps_if (pt_cmpR op_eq (pe_ix ix_tup (pv 0) pe_int (fun _ _ => rfl)) (pe_gs T.FEED rfl) (nomark _)) (pss_one (ps_ret (pe_lst (pa_cons (pe_tup (pa_cons pe_int (pa_cons pe_int pa_nil))) (pa_cons (pe_tup (pa_cons pe_int (pa_cons (pe_ix ix_tup (pv 0) pe_int (fun _ _ => rfl)) pa_nil))) (pa_cons (pe_tup (pa_cons pe_int (pa_cons (pe_ix ix_tup (pv 0) pe_int (fun _ _ => rfl)) pa_nil))) pa_nil)))))) pss_nil)
  (pss_one (ps_ret (pe_ifExp (pt_cmpR op_eq (pe_ix ix_tup (pv 0) pe_int (fun _ _ => rfl)) (pe_gs T.OUT rfl) (nomark _)) (pe_lst (pa_cons (pe_tup (pa_cons pe_int (pa_cons pe_int pa_nil))) pa_nil)) (pe_lst (pa_cons (pe_tup (pa_cons pe_int (pa_cons pe_int pa_nil))) pa_nil)))))))), ?_⟩
  have z1 : 1 ≤ sizeLine := small (by decide)
  have z2 : 2 ≤ sizeLine := small (by decide)
  have z3 : 3 ≤ sizeLine := small (by decide)
  cases r with
  | load p k n =>
    refine ⟨_, rfl, t, _, 0, _, rfl, rfl, SqT.of ht, rfl, rfl, _, rfl, ?_⟩
    refine ite2 (fun _ => ?_) (fun c => absurd (decide_eq_true rfl) c)
    exact ⟨_, rfl, t, _, 3, _, rfl, rfl, SqT.of ht, rfl, z2, fun t1 n1 => ⟨z1, fun l nl => tup_one (e := (0, n)) n1 nl Q q⟩⟩
  | ink p b c =>
    refine ⟨_, rfl, t, _, 0, _, rfl, rfl, SqT.of ht, rfl, rfl, _, rfl, ?_⟩
    refine ite2 (fun c => no_str (by decide +kernel) c) (fun _ => ?_)
    refine ⟨_, rfl, t, _, 0, _, rfl, rfl, SqT.of ht, rfl, rfl, _, rfl, ?_⟩
    refine ite2 (fun _ => ?_) (fun c => absurd (decide_eq_true rfl) c)
    refine ⟨_, rfl, t, _, 2, _, rfl, rfl, SqT.of ht, rfl, z2, fun t1 n1 => ⟨_, rfl, t, _, 3, _, rfl, rfl, SqT.of (same_new n1 _ _ _ ht), rfl, z2, fun t2 n2 => ⟨z2, fun l nl => ?_⟩⟩⟩
    exact tup_two (e := (4, b)) (e' := (6, c)) n1 n2 nl Q q
  | feed p k j m b c =>
    refine ⟨_, rfl, t, _, 0, _, rfl, rfl, SqT.of ht, rfl, rfl, _, rfl, ?_⟩
    refine ite2 (fun c => no_str (by decide +kernel) c) (fun _ => ?_)
    refine ⟨_, rfl, t, _, 0, _, rfl, rfl, SqT.of ht, rfl, rfl, _, rfl, ?_⟩
    refine ite2 (fun c => no_str (by decide +kernel) c) (fun _ => ?_)
    refine ⟨_, rfl, t, _, 0, _, rfl, rfl, SqT.of ht, rfl, rfl, _, rfl, ?_⟩
    refine ite2 (fun _ => ?_) (fun c => absurd (decide_eq_true rfl) c)
    refine ⟨z2, fun t1 n1 => ⟨_, rfl, t, _, 5, _, rfl, rfl, SqT.of (same_new n1 _ _ _ ht), rfl, z2, fun t2 n2 => ⟨_, rfl, t, _, 6, _, rfl, rfl, SqT.of (same_new n2 _ _ _ (same_new n1 _ _ _ ht)), rfl, z2, fun t3 n3 => ⟨z3, fun l nl => ?_⟩⟩⟩⟩
    exact tup_three (e := (1, 1)) (e' := (5, b)) (e'' := (7, c)) n1 n2 n3 nl Q q
  | out p j m =>
    refine ⟨_, rfl, t, _, 0, _, rfl, rfl, SqT.of ht, rfl, rfl, _, rfl, ?_⟩
    refine ite2 (fun c => no_str (by decide +kernel) c) (fun _ => ?_)
    refine ⟨_, rfl, t, _, 0, _, rfl, rfl, SqT.of ht, rfl, rfl, _, rfl, ?_⟩
    refine ite2 (fun c => no_str (by decide +kernel) c) (fun _ => ?_)
    refine ⟨_, rfl, t, _, 0, _, rfl, rfl, SqT.of ht, rfl, rfl, _, rfl, ?_⟩
    refine ite2 (fun c => no_str (by decide +kernel) c) (fun _ => ?_)
    refine ⟨_, rfl, t, _, 0, _, rfl, rfl, SqT.of ht, rfl, rfl, _, rfl, ?_⟩
    refine ite2 (fun _ => ?_) (fun c => absurd (decide_eq_true rfl) c)
    exact ⟨z2, fun t1 n1 => ⟨z1, fun l nl => tup_one (e := (2, 1)) n1 nl Q q⟩⟩
  | lost p j m =>
    refine ⟨_, rfl, t, _, 0, _, rfl, rfl, SqT.of ht, rfl, rfl, _, rfl, ?_⟩
    refine ite2 (fun c => no_str (by decide +kernel) c) (fun _ => ?_)
    refine ⟨_, rfl, t, _, 0, _, rfl, rfl, SqT.of ht, rfl, rfl, _, rfl, ?_⟩
    refine ite2 (fun c => no_str (by decide +kernel) c) (fun _ => ?_)
    refine ⟨_, rfl, t, _, 0, _, rfl, rfl, SqT.of ht, rfl, rfl, _, rfl, ?_⟩
    refine ite2 (fun c => no_str (by decide +kernel) c) (fun _ => ?_)
    refine ⟨_, rfl, t, _, 0, _, rfl, rfl, SqT.of ht, rfl, rfl, _, rfl, ?_⟩
    refine ite2 (fun c => no_str (by decide +kernel) c) (fun _ => ?_)
    exact ⟨z2, fun t1 n1 => ⟨z1, fun l nl => tup_one (e := (3, 1)) n1 nl Q q⟩⟩

end
end My

namespace My
open PySem L2
open Blk (sg sg_inj sg_app)
section
variable {P : Program} {w : World} {K : PySem.W.Frag} {mg : Str → Option Value} {base : Heap}
/-! ### the loop over the rows -/
def SumI (H G : Hp) (d : Addr) (rs : List Row67) (ws : List (Str × Addr)) : Prop := Same H G ∧ G d = some (.dK (wD7 ws)) ∧ DictL G d ws (valOf rs) ∧ ws.map (·.1) = prOf rs ∧ ∀ w ∈ ws, H w.2 = none
structure SumM (H G : Hp) (d : Addr) (rs : List Row67) (r : Row67) (ws : List (Str × Addr)) (w : Str × Addr) (zs : List Int) : Prop where
  sm : Same H G
  hd : G d = some (.dK (wD7 ws))
  D : DictL G d ws (fun q => if q = r.pr then zs else valOf rs q)
  nm : ws.map (·.1) = prOf (rs ++ [r])
  fr : ∀ w ∈ ws, H w.2 = none
  mem : w ∈ ws
  e : w.1 = r.pr
theorem SumM.at {H G : Hp} {d : Addr} {rs : List Row67} {r : Row67} {ws : List (Str × Addr)} {w : Str × Addr} {zs : List Int} (M : SumM H G d rs r ws w zs) : G w.2 = some (.lst (zs.map V.int)) := by
  have h := M.D.l w M.mem
  rw [if_pos M.e] at h
  exact h
theorem SumM.same {H G G' : Hp} {d : Addr} {rs : List Row67} {r : Row67} {ws : List (Str × Addr)} {w : Str × Addr} {zs : List Int} (M : SumM H G d rs r ws w zs) (k : Same G G') : SumM H G' d rs r ws w zs :=
  { M with sm := M.sm.trans k, hd := k _ _ M.hd, D := M.D.same k }
theorem SumM.set {H G : Hp} {d : Addr} {rs : List Row67} {r : Row67} {ws : List (Str × Addr)} {w : Str × Addr} {zs : List Int} (M : SumM H G d rs r ws w zs) (zs' : List Int) : SumM H (upd G w.2 (.lst (zs'.map V.int))) d rs r ws w zs' :=
  { M with
    sm := same_on (M.fr w M.mem) M.sm _
    hd := by rw [upd_ne (ne_of M.hd M.at (by intro z; cases z))]; exact M.hd
    D := (M.D.set M.hd M.mem zs').congr fun w' _ => by
      by_cases c : w'.1 = r.pr
      · simp only [M.e, if_pos c]
      · simp only [M.e, if_neg c] }
theorem SumM.done {H G : Hp} {d : Addr} {rs : List Row67} {r : Row67} {ws : List (Str × Addr)} {w : Str × Addr} (M : SumM H G d rs r ws w (addE (valOf rs r.pr) r.ent)) : SumI H G d (rs ++ [r]) ws :=
  ⟨M.sm, M.hd, M.D.congr fun w' _ => by
    rw [valOf_snoc]
    by_cases c : w'.1 = r.pr
    · rw [if_pos c, if_pos c.symm, c]
    · rw [if_neg c, if_neg (fun z => c z.symm)], M.nm, M.fr⟩
theorem SumI.there {H G : Hp} {d : Addr} {rs : List Row67} {r : Row67} {ws : List (Str × Addr)} (I : SumI H G d rs ws) (hm : r.pr ∈ prOf rs) : ∃ w, w ∈ ws ∧ w.1 = r.pr ∧ valV (wD7 ws) (Sum.inr r.pr) = some (.ref w.2) ∧ SumM H G d rs r ws w (valOf rs r.pr) := by
  obtain ⟨sm, hd, D, nm, fr⟩ := I
  have hm' := hm
  rw [← nm] at hm'
  obtain ⟨w, hw, e⟩ := List.mem_map.mp hm'
  have e' : w.1 = r.pr := e
  refine ⟨w, hw, e', by rw [← e']; exact val_w7 D.nd hw, { sm := sm, hd := hd, D := D.congr fun w' _ => ?_, nm := ?_, fr := fr, mem := hw, e := e' }⟩
  · by_cases c : w'.1 = r.pr
    · rw [if_pos c, c]
    · rw [if_neg c]
  · rw [prOf_snoc, if_pos hm]; exact nm
theorem SumI.fresh {H G G1 : Hp} {d n : Addr} {rs : List Row67} {r : Row67} {ws : List (Str × Addr)} (I : SumI H G d rs ws) (nd : H d = none) (hm : r.pr ∉ prOf rs) (k : Same G G1) (nn : G n = none) (hn : G1 n = some (.lst (zeros.map V.int))) :
    SumM H (upd G1 d (.dK (wD7 ws ++ [(Sum.inr r.pr, .ref n)]))) d rs r (ws ++ [(r.pr, n)]) (r.pr, n) (valOf rs r.pr) := by
  obtain ⟨sm, hd, D, nm, fr⟩ := I
  have hp : r.pr ∉ ws.map (·.1) := by rw [nm]; exact hm
  have hz := valOf_new hm
  have D2 := (D.same k).add (p := r.pr) (n := n) (k _ _ hd) hp (by rw [hz]; exact hn) fun w hw z => by
    have := D.l w hw
    rw [z, nn] at this
    cases this
  refine { sm := same_on nd (sm.trans k) _, hd := ?_, D := D2.congr fun w' _ => ?_, nm := ?_, fr := fun w hw => ?_, mem := List.mem_append_right _ (List.mem_singleton.mpr rfl), e := rfl }
  · rw [upd_same]; unfold wD7; rw [List.map_append]; rfl
  · by_cases c : w'.1 = r.pr
    · rw [if_pos c, c]
    · rw [if_neg c]
  · rw [prOf_snoc, if_neg hm, List.map_append, nm]; rfl
  · rcases List.mem_append.mp hw with h | h
    · exact fr w h
    · rw [List.mem_singleton.mp h]; exact sm.free nn
theorem SumI.few {H G : Hp} {d : Addr} {rs : List Row67} {ws : List (Str × Addr)} (I : SumI H G d rs ws) (h : rs.length ≤ 900) : (wD7 ws).length < 1000 := by
  have := prOf_few rs
  have e := congrArg List.length I.2.2.2.1
  rw [List.length_map] at e
  unfold wD7
  rw [List.length_map]
  omega
theorem setD_rows {H G G1 : Hp} {d n : Addr} {rs : List Row67} {r : Row67} {ws : List (Str × Addr)} {Q : VK} (I : SumI H G d rs ws) (nd : H d = none) (lr : rs.length ≤ 900) (k : Same G G1) (nn : G n = none) (hn : G1 n = some (.lst (zeros.map V.int)))
    (q : ∀ ws' w G2, SumM H G2 d rs r ws' w (valOf rs r.pr) → Same G G2 ∨ (∀ b o, b ≠ d → G b = some o → G2 b = some o) → Q (.ref w.2) G2) : rSetD (.ref d) [.str r.pr, .ref n] G1 Q := by
  refine ⟨d, wD7 ws, Sum.inr r.pr, .ref n, rfl, rfl, k _ _ I.2.1, I.few lr, fun u hu => ?_, fun hu => ?_⟩
  · by_cases hm : r.pr ∈ prOf rs
    · obtain ⟨w, hw, e, ev, M⟩ := I.there hm
      rw [ev] at hu
      obtain rfl := Option.some.inj hu
      exact q ws w G1 (M.same k) (.inl k)
    · rw [val_no7 (by rw [I.2.2.2.1]; exact hm)] at hu
      cases hu
  · by_cases hm : r.pr ∈ prOf rs
    · obtain ⟨w, hw, e, ev, M⟩ := I.there hm
      rw [ev] at hu
      cases hu
    · exact q _ _ _ (I.fresh nd hm k nn hn) (.inr fun b o nb e => by rw [upd_ne nb]; exact k _ _ e)
def SumQ (H : Hp) (prs : List (Addr × Row67)) (Q : VK) : Prop := ∀ d ws H', H d = none → SumI H H' d (prs.map (·.2)) ws → Q (.ref d) H'
theorem take_snoc {α : Type} {l : List α} {i : Nat} {x : α} (e : l[i]? = some x) : l.take (i + 1) = l.take i ++ [x] := by rw [List.take_add_one, e]; rfl
theorem at_snd {prs : List (Addr × Row67)} {i : Nat} {p : Addr × Row67} (e : prs[i]? = some p) : (prs.map (·.2)).take (i + 1) = (prs.map (·.2)).take i ++ [p.2] := take_snoc (by rw [List.getElem?_map, e]; rfl)
theorem SumI.nil {H : Hp} {d : Addr} (s1 : Same H (upd H d (.dK []))) : SumI H (upd H d (.dK [])) d [] [] :=
  ⟨s1, upd_same, ⟨.inl upd_same, fun w hw => absurd hw List.not_mem_nil, List.nodup_nil, fun w hw => absurd hw List.not_mem_nil⟩, rfl, fun w hw => absurd hw List.not_mem_nil⟩
theorem at_int7 {xs : List Int} {j : Nat} {v : V} (h : (xs.map V.int)[j]? = some v) : v = V.int (xs.getD j 0) := by
  rw [List.getElem?_map] at h
  obtain ⟨z, e, rfl⟩ := Option.map_eq_some_iff.mp h
  rw [List.getD_eq_getElem?_getD, e]
  rfl
def sp_sums (_K : PySem.W.Frag) : Sp := fun vs H Q _ => ∃ ra prs, vs = [.ref ra] ∧ RowsAt H ra prs ∧ prs.length ≤ 900 ∧ SumQ H prs Q
theorem sc_sums : FnScope ["rows", "told", "row", "account", "place", "many"] ["rows"] (defScope s_sums) := ⟨rfl, rfl, rfl, by decide +kernel, rfl, by decide +kernel, by decide +kernel⟩
theorem ok_sums {fa cBook : Addr} {fd : FuncData} (F : Fun K "sums" "sums" s_sums fa fd) (T : Txt K mg cBook) (D_entries : Dfn P w K mg base 1 "entries" ["row"] (sp_entries K)) (D_no_sums : Dfn P w K mg base 1 "no_sums" [] (sp_no_sums K)) :
    FnOk P w K mg base CX0 2 fa fd ["rows"] (sp_sums K) := by
  refine F.ok sc_sums (fun vs H Q E h => ?_) (fun cdv A outer s H vs Q E hr h => ?_)
  · obtain ⟨ra, prs, rfl, _⟩ := h
    rfl
  obtain ⟨ra, prs, rfl, R, lp, q⟩ := h
  refine ⟨_, (pss_cons (ps_set (i := 1) sc_sums.nd rfl (by first | exact Or.inl rfl | exact Or.inr rfl) pe_dnewK)
  (pss_cons (ps_for PassesOwn.never rfl (pi_list (pv 0)) (pg_name (i := 2) sc_sums.nd rfl (by first | exact Or.inl rfl | exact Or.inr rfl))
  (pss_cons (ps_set (i := 3) sc_sums.nd rfl (by first | exact Or.inl rfl | exact Or.inr rfl) (pe_bm PySem.F.plainAttrs_dict PySem.F.slot_dict_setdefault PySem.F.type_dict_setdefault mt_setdefault (pv 1) (pa_cons (pe_ix ix_tup (pv 2) pe_int (fun _ _ => rfl)) (pa_cons (pe_callD0 D_no_sums (hr.mono (by decide)) rfl) pa_nil))))
  (pss_one (ps_for PassesOwn.never rfl (pi_list (pe_callD D_entries (hr.mono (by decide)) rfl (pa_cons (pv 2) pa_nil))) (pg_tup rfl (pgs_cons (pg_name (i := 4) sc_sums.nd rfl (by first | exact Or.inl rfl | exact Or.inr rfl)) (pgs_cons (pg_name (i := 5) sc_sums.nd rfl (by first | exact Or.inl rfl | exact Or.inr rfl)) pgs_nil)))
  (pss_one (ps_augS (pv 3) (pv 4) get_list (pv 5) ip_add set_list))))))
  (pss_one (ps_ret (pv 1))))), ?_⟩
  refine fun d nd => ?_
  have s1 := same_new nd (.dK [])
  refine ⟨_, rfl, ra, rfl, ⟨_, SqL.of (s1 _ _ R.l)⟩, for_list (K := K) (xs := prs.map fun p => V.ref p.1) (fun i σ G => ∃ (ws : List (Str × Addr)) (v2 v3 v4 v5 : Option V), σ = [some (.ref ra), some (.ref d), v2, v3, v4, v5] ∧ SumI H G d ((prs.map (·.2)).take i) ws) ⟨[], _, _, _, _, rfl, SumI.nil s1⟩ (fun i σ G _ z => ?_) (fun i x σ G hx z => ?_) (fun σ G z => ?_)⟩
  · obtain ⟨ws, _, _, _, _, _, I⟩ := z
    exact SqL.of (I.1 _ _ R.l)
  · obtain ⟨ws, v2, v3, v4, v5, rfl, I⟩ := z
    obtain ⟨p, ep, rfl⟩ := rows_at hx
    have ht := R.t p (List.mem_of_getElem? ep)
    have lt : ((prs.map (·.2)).take i).length ≤ 900 := by rw [List.length_take, List.length_map]; omega
    refine ⟨_, rfl, .inr (.inr (.inl ⟨rfl, .inl ⟨_, I.2.1⟩⟩)), _, rfl, p.1, _, 1, _, rfl, rfl, SqT.of (I.1 _ _ ht), row_pr p.2, rfl, fun n G1 k1 nn hn => ?_⟩
    refine setD_rows I nd lt k1 nn hn fun ws' w G2 M _ => ?_
    refine ⟨_, rfl, p.1, p.2, rfl, M.sm _ _ ht, fun l ps G3 k3 nl hl eps hps => ⟨l, rfl, ⟨_, SqL.of hl⟩, ?_⟩⟩
    have M3 := M.same k3
    have nwl : w.2 ≠ l := ne_of_none M.at nl
    refine for_list (K := K) (xs := ps.map fun x => V.ref x.1) (fun j σ G4 => ∃ (v4 v5 : Option V), σ = [some (.ref ra), some (.ref d), some (.ref p.1), some (.ref w.2), v4, v5] ∧ SumM H G4 d ((prs.map (·.2)).take i) p.2 ws' w (addE (valOf ((prs.map (·.2)).take i) p.2.pr) (p.2.ent.take j)) ∧ G4 l = some (.lst (ps.map fun x => .ref x.1)) ∧ ∀ x ∈ ps, G4 x.1 = some (.tup [.int x.2.1, .int x.2.2])) ⟨_, _, rfl, M3, hl, hps⟩ (fun j σ G4 _ z => ?_) (fun j x σ G4 hx z => ?_) (fun σ G4 z => ?_)
    · obtain ⟨_, _, _, _, h, _⟩ := z
      exact SqL.of h
    · obtain ⟨v4, v5, rfl, M4, hl4, hps4⟩ := z
      rw [List.getElem?_map] at hx
      obtain ⟨e, ee, rfl⟩ := Option.map_eq_some_iff.mp hx
      have he := hps4 e (List.mem_of_getElem? ee)
      have ee2 : p.2.ent[j]? = some e.2 := by rw [← eps, List.getElem?_map, ee]; rfl
      have b8 : e.2.1 < 8 := by
        have := List.mem_of_getElem? ee2
        generalize e.2 = y at this
        cases hr2 : p.2 <;> (rw [hr2] at this; simp only [Row67.ent, List.mem_cons, List.not_mem_nil, or_false] at this) <;> (rcases this with rfl | rfl | rfl) <;> (dsimp only; omega)
      have ll : (addE (valOf ((prs.map (·.2)).take i) p.2.pr) (p.2.ent.take j)).length = 8 := by rw [addE_len, valOf_len]
      have hw4 := M4.at
      refine ⟨e.1, _, rfl, SqT.of he, rfl, _, _, rfl, _, _, rfl, rfl, ?_⟩
      refine ⟨_, rfl, _, rfl, w.2, _, _, rfl, rfl, hw4, by omega, by rw [List.length_map, ll]; omega, fun v hv => ?_⟩
      rw [Int.toNat_natCast] at hv
      obtain rfl := at_int7 hv
      refine ⟨_, rfl, _, _, rfl, rfl, w.2, _, _, e.2.1, rfl, rfl, hw4, ?_, _, _, rfl, ?_, ?_, ?_⟩
      · rw [List.length_map, ll]
        exact ixN_nat b8
      · have M5 := M4.set ((addE (valOf ((prs.map (·.2)).take i) p.2.pr) (p.2.ent.take j)).set e.2.1 ((addE (valOf ((prs.map (·.2)).take i) p.2.pr) (p.2.ent.take j)).getD e.2.1 0 + e.2.2))
        rw [take_snoc ee2, addE_snoc]
        rw [List.map_set] at M5
        exact M5
      · rw [upd_ne (Ne.symm nwl)]
        exact hl4
      · intro x hx
        rw [upd_ne (ne_of (hps4 x hx) hw4 (by intro z; cases z))]
        exact hps4 x hx
    · obtain ⟨v4', v5', rfl, M4, _, _⟩ := z
      have et : p.2.ent.take (ps.map fun x => V.ref x.1).length = p.2.ent := List.take_of_length_le (by rw [← eps, List.length_map, List.length_map]; exact Nat.le_refl _)
      rw [et] at M4
      exact ⟨ws', _, _, _, _, rfl, by rw [at_snd ep]; exact M4.done⟩
  · obtain ⟨ws, _, _, _, _, rfl, I⟩ := z
    have et : (prs.map (·.2)).take (prs.map fun p => V.ref p.1).length = prs.map (·.2) := List.take_of_length_le (by rw [List.length_map, List.length_map]; exact Nat.le_refl _)
    rw [et] at I
    exact ⟨_, rfl, q d ws G nd I⟩

end
end My

namespace My
open PySem L2
open Blk (sg sg_inj sg_app)
section
variable {P : Program} {w : World} {K : PySem.W.Frag} {mg : Str → Option Value} {base : Heap}
def sp__law_draw (K : PySem.W.Frag) : Sp := fun vs H Q _ => ∃ (a : Addr) (k m : Int), vs = [.ref a, .int k, .int m] ∧ Scr K H a ∧ -(2 ^ 62) < k ∧ k < 2 ^ 62 ∧ 0 < m ∧ ∀ r : Int, 0 ≤ r → r < m → Q (.int r) H
def Wd (K : PySem.W.Frag) : TS := fun D σ H => ∃ (a : Addr) (k m : Int), σ = [some (.ref a), some (.int k), some (.int m), some (.int 0)] ∧ Scr K H a ∧ ∀ v : Int, D.nx [some (.ref a), some (.int k), some (.int m), some (.int v)] H
theorem sc__law_draw : FnScope ["_law_script", "_law_k", "_law_many", "_law_cell"] ["_law_script", "_law_k", "_law_many"] (defScope s__law_draw) := ⟨rfl, rfl, rfl, by decide +kernel, rfl, by decide +kernel, by decide +kernel⟩
theorem ok__law_draw {fa cBook : Addr} {fd : FuncData} (F : Fun K "_law_draw" "_law_draw" s__law_draw fa fd) (T : Txt K mg cBook)  :
    FnOk P w K mg base CX0 1 fa fd ["_law_script", "_law_k", "_law_many"] (sp__law_draw K) := by
  refine F.ok sc__law_draw (fun vs H Q E h => ?_) (fun cdv A outer s H vs Q E hr h => ?_)
  · obtain ⟨a, k, m, rfl, _⟩ := h
    rfl
  obtain ⟨a, k, m, rfl, hS, k0, k1, m0, q⟩ := h
  refine ⟨_, (pss_cons (ps_set (i := 3) sc__law_draw.nd rfl (by first | exact Or.inl rfl | exact Or.inr rfl) pe_int)
  (pss_cons (PS.weak (t' := Wd K) (ps_if (pt_cmpR op_gt (pe_callB call_len_seq rfl T.len PySem.boot_len (pa_cons (pv 0) pa_nil)) pe_int (nomark _)) (pss_one (ps_set (i := 3) sc__law_draw.nd rfl (by first | exact Or.inl rfl | exact Or.inr rfl) (pe_ix ix_listA (pv 0) (pe_op op_mod (pv 1) (pe_callB call_len_seq rfl T.len PySem.boot_len (pa_cons (pv 0) pa_nil))) (fun _ _ => rfl)))) pss_nil) ?w1)
  (pss_one (ps_ret (pe_op op_mod (pe_op op_mod (pe_op op_mul (pe_op op_add (pe_op op_add (pe_op op_add (pe_op op_mod (pv 3) pe_int) (pe_op op_mul (pe_op op_mul pe_int (pv 1)) (pv 1))) (pe_op op_mul pe_int (pv 1))) pe_int) pe_int) pe_int) (pv 2)))))), ?_⟩
  case w1 =>
    rintro D σ H' ⟨a, k, m, rfl, ⟨ns, hS, h63⟩, q⟩
    have hl : (ns.map V.int).length = ns.length := List.length_map _
    refine ⟨_, rfl, a, _, rfl, .inl hS, _, _, rfl, rfl, _, rfl, ?_⟩
    refine ite2 (fun c => ?_) (fun c => q 0)
    have c' : (0 : Int) < (((ns.map V.int).length : Nat) : Int) := of_decide_eq_true c
    have b0 := Int.emod_nonneg k (show (((ns.map V.int).length : Nat) : Int) ≠ 0 by omega)
    have b1 := Int.emod_lt_of_pos k c'
    refine ⟨_, rfl, _, rfl, _, rfl, a, _, rfl, .inl hS, _, _, rfl, rfl, c', a, _, _, rfl, rfl, hS, b0, b1, fun v hv => ?_⟩
    obtain ⟨z, rfl⟩ := int_of hv
    exact q z
  refine ⟨a, k, m, rfl, hS, fun v => ?_⟩
  refine ⟨_, rfl, _, _, rfl, rfl, (by show (0 : Int) < 1000003; decide), _, rfl, _, _, rfl, rfl, .inl ⟨by decide, by decide⟩, _, rfl, _, _, rfl, rfl, .inr ⟨by omega, by omega⟩, _, _, rfl, rfl, _, rfl, _, _, rfl, rfl, .inl ⟨by decide, by decide⟩, _, _, rfl, rfl, _, _, rfl, rfl, _, _, rfl, rfl, .inr ⟨by decide, by decide⟩, _, _, rfl, rfl, (by show (0 : Int) < 999983; decide), _, rfl, _, _, rfl, rfl, m0, ?_⟩
  exact q _ (Int.emod_nonneg _ (by omega)) (Int.emod_lt_of_pos _ m0)
def sp__law_great (K : PySem.W.Frag) : Sp := fun vs H Q _ => ∃ (a : Addr) (k : Int), vs = [.ref a, .int k] ∧ Scr K H a ∧ ∀ r : Int, 0 ≤ r → Q (.int r) H
theorem sc__law_great : FnScope ["_law_script", "_law_k"] ["_law_script", "_law_k"] (defScope s__law_great) := ⟨rfl, rfl, rfl, by decide +kernel, rfl, by decide +kernel, by decide +kernel⟩
theorem ok__law_great {fa cBook : Addr} {fd : FuncData} (F : Fun K "_law_great" "_law_great" s__law_great fa fd) (T : Txt K mg cBook)  :
    FnOk P w K mg base CX0 1 fa fd ["_law_script", "_law_k"] (sp__law_great K) := by
  refine F.ok sc__law_great (fun vs H Q E h => ?_) (fun cdv A outer s H vs Q E hr h => ?_)
  · obtain ⟨a, k, rfl, _⟩ := h
    rfl
  obtain ⟨a, k, rfl, ⟨ns, hS, h63⟩, q⟩ := h
  have hl : (ns.map V.int).length = ns.length := List.length_map _
  refine ⟨_, (pss_cons (ps_if (pt_cmpR op_eq (pe_callB call_len_seq rfl T.len PySem.boot_len (pa_cons (pv 0) pa_nil)) pe_int (nomark _)) (pss_one (ps_ret pe_int)) pss_nil)
  (pss_one (ps_ret (pe_op op_mod (pe_ix ix_listA (pv 0) (pe_op op_mod (pv 1) (pe_callB call_len_seq rfl T.len PySem.boot_len (pa_cons (pv 0) pa_nil))) (fun _ _ => rfl)) (pe_op op_pow pe_int pe_int))))), ?_⟩
  refine ⟨_, rfl, a, _, rfl, .inl hS, rfl, _, rfl, ?_⟩
  refine ite2 (fun c => q 0 (Int.le_refl 0)) (fun c => ?_)
  have c' : (0 : Int) < (((ns.map V.int).length : Nat) : Int) := by
    by_cases z : (ns.map V.int).length = 0
    · exact absurd (decide_eq_true (by rw [z]; rfl)) c
    · omega
  have b0 := Int.emod_nonneg k (show (((ns.map V.int).length : Nat) : Int) ≠ 0 by omega)
  have b1 := Int.emod_lt_of_pos k c'
  refine ⟨_, rfl, _, rfl, _, rfl, a, _, rfl, .inl hS, _, _, rfl, rfl, c', a, _, _, rfl, rfl, hS, b0, b1, fun v hv => ?_⟩
  obtain ⟨z, rfl⟩ := int_of hv
  refine ⟨_, _, rfl, rfl, ⟨by decide, by decide, by decide⟩, _, _, rfl, rfl, (by show (0 : Int) < 10 ^ 58; decide), ?_⟩
  exact q _ (Int.emod_nonneg _ (by decide))
def sp__law_whole (_K : PySem.W.Frag) : Sp := fun vs H Q _ => ∃ n : Int, vs = [.int n] ∧ Q (.bl true) H
theorem sc__law_whole : FnScope ["_law_found"] ["_law_found"] (defScope s__law_whole) := ⟨rfl, rfl, rfl, by decide +kernel, rfl, by decide +kernel, by decide +kernel⟩
theorem ok__law_whole {fa cBook : Addr} {fd : FuncData} (F : Fun K "_law_whole" "_law_whole" s__law_whole fa fd) (T : Txt K mg cBook)  :
    FnOk P w K mg base CX0 1 fa fd ["_law_found"] (sp__law_whole K) := by
  refine F.ok sc__law_whole (fun vs H Q E h => ?_) (fun cdv A outer s H vs Q E hr h => ?_)
  · obtain ⟨n, rfl, _⟩ := h
    rfl
  obtain ⟨n, rfl, q⟩ := h
  refine ⟨_, (pss_one (ps_ret (pe_and (pe_callB call_isi rfl T.isinstance bt_isi (pa_cons (pv 0) (pa_cons (pe_bltn rfl T.int bt_int (rel_ty _)) pa_nil))) (pe_one (pe_not (pe_callB call_isi rfl T.isinstance bt_isi (pa_cons (pv 0) (pa_cons (pe_bltn rfl T.bool bt_bool (rel_ty _)) pa_nil)))))))), ?_⟩
  refine ⟨_, rfl, _, _, _, true, rfl, TyOf.int _, kit_same _, true, rfl, iteT ?_⟩
  exact ⟨_, rfl, _, _, _, false, rfl, TyOf.int _, kit_int_bool _, false, rfl, q⟩

end
end My

namespace My
open PySem L2
open Blk (sg sg_inj sg_app)
section
variable {P : Program} {w : World} {K : PySem.W.Frag} {mg : Str → Option Value} {base : Heap}
theorem slice_to (x : Str) (n : Nat) : sg (Txt.slice x none (some ((n : Nat) : Int))) = (sg x).take n := by
  have h := PyProof.Rows.slice_to_min_closes (x := x) (n := ((n : Nat) : Int)) (m := if ((x.length : Nat) : Int) < ((n : Nat) : Int) then ((x.length : Nat) : Int) else ((n : Nat) : Int)) (by omega) rfl
  have e := eq_of_beq h
  rw [e]
  show ((sg x).drop (Int.toNat 0)).take _ = _
  rw [show Int.toNat 0 = 0 from rfl, List.drop_zero]
  by_cases c : ((x.length : Nat) : Int) < ((n : Nat) : Int)
  · rw [if_pos c, List.take_of_length_le (by rw [sg_len]; omega), List.take_of_length_le (by rw [sg_len]; omega)]
  · rw [if_neg c]
    congr 1
abbrev four47 : List Str := [Str.ofString "both", Str.ofString "colour", Str.ofString "staple", Str.ofString "plain"]
theorem str_of7 {ns : List Str} {j : Nat} {v : V} (h : (ns.map V.str)[j]? = some v) : ∃ z, v = V.str z ∧ z ∈ ns := by
  rw [List.getElem?_map] at h
  obtain ⟨z, e, rfl⟩ := Option.map_eq_some_iff.mp h
  exact ⟨z, rfl, List.mem_of_getElem? e⟩
theorem strs_with {P : Str → Prop} : ∀ {ys : List V}, (∀ (i : Nat) y, ys[i]? = some y → ∃ k : Str, y = .str k ∧ P k) → ∃ zs : List Str, ys = zs.map V.str ∧ ∀ z ∈ zs, P z
  | [], _ => ⟨[], rfl, fun z h => absurd h List.not_mem_nil⟩
  | y :: r, h => by
    obtain ⟨k, rfl, hk⟩ := h 0 y rfl
    obtain ⟨zs, rfl, hz⟩ := strs_with (ys := r) fun i y e => h (i + 1) y e
    refine ⟨k :: zs, rfl, fun z hz' => ?_⟩
    rcases List.mem_cons.mp hz' with rfl | m
    · exact hk
    · exact hz z m
theorem got_each {xs ys : List V} {G : V → Prop} (l : ys.length = xs.length) (g : ∀ (i : Nat) x y, xs[i]? = some x → ys[i]? = some y → G y) (i : Nat) (y : V) (e : ys[i]? = some y) : G y := by
  obtain ⟨x, ex⟩ : ∃ x, xs[i]? = some x := ⟨_, List.getElem?_eq_getElem (by rw [← l]; exact (List.getElem?_eq_some_iff.mp e).1)⟩
  exact g i x y ex e
theorem new_none {H H' : Hp} {G : Prop} (h : G) : New H H' (fun _ => G) := ⟨fun _ => False, fun _ z => z.elim, fun _ _ => h⟩
theorem slice_few (x : Str) (n : Nat) {k : Nat} (h : x.length ≤ k) : (Txt.slice x none (some ((n : Nat) : Int))).length ≤ k := by
  have e := congrArg List.length (slice_to x n)
  rw [List.length_take] at e
  have e1 : (sg (Txt.slice x none (some ((n : Nat) : Int)))).length = (Txt.slice x none (some ((n : Nat) : Int))).length := Array.length_toList
  have e2 : (sg x).length = x.length := Array.length_toList
  omega
theorem at_head {zs : List Str} {c : Str} (h : zs[0]? = some c) : atI (zs.map V.str) 0 = some (V.str c) := by
  cases zs with
  | nil => cases h
  | cons t r =>
    obtain rfl := Option.some.inj h
    have e : ixN ((t :: r).map V.str).length 0 = some 0 := ixN_nat (j := 0) (by rw [List.length_map]; exact Nat.zero_lt_succ _)
    unfold atI
    rw [e]
    rfl
def sp__law_names (K : PySem.W.Frag) : Sp := fun vs H Q _ => ∃ (a : Addr) (k : Int) (m : Nat), vs = [.ref a, .int k, .int (m : Int)] ∧ Scr K H a ∧ 0 ≤ k ∧ k ≤ 1000 ∧ m ≤ 10 ∧ ∀ (p : Addr) (ns : List Str) (H' : Hp), Same H H' → H p = none → H' p = some (.lst (ns.map V.str)) → ns.length = m → Q (.ref p) H'
theorem sc__law_names : FnScope ["_law_script", "_law_k", "_law_many", "_law_letters", "_law_size", "_law_word", "_law_at", "_law_first", "_law_names_here", "_law_j", "_law_signs"] ["_law_script", "_law_k", "_law_many"] (defScope s__law_names) := ⟨rfl, rfl, rfl, by decide +kernel, rfl, by decide +kernel, by decide +kernel⟩
theorem ok__law_names {fa cBook : Addr} {fd : FuncData} (F : Fun K "_law_names" "_law_names" s__law_names fa fd) (T : Txt K mg cBook) (D__law_draw : Dfn P w K mg base 1 "_law_draw" ["_law_script", "_law_k", "_law_many"] (sp__law_draw K)) :
    FnOk P w K mg base CX0 2 fa fd ["_law_script", "_law_k", "_law_many"] (sp__law_names K) := by
  refine F.ok sc__law_names (fun vs H Q E h => ?_) (fun cdv A outer s H vs Q E hr h => ?_)
  · obtain ⟨a, k, m, rfl, _⟩ := h
    rfl
  obtain ⟨a, k, m, rfl, hS, k0, k1, m1, q⟩ := h
  refine ⟨_, (pss_cons (ps_set (i := 3) sc__law_names.nd rfl (by first | exact Or.inl rfl | exact Or.inr rfl) pe_str)
  (pss_cons (ps_set (i := 4) sc__law_names.nd rfl (by first | exact Or.inl rfl | exact Or.inr rfl) (pe_op op_add pe_int (pe_callD D__law_draw (hr.mono (by decide)) rfl (pa_cons (pv 0) (pa_cons (pv 1) (pa_cons pe_int pa_nil))))))
  (pss_cons (ps_set (i := 5) sc__law_names.nd rfl (by first | exact Or.inl rfl | exact Or.inr rfl) (pe_comp (frees := [("_law_letters", 3), ("_law_script", 0), ("_law_k", 1)]) ⟨by decide +kernel, rfl, rfl, by decide +kernel, ⟨⟨rfl, rfl, rfl, by decide +kernel⟩, ⟨⟨rfl, rfl, rfl, by decide +kernel⟩, ⟨⟨rfl, rfl, rfl, by decide +kernel⟩, trivial⟩⟩⟩, by decide +kernel, cellsFor_at rfl, rfl⟩ rfl (pi_range1 rfl T.range (pa_cons (pv 4) pa_nil)) (fun _ _ _ _ => pifs_nil) (fun _ _ _ _ => by exact (pe_ix ix_strA (pv 1) (pe_callD D__law_draw (hr.mono (by decide)) rfl (pa_cons (pv 2) (pa_cons (pe_op op_add (pe_op op_add (pv 3) pe_int) (pv 0)) (pa_cons pe_int pa_nil)))) (fun _ _ => rfl)))))
  (pss_cons (ps_if (pt_cmpR op_eq (pe_callD D__law_draw (hr.mono (by decide)) rfl (pa_cons (pv 0) (pa_cons (pe_op op_add (pv 1) pe_int) (pa_cons pe_int pa_nil)))) pe_int (nomark _)) (pss_one (ps_ret (pe_comp (frees := [("_law_word", 5)]) ⟨by decide +kernel, rfl, rfl, by decide +kernel, ⟨⟨rfl, rfl, rfl, by decide +kernel⟩, trivial⟩, by decide +kernel, cellsFor_at rfl, rfl⟩ rfl (pi_range1 rfl T.range (pa_cons (pv 2) pa_nil)) (fun _ _ _ _ => pifs_nil) (fun _ _ _ _ => by exact (pe_op op_add_str (pe_ixK (K := K) (r := rIxL) rfl ix_list (pv 1) pe_int (fun _ _ => rfl)) (pe_slice sl_str pe_str po_none (po_some (pv 0)))))))) pss_nil)
  (pss_cons (ps_set (i := 6) sc__law_names.nd rfl (by first | exact Or.inl rfl | exact Or.inr rfl) (pe_callD D__law_draw (hr.mono (by decide)) rfl (pa_cons (pv 0) (pa_cons (pe_op op_add (pv 1) pe_int) (pa_cons (pv 4) pa_nil)))))
  (pss_cons (ps_set (i := 7) sc__law_names.nd rfl (by first | exact Or.inl rfl | exact Or.inr rfl) (pe_callD D__law_draw (hr.mono (by decide)) rfl (pa_cons (pv 0) (pa_cons (pe_op op_add (pv 1) pe_int) (pa_cons pe_int pa_nil)))))
  (pss_cons (ps_set (i := 8) sc__law_names.nd rfl (by first | exact Or.inl rfl | exact Or.inr rfl) (pe_lst pa_nil))
  (pss_cons (ps_for PassesOwn.never rfl (pi_range1 rfl T.range (pa_cons (pv 2) pa_nil)) (pg_name (i := 9) sc__law_names.nd rfl (by first | exact Or.inl rfl | exact Or.inr rfl))
  (pss_cons (ps_set (i := 10) sc__law_names.nd rfl (by first | exact Or.inl rfl | exact Or.inr rfl) (pe_callTy call_list_of rfl T.list bt_list (pa_cons (pv 5) pa_nil)))
  (pss_cons (ps_asg (pe_ix ix_strA (pv 3) (pe_op op_mod (pe_op op_add (pv 7) (pv 9)) pe_int) (fun _ _ => rfl)) (pg_sub (pv 10) (pv 6) set_list))
  (pss_one (ps_expr (pe_bm PySem.F.plainAttrs_list PySem.F.slot_list_append PySem.F.type_list_append mt_append (pv 8) (pa_cons (pe_bm PySem.F.plainAttrs_str PySem.F.slot_str_join PySem.F.type_str_join mt_join pe_str (pa_cons (pv 10) pa_nil)) pa_nil)))))))
  (pss_one (ps_ret (pv 8))))))))))), ?_⟩
  have fit : ∀ n : Nat, n ≤ 1000 → n ≤ sizeLine := fun n h => small h
  refine ⟨_, rfl, _, rfl, a, _, _, rfl, hS, by omega, by omega, by decide, fun r1 r10 r11 => ⟨_, _, rfl, rfl, ?_⟩⟩
  obtain ⟨sz, hsz⟩ : ∃ sz : Nat, (1 + r1 : Int) = (sz : Int) := ⟨(1 + r1).toNat, by omega⟩
  refine ⟨_, rfl, _, rfl, by omega, by omega, ?_⟩
  refine compB_mk (seq_range 0 (1 + r1 : Int).toNat H) (fun _ y _ => ∃ z : Str, y = .str z ∧ z.length = 1) (by rw [List.length_map, List.length_range]; exact small1000 (by omega)) (fun x _ H' R _ rr => rr) (fun x hx G R sG rr => ?_) (fun w H1 ys s1 nw hw ly gy => ?_)
  · obtain ⟨j, hj, rfl⟩ := List.mem_map.mp hx
    have hj' := List.mem_range.mp hj
    refine ⟨_, rfl, _, rfl, _, rfl, _, _, rfl, rfl, _, rfl, _, _, rfl, rfl, a, _, _, rfl, hS.same sG, by omega, by omega, by decide, fun r r0 r1 => ⟨_, _, rfl, rfl, (by decide +kernel), r0, Int.lt_of_lt_of_le r1 (by decide +kernel), fun c hc => ?_⟩⟩
    exact rr _ _ (Same.refl _) (new_none ⟨_, rfl, rfl⟩)
  obtain ⟨zs, rfl, hz⟩ := strs_with (got_each ly gy)
  rw [List.length_map, List.length_map, List.length_range] at ly
  have S1 := hS.same s1
  refine ⟨_, rfl, _, rfl, _, _, rfl, rfl, a, _, _, rfl, S1, by omega, by omega, by decide, fun r _ _ => ⟨rfl, _, rfl, ?_⟩⟩
  refine ite2 (fun _ => ?_) (fun _ => ?_)
  · refine ⟨_, rfl, _, rfl, by omega, by omega, ?_⟩
    have hz0 : 0 < zs.length := by omega
    obtain ⟨c0, ec0⟩ : ∃ c, zs[0]? = some c := ⟨_, List.getElem?_eq_getElem hz0⟩
    refine compB_mk (seq_range 0 (m : Int).toNat H1) (fun _ y _ => ∃ z : Str, y = .str z ∧ True) (by rw [List.length_map, List.length_range]; exact small1000 (by omega)) (fun x _ H' R _ rr => rr) (fun x hx G R sG rr => ?_) (fun D H2 ys2 s2 nD hD ly2 gy2 => ?_)
    · obtain ⟨j, hj, rfl⟩ := List.mem_map.mp hx
      rw [Int.zero_add]
      have hl : (Txt.slice (Str.ofString "a1b2c3d4e5f") none (some ((j : Nat) : Int))).length ≤ 11 := slice_few _ _ (by decide +kernel)
      have l1 := hz c0 (List.mem_of_getElem? ec0)
      refine ⟨_, rfl, w, _, 0, _, rfl, rfl, SqL.of (sG _ _ hw), at_head ec0, _, rfl, _, rfl, _, rfl, small (by decide +kernel), _, _, rfl, rfl, small (by omega), ?_⟩
      exact rr _ _ (Same.refl _) (new_none ⟨_, rfl, trivial⟩)
    · obtain ⟨zs2, rfl, _⟩ := strs_with (got_each ly2 gy2)
      rw [List.length_map, List.length_map, List.length_range, Int.toNat_natCast] at ly2
      exact q D zs2 H2 (s1.trans s2) (s1.free nD) hD ly2
  refine ⟨_, rfl, _, rfl, _, _, rfl, rfl, _, rfl, a, _, _, rfl, S1, by omega, by omega, by omega, fun at' a0 a1 => ?_⟩
  refine ⟨_, rfl, _, rfl, _, _, rfl, rfl, a, _, _, rfl, S1, by omega, by omega, by decide, fun fs f0 f1 => ?_⟩
  refine ⟨Nat.zero_le _, fun p np => ?_⟩
  have s2 := same_new np (.lst [])
  refine ⟨_, rfl, _, rfl, by omega, by omega, for_range (lo := 0) (n := (m : Int).toNat) (fun i σ G => Same H1 G ∧ ∃ (ns : List Str) (v9 v10 : Option V), G p = some (.lst (ns.map V.str)) ∧ ns.length = i ∧ σ = [some (.ref a), some (.int k), some (.int m), some (.str (Str.ofString "abcdefghijklmnopqrstuvwxyz")), some (.int (1 + r1)), some (.ref w), some (.int at'), some (.int fs), some (.ref p), v9, v10]) ⟨s2, [], _, _, upd_same, rfl, rfl⟩ (fun i σ G hi z => ?_) (fun σ G z => ?_)⟩
  · obtain ⟨sG, ns, v9, v10, hp, ln, rfl⟩ := z
    refine ⟨_, rfl, w, _, rfl, .inl (SqL.of (sG _ _ hw)), fun l nl => ?_⟩
    have k1 := same_new nl (.lst (zs.map V.str))
    refine ⟨_, rfl, _, rfl, _, rfl, _, _, rfl, rfl, _, _, rfl, rfl, (by show (0 : Int) < 26; decide), ?_⟩
    refine ⟨_, _, rfl, rfl, (by decide +kernel), Int.emod_nonneg _ (by decide), Int.lt_of_lt_of_le (Int.emod_lt_of_pos _ (by decide)) (by decide +kernel), fun cl hcl => ?_⟩
    refine ⟨_, rfl, _, rfl, l, _, _, at'.toNat, rfl, rfl, upd_same, ?_, ?_⟩
    · have := ixN_nat (n := zs.length) (j := at'.toNat) (by omega)
      rw [Int.toNat_of_nonneg a0] at this
      rw [List.length_map]
      exact this
    rw [upd_upd, ← List.map_set]
    have h5 : upd G l (.lst ((zs.set at'.toNat ⟨#[cl]⟩).map V.str)) l = some (.lst ((zs.set at'.toNat ⟨#[cl]⟩).map V.str)) := upd_same
    have k5 := same_new nl (.lst ((zs.set at'.toNat ⟨#[cl]⟩).map V.str))
    generalize upd G l (.lst ((zs.set at'.toNat ⟨#[cl]⟩).map V.str)) = G5 at h5 k5 ⊢
    have hp5 := k5 _ _ hp
    refine ⟨_, rfl, .inl ⟨rfl, _, SqL.of hp5⟩, rfl, _, rfl, _, l, zs.set at'.toNat ⟨#[cl]⟩, rfl, rfl, SqL.of h5, ?_, p, _, _, rfl, rfl, hp5, ?_, ?_⟩
    · unfold JoinOk
      rw [Bool.not_eq_true']
      refine StrLaws.joinFits (B := 1) (fun x hx => ?_) ?_
      · rcases List.mem_or_eq_of_mem_set hx with h | h
        · exact Nat.le_of_eq (hz x h)
        · rw [h]; exact Nat.le_refl 1
      · rw [List.length_set, show (Str.ofString "").length = 0 by decide +kernel]
        omega
    · rw [List.length_map]
      exact small1000 (by omega)
    · refine ⟨same_on np (sG.trans k5) _, ns ++ [?z], _, _, ?_, ?_, rfl⟩
      rotate_left
      · rw [upd_same, List.map_append]
        rfl
      · rw [List.length_append, ln]
        rfl
  · obtain ⟨sG, ns, v9, v10, hp, ln, rfl⟩ := z
    rw [Int.toNat_natCast] at ln
    exact ⟨_, rfl, q p ns G (s1.trans sG) (s1.free np) hp ln⟩
def sp__law_number (K : PySem.W.Frag) : Sp := fun vs H Q _ => ∃ (a : Addr) (k : Int), vs = [.ref a, .int k] ∧ Scr K H a ∧ 0 ≤ k ∧ k ≤ 100000 ∧ ∀ r : Int, Q (.int r) H
theorem sc__law_number : FnScope ["_law_script", "_law_k"] ["_law_script", "_law_k"] (defScope s__law_number) := ⟨rfl, rfl, rfl, by decide +kernel, rfl, by decide +kernel, by decide +kernel⟩
theorem ok__law_number {fa cBook : Addr} {fd : FuncData} (F : Fun K "_law_number" "_law_number" s__law_number fa fd) (T : Txt K mg cBook) (D__law_draw : Dfn P w K mg base 1 "_law_draw" ["_law_script", "_law_k", "_law_many"] (sp__law_draw K)) (D__law_great : Dfn P w K mg base 1 "_law_great" ["_law_script", "_law_k"] (sp__law_great K)) :
    FnOk P w K mg base CX0 2 fa fd ["_law_script", "_law_k"] (sp__law_number K) := by
  refine F.ok sc__law_number (fun vs H Q E h => ?_) (fun cdv A outer s H vs Q E hr h => ?_)
  · obtain ⟨a, k, rfl, _⟩ := h
    rfl
  obtain ⟨a, k, rfl, hS, k0, k1, q⟩ := h
  refine ⟨_, (pss_cons (ps_if (pt_cmpR op_eq (pe_callD D__law_draw (hr.mono (by decide)) rfl (pa_cons (pv 0) (pa_cons (pv 1) (pa_cons pe_int pa_nil)))) pe_int (nomark _)) (pss_one (ps_ret (pe_callD D__law_great (hr.mono (by decide)) rfl (pa_cons (pv 0) (pa_cons (pe_op op_add (pv 1) pe_int) pa_nil))))) pss_nil)
  (pss_one (ps_ret (pe_callD D__law_draw (hr.mono (by decide)) rfl (pa_cons (pv 0) (pa_cons (pe_op op_add (pv 1) pe_int) (pa_cons pe_int pa_nil))))))), ?_⟩
  refine ⟨_, rfl, _, rfl, a, _, _, rfl, hS, by omega, by omega, by decide, fun r1 _ _ => ⟨rfl, _, rfl, ?_⟩⟩
  refine ite2 (fun _ => ?_) (fun _ => ?_)
  · exact ⟨_, rfl, _, rfl, _, _, rfl, rfl, a, _, rfl, hS, fun r2 _ => q r2⟩
  · exact ⟨_, rfl, _, rfl, _, _, rfl, rfl, a, _, _, rfl, hS, by omega, by omega, by decide, fun r2 _ _ => q r2⟩
def sp__law_any_row (K : PySem.W.Frag) : Sp := fun vs H Q _ => ∃ (a h d j : Addr) (k : Int) (hs ks js : List Str), vs = [.ref a, .int k, .ref h, .ref d, .ref j] ∧ Scr K H a ∧ 0 ≤ k ∧ k ≤ 10000 ∧ H h = some (.lst (hs.map V.str)) ∧ H d = some (.lst (ks.map V.str)) ∧ H j = some (.lst (js.map V.str)) ∧ hs.length = 3 ∧ ks.length = 3 ∧ js.length = 3 ∧ ∀ t r H', Same H H' → H t = none → H' t = some (.tup (Row67.vs r)) → Q (.ref t) H'
theorem sc__law_any_row : FnScope ["_law_script", "_law_k", "_law_halls", "_law_kinds", "_law_jobs", "_law_printer", "_law_way", "_law_one", "_law_other", "_law_kind", "_law_name", "_law_number_here"] ["_law_script", "_law_k", "_law_halls", "_law_kinds", "_law_jobs"] (defScope s__law_any_row) := ⟨rfl, rfl, rfl, by decide +kernel, rfl, by decide +kernel, by decide +kernel⟩
theorem ok__law_any_row {fa cBook : Addr} {fd : FuncData} (F : Fun K "_law_any_row" "_law_any_row" s__law_any_row fa fd) (T : Txt K mg cBook) (D__law_draw : Dfn P w K mg base 1 "_law_draw" ["_law_script", "_law_k", "_law_many"] (sp__law_draw K)) (D__law_number : Dfn P w K mg base 2 "_law_number" ["_law_script", "_law_k"] (sp__law_number K)) :
    FnOk P w K mg base CX0 3 fa fd ["_law_script", "_law_k", "_law_halls", "_law_kinds", "_law_jobs"] (sp__law_any_row K) := by
  refine F.ok sc__law_any_row (fun vs H Q E h => ?_) (fun cdv A outer s H vs Q E hr h => ?_)
  · obtain ⟨a, h, d, j, k, hs, ks, js, rfl, _⟩ := h
    rfl
  obtain ⟨a, h, d, j, k, hs, ks, js, rfl, hS, k0, k1, hh, hd, hj, l1, l2, l3, q⟩ := h
  refine ⟨_, (pss_cons (ps_set (i := 5) sc__law_any_row.nd rfl (by first | exact Or.inl rfl | exact Or.inr rfl) (pe_ix ix_listA (pv 2) (pe_callD D__law_draw (hr.mono (by decide)) rfl (pa_cons (pv 0) (pa_cons (pv 1) (pa_cons (pe_callB call_len_seq rfl T.len PySem.boot_len (pa_cons (pv 2) pa_nil)) pa_nil)))) (fun _ _ => rfl)))
  (pss_cons (ps_set (i := 6) sc__law_any_row.nd rfl (by first | exact Or.inl rfl | exact Or.inr rfl) (pe_callD D__law_draw (hr.mono (by decide)) rfl (pa_cons (pv 0) (pa_cons (pe_op op_add (pv 1) pe_int) (pa_cons pe_int pa_nil)))))
  (pss_cons (ps_set (i := 7) sc__law_any_row.nd rfl (by first | exact Or.inl rfl | exact Or.inr rfl) (pe_callD D__law_number (hr.mono (by decide)) rfl (pa_cons (pv 0) (pa_cons (pe_op op_add (pv 1) pe_int) pa_nil))))
  (pss_cons (ps_set (i := 8) sc__law_any_row.nd rfl (by first | exact Or.inl rfl | exact Or.inr rfl) (pe_callD D__law_number (hr.mono (by decide)) rfl (pa_cons (pv 0) (pa_cons (pe_op op_add (pv 1) pe_int) pa_nil))))
  (pss_cons (ps_set (i := 9) sc__law_any_row.nd rfl (by first | exact Or.inl rfl | exact Or.inr rfl) (pe_ix ix_listA (pv 3) (pe_callD D__law_draw (hr.mono (by decide)) rfl (pa_cons (pv 0) (pa_cons (pe_op op_add (pv 1) pe_int) (pa_cons (pe_callB call_len_seq rfl T.len PySem.boot_len (pa_cons (pv 3) pa_nil)) pa_nil)))) (fun _ _ => rfl)))
  (pss_cons (ps_set (i := 10) sc__law_any_row.nd rfl (by first | exact Or.inl rfl | exact Or.inr rfl) (pe_ix ix_listA (pv 4) (pe_callD D__law_draw (hr.mono (by decide)) rfl (pa_cons (pv 0) (pa_cons (pe_op op_add (pv 1) pe_int) (pa_cons (pe_callB call_len_seq rfl T.len PySem.boot_len (pa_cons (pv 4) pa_nil)) pa_nil)))) (fun _ _ => rfl)))
  (pss_cons (ps_set (i := 11) sc__law_any_row.nd rfl (by first | exact Or.inl rfl | exact Or.inr rfl) (pe_op op_sub (pe_callD D__law_draw (hr.mono (by decide)) rfl (pa_cons (pv 0) (pa_cons (pe_op op_add (pv 1) pe_int) (pa_cons pe_int pa_nil)))) pe_int))
  (pss_cons (ps_if (pt_cmpR op_eq (pv 6) pe_int (nomark _)) (pss_one (ps_ret (pe_tup (pa_cons pe_str (pa_cons (pv 5) (pa_cons (pv 9) (pa_cons (pv 7) pa_nil))))))) pss_nil)
  (pss_cons (ps_if (pt_cmpR op_eq (pv 6) pe_int (nomark _)) (pss_one (ps_ret (pe_tup (pa_cons pe_str (pa_cons (pv 5) (pa_cons (pv 7) (pa_cons (pv 8) pa_nil))))))) pss_nil)
  (pss_cons (ps_if (pt_cmpR op_lt (pv 6) pe_int (nomark _)) (pss_one (ps_ret (pe_tup (pa_cons pe_str (pa_cons (pv 5) (pa_cons (pv 9) (pa_cons (pv 10) (pa_cons (pv 11) (pa_cons (pv 7) (pa_cons (pv 8) pa_nil)))))))))) pss_nil)
  (pss_one (ps_ret (pe_tup (pa_cons (pe_ix ix_listA (pe_lst (pa_cons pe_str (pa_cons pe_str pa_nil))) (pe_op op_sub (pv 6) pe_int) (fun _ _ => rfl)) (pa_cons (pv 5) (pa_cons (pv 10) (pa_cons (pv 11) pa_nil))))))))))))))))), ?_⟩
  have z4 : 4 ≤ sizeLine := small (by decide)
  have z7 : 7 ≤ sizeLine := small (by decide)
  have z2 : 2 ≤ sizeLine := small (by decide)
  have e1 : (((hs.map V.str).length : Nat) : Int) = 3 := by rw [List.length_map, l1]; rfl
  have e2 : (((ks.map V.str).length : Nat) : Int) = 3 := by rw [List.length_map, l2]; rfl
  have e3 : (((js.map V.str).length : Nat) : Int) = 3 := by rw [List.length_map, l3]; rfl
  refine ⟨_, rfl, _, rfl, _, rfl, _, rfl, h, _, rfl, .inl (SqL.of hh), a, _, _, rfl, hS, by omega, by omega, by omega, fun r1 r10 r11 => ⟨h, _, _, rfl, rfl, SqL.of hh, r10, r11, fun v hv => ?_⟩⟩
  obtain ⟨pr, rfl, _⟩ := str_of7 hv
  refine ⟨_, rfl, _, rfl, _, _, rfl, rfl, a, _, _, rfl, hS, by omega, by omega, by decide, fun way w0 w1 => ?_⟩
  refine ⟨_, rfl, _, rfl, _, _, rfl, rfl, a, _, rfl, hS, by omega, by omega, fun one => ?_⟩
  refine ⟨_, rfl, _, rfl, _, _, rfl, rfl, a, _, rfl, hS, by omega, by omega, fun oth => ?_⟩
  refine ⟨_, rfl, _, rfl, _, rfl, _, _, rfl, rfl, _, rfl, d, _, rfl, .inl (SqL.of hd), a, _, _, rfl, hS, by omega, by omega, by omega, fun r2 r20 r21 => ⟨d, _, _, rfl, rfl, SqL.of hd, r20, r21, fun v2 hv2 => ?_⟩⟩
  obtain ⟨kd, rfl, _⟩ := str_of7 hv2
  refine ⟨_, rfl, _, rfl, _, rfl, _, _, rfl, rfl, _, rfl, j, _, rfl, .inl (SqL.of hj), a, _, _, rfl, hS, by omega, by omega, by omega, fun r3 r30 r31 => ⟨j, _, _, rfl, rfl, SqL.of hj, r30, r31, fun v3 hv3 => ?_⟩⟩
  obtain ⟨jb, rfl, _⟩ := str_of7 hv3
  refine ⟨_, rfl, _, rfl, _, _, rfl, rfl, a, _, _, rfl, hS, by omega, by omega, by decide, fun r4 _ _ => ⟨_, _, rfl, rfl, ?_⟩⟩
  refine ⟨_, rfl, rfl, _, rfl, ite2 (fun _ => ?_) (fun c0 => ?_)⟩
  · refine ⟨_, rfl, _, rfl, _, rfl, z4, fun t nt => ?_⟩
    exact q t (.load pr kd one) _ (same_new nt _) nt upd_same
  refine ⟨_, rfl, rfl, _, rfl, ite2 (fun _ => ?_) (fun c1 => ?_)⟩
  · refine ⟨_, rfl, _, rfl, _, rfl, z4, fun t nt => ?_⟩
    exact q t (.ink pr one oth) _ (same_new nt _) nt upd_same
  refine ⟨_, rfl, _, _, rfl, rfl, _, rfl, ite2 (fun _ => ?_) (fun c2 => ?_)⟩
  · refine ⟨_, rfl, _, rfl, _, rfl, _, rfl, _, rfl, _, rfl, z7, fun t nt => ?_⟩
    exact q t (.feed pr kd jb _ one oth) _ (same_new nt _) nt upd_same
  have w4 : ¬ way < 4 := fun z => c2 (decide_eq_true z)
  refine ⟨z2, fun wl nwl => ?_⟩
  have k2 := same_new nwl (.lst [V.str otW, V.str lsW])
  have hwl : upd H wl (.lst [V.str otW, V.str lsW]) wl = some (.lst [V.str otW, V.str lsW]) := upd_same
  generalize upd H wl (.lst [V.str otW, V.str lsW]) = H2 at k2 hwl ⊢
  refine ⟨_, rfl, _, _, rfl, rfl, wl, _, _, rfl, rfl, SqL.of hwl, by omega, by show way - 4 < 2; omega, fun v hv => ?_⟩
  have w5 : way = 4 ∨ way = 5 := by omega
  rcases w5 with rfl | rfl
  · obtain rfl : V.str otW = v := Option.some.inj hv
    exact ⟨_, rfl, _, rfl, _, rfl, z4, fun t nt => q t (.out pr jb _) _ (k2.trans (same_new nt _)) (k2.free nt) upd_same⟩
  · obtain rfl : V.str lsW = v := Option.some.inj hv
    exact ⟨_, rfl, _, rfl, _, rfl, z4, fun t nt => q t (.lost pr jb _) _ (k2.trans (same_new nt _)) (k2.free nt) upd_same⟩

end
end My

namespace My
open PySem L2
open Blk (sg sg_inj sg_app)
section
variable {P : Program} {w : World} {K : PySem.W.Frag} {mg : Str → Option Value} {base : Heap}
/-! ### the law's own sums -/
theorem for_seqB {J : It} {B : Hp} {xs : List V} (S : Seq J B xs) {g : TG} {tb : TS} {D : Ends} {σ : St} {H : Hp} (Pv : Nat → St → Hp → Prop) (h0 : Pv 0 σ H) (hk : ∀ i σ H, Pv i σ H → Same B H)
    (hs : ∀ i x σ H, xs[i]? = some x → Pv i σ H → g x σ H fun σ2 H2 => tb { D with nx := Pv (i + 1), ct := Pv (i + 1), bk := D.nx } σ2 H2) (hd : ∀ σ H, Pv xs.length σ H → D.nx σ H) :
    ∃ W : Nat → Nat → St → Hp → Prop, (∃ m, W 0 m σ H) ∧ ∀ i m σ H, W i m σ H →
      (J.stop i H ∧ D.nx σ H) ∨ (J.go i H ∧ ∃ N : St → Hp → Prop, (∀ σ' H', N σ' H' → ∃ m', m' < m ∧ W (i + 1) m' σ' H') ∧ ∀ x H', J.yld i H x H' → g x σ H' fun σ2 H2 => tb { D with nx := N, ct := N, bk := D.nx } σ2 H2) := by
  refine ⟨fun i m σ H => m = xs.length - i ∧ i ≤ xs.length ∧ Pv i σ H, ⟨xs.length, by simp, Nat.zero_le _, h0⟩, ?_⟩
  rintro i m σ H ⟨rfl, hi, p⟩
  have q := hk i σ H p
  by_cases hlt : i < xs.length
  · refine .inr ⟨S.go i H q hlt, Pv (i + 1), fun σ' H' p' => ⟨xs.length - (i + 1), by omega, rfl, hlt, p'⟩, fun x H' y => ?_⟩
    obtain ⟨e, hx⟩ := S.yld i H x H' q hlt y
    subst e
    exact hs i x σ H' hx p
  · have e : i = xs.length := by omega
    subst e
    exact .inl ⟨S.stop H q, hd σ H p⟩
theorem frz7 {H G : Hp} {da : Addr} {o : Obj} {ws : List (Str × Addr)} {f : Str → List Int} (D : DictL H da ws f) (hd : H da = some (.dK (wD7 ws))) (sm : Same (upd H da (.frz o (.dK (wD7 ws)))) G) : DictL G da ws f ∧ (∀ b v, b ≠ da → H b = some v → G b = some v) ∧ G da = some (.frz o (.dK (wD7 ws))) ∧ Same H (upd G da (.dK (wD7 ws))) := by
  have k : ∀ b v, b ≠ da → H b = some v → G b = some v := fun b v nb e => sm _ _ (by rw [upd_ne nb]; exact e)
  have f := sm _ _ (upd_same (H := H) (a := da) (o := .frz o (.dK (wD7 ws))))
  refine ⟨{ D with d := .inr ⟨o, f⟩, l := fun r hr => k _ _ (ne_of (D.l r hr) hd (by intro z; cases z)) (D.l r hr) }, k, f, fun b v e => ?_⟩
  by_cases hb : b = da
  · rw [hb, upd_same]
    rw [hb, hd] at e
    exact e
  · rw [upd_ne hb]
    exact k b v hb e
theorem wD7_at {ws : List (Str × Addr)} {i : Nat} {y : V} (h : ((wD7 ws).map fun p => kV p.1)[i]? = some y) : ∃ r, ws[i]? = some r ∧ y = .str r.1 := by
  unfold wD7 at h
  rw [List.map_map, List.getElem?_map] at h
  obtain ⟨r, er, rfl⟩ := Option.map_eq_some_iff.mp h
  exact ⟨r, er, rfl⟩
theorem wD7_keys {ws : List (Str × Addr)} : ((wD7 ws).map fun p => kV p.1) = (ws.map (·.1)).map V.str := by
  unfold wD7
  rw [List.map_map, List.map_map]
  rfl
def WDu (K : PySem.W.Frag) : TS := fun D σ G => ∃ (H : Hp) (ra d : Addr) (rs : List Row67) (p : Addr × Row67) (ws : List (Str × Addr)) (v3 v4 : Option V), σ = [some (.ref ra), some (.ref d), some (.ref p.1), v3, v4] ∧ H d = none ∧ rs.length ≤ 900 ∧ SumI H G d rs ws ∧ H p.1 = some (.tup p.2.vs) ∧ ∀ ws' w G2, SumM H G2 d rs p.2 ws' w (valOf rs p.2.pr) → valV (wD7 ws') (Sum.inr p.2.pr) = some (.ref w.2) → D.nx [some (.ref ra), some (.ref d), some (.ref p.1), v3, v4] G2
theorem SumM.val {H G : Hp} {d : Addr} {rs : List Row67} {r : Row67} {ws : List (Str × Addr)} {w : Str × Addr} {zs : List Int} (M : SumM H G d rs r ws w zs) : valV (wD7 ws) (Sum.inr r.pr) = some (.ref w.2) := by
  rw [← M.e]
  exact val_w7 M.D.nd M.mem
def tab7 : List (Key × V) := [(Sum.inr fdW, .int 1), (Sum.inr otW, .int 2), (Sum.inr lsW, .int 3)]
theorem tab7_1 : valV tab7 (Sum.inr fdW) = some (.int 1) := valV_pos rfl
theorem tab7_2 : valV tab7 (Sum.inr otW) = some (.int 2) := (valV_neg (by intro z; injection z with z; exact absurd z (by decide +kernel))).trans (valV_pos rfl)
theorem tab7_3 : valV tab7 (Sum.inr lsW) = some (.int 3) := (valV_neg (by intro z; injection z with z; exact absurd z (by decide +kernel))).trans ((valV_neg (by intro z; injection z with z; exact absurd z (by decide +kernel))).trans (valV_pos rfl))
theorem at8 {zs : List Int} {n k : Nat} (h : zs.length = n) (hk : k < n) : atI (zs.map V.int) (k : Int) = some (.int (zs.getD k 0)) := by
  have e : ixN (zs.map V.int).length (k : Int) = some k := ixN_nat (by rw [List.length_map, h]; exact hk)
  unfold atI
  rw [e]
  show (zs.map V.int)[k]? = _
  rw [List.getElem?_map, List.getElem?_eq_getElem (by omega), List.getD_eq_getElem?_getD, List.getElem?_eq_getElem (by omega)]
  rfl
theorem ix8 {zs : List Int} {n k : Nat} (h : zs.length = n) (hk : k < n) : ixN (zs.map V.int).length (k : Int) = some k := ixN_nat (by rw [List.length_map, h]; exact hk)
def sp__law_due (_K : PySem.W.Frag) : Sp := fun vs H Q _ => ∃ ra prs, vs = [.ref ra] ∧ RowsAt H ra prs ∧ prs.length ≤ 900 ∧ SumQ H prs Q
theorem sc__law_due : FnScope ["_law_rows", "_law_due_here", "_law_row", "_law_line", "_law_at"] ["_law_rows"] (defScope s__law_due) := ⟨rfl, rfl, rfl, by decide +kernel, rfl, by decide +kernel, by decide +kernel⟩
theorem ok__law_due {fa cBook : Addr} {fd : FuncData} (F : Fun K "_law_due" "_law_due" s__law_due fa fd) (T : Txt K mg cBook)  :
    FnOk P w K mg base CX0 1 fa fd ["_law_rows"] (sp__law_due K) := by
  refine F.ok sc__law_due (fun vs H Q E h => ?_) (fun cdv A outer s H vs Q E hr h => ?_)
  · obtain ⟨ra, prs, rfl, _⟩ := h
    rfl
  obtain ⟨ra, prs, rfl, R, lp, q⟩ := h
  have hu := hu_n hr 0 (by decide)
  have z8 : 8 ≤ sizeLine := small (by decide)
  refine ⟨_, (pss_cons (ps_set (i := 1) sc__law_due.nd rfl (by first | exact Or.inl rfl | exact Or.inr rfl) pe_dnewK)
  (pss_cons (ps_for PassesOwn.never rfl (pi_list (pv 0)) (pg_name (i := 2) sc__law_due.nd rfl (by first | exact Or.inl rfl | exact Or.inr rfl))
  (pss_cons (PS.weak (t' := WDu K) (ps_if (pt_cmp (pc_dnotin hu (pe_ix ix_tup (pv 2) pe_int (fun _ _ => rfl)) (pv 1))) (pss_one (ps_dput hu (pv 1) (pe_ix ix_tup (pv 2) pe_int (fun _ _ => rfl)) (pe_lst (pa_cons pe_int (pa_cons pe_int (pa_cons pe_int (pa_cons pe_int (pa_cons pe_int (pa_cons pe_int (pa_cons pe_int (pa_cons pe_int pa_nil))))))))) rfl)) pss_nil) ?w1)
  (pss_cons (ps_set (i := 3) sc__law_due.nd rfl (by first | exact Or.inl rfl | exact Or.inr rfl) (pe_dget hu (pv 1) (pe_ix ix_tup (pv 2) pe_int (fun _ _ => rfl)) (fun _ _ => rfl)))
  (pss_cons (ps_if (pt_cmpR op_eq (pe_ix ix_tup (pv 2) pe_int (fun _ _ => rfl)) pe_str (nomark _)) (pss_cons (ps_asg (pe_op op_add (pe_ix ix_list (pv 3) pe_int (fun _ _ => rfl)) (pe_ix ix_tup (pv 2) pe_int (fun _ _ => rfl))) (pg_sub (pv 3) pe_int set_list))
  (pss_one (ps_asg (pe_op op_add (pe_ix ix_list (pv 3) pe_int (fun _ _ => rfl)) (pe_ix ix_tup (pv 2) pe_int (fun _ _ => rfl))) (pg_sub (pv 3) pe_int set_list)))) (pss_one (ps_if (pt_cmpR op_eq (pe_ix ix_tup (pv 2) pe_int (fun _ _ => rfl)) pe_str (nomark _)) (pss_one (ps_asg (pe_op op_add (pe_ix ix_list (pv 3) pe_int (fun _ _ => rfl)) (pe_ix ix_tup (pv 2) pe_int (fun _ _ => rfl))) (pg_sub (pv 3) pe_int set_list))) (pss_cons (ps_set (i := 4) sc__law_due.nd rfl (by first | exact Or.inl rfl | exact Or.inr rfl) (pe_dget hu (pe_disp (pps_cons pe_str pe_int (pps_cons pe_str pe_int (pps_cons pe_str pe_int pps_nil))) rfl rfl (by decide) (by decide)) (pe_ix ix_tup (pv 2) pe_int (fun _ _ => rfl)) (fun _ _ => rfl)))
  (pss_one (ps_asg (pe_op op_add (pe_ix ix_listA (pv 3) (pv 4) (fun _ _ => rfl)) pe_int) (pg_sub (pv 3) (pv 4) set_list)))))))
  (pss_one (ps_if (pt_cmpR op_eq (pe_ix ix_tup (pv 2) pe_int (fun _ _ => rfl)) pe_str (nomark _)) (pss_cons (ps_asg (pe_op op_add (pe_ix ix_list (pv 3) pe_int (fun _ _ => rfl)) (pe_ix ix_tup (pv 2) pe_int (fun _ _ => rfl))) (pg_sub (pv 3) pe_int set_list))
  (pss_one (ps_asg (pe_op op_add (pe_ix ix_list (pv 3) pe_int (fun _ _ => rfl)) (pe_ix ix_tup (pv 2) pe_int (fun _ _ => rfl))) (pg_sub (pv 3) pe_int set_list)))) pss_nil))))))
  (pss_one (ps_ret (pv 1))))), ?_⟩
  case w1 =>
    rintro D σ G ⟨H, ra, d, rs, p, ws, v3, v4, rfl, nd, lr, I, ht, q⟩
    refine ⟨_, rfl, p.1, _, 1, _, rfl, rfl, SqT.of (I.1 _ _ ht), row_pr p.2, _, rfl, d, _, rfl, rget7 (.inl I.2.1) p.2.pr, _, rfl, ?_⟩
    by_cases hm : p.2.pr ∈ prOf rs
    · obtain ⟨w, hw, e, ev, M⟩ := I.there hm
      rw [ev]
      exact iteF (q ws w G M ev)
    · rw [val_no7 (by rw [I.2.2.2.1]; exact hm)]
      refine iteT ⟨z8, fun n nn => ?_⟩
      have k1 := same_new nn (.lst (zeros.map V.int))
      have M := I.fresh nd hm k1 nn upd_same
      have pn := putK_new (V.ref n) (val_no7 (ws := ws) (n := p.2.pr) (by rw [I.2.2.2.1]; exact hm))
      refine ⟨_, rfl, _, rfl, p.1, _, 1, _, rfl, rfl, SqT.of (k1 _ _ (I.1 _ _ ht)), row_pr p.2, d, _, rfl, DPut.k (k := Sum.inr p.2.pr) (k1 _ _ I.2.1) (small1000 (Nat.le_of_lt (I.few lr))), ?_⟩
      rw [pn]
      exact q _ _ _ M M.val
  refine fun d nd => ?_
  have s1 := same_new nd (.dK [])
  refine ⟨_, rfl, ra, rfl, ⟨_, SqL.of (s1 _ _ R.l)⟩, for_list (K := K) (xs := prs.map fun p => V.ref p.1) (fun i σ G => ∃ (ws : List (Str × Addr)) (v2 v3 v4 : Option V), σ = [some (.ref ra), some (.ref d), v2, v3, v4] ∧ SumI H G d ((prs.map (·.2)).take i) ws) ⟨[], _, _, _, rfl, SumI.nil s1⟩ (fun i σ G _ z => ?_) (fun i x σ G hx z => ?_) (fun σ G z => ?_)⟩
  · obtain ⟨ws, _, _, _, _, I⟩ := z
    exact SqL.of (I.1 _ _ R.l)
  · obtain ⟨ws, v2, v3, v4, rfl, I⟩ := z
    obtain ⟨p, ep, rfl⟩ := rows_at hx
    have ht := R.t p (List.mem_of_getElem? ep)
    have lt : ((prs.map (·.2)).take i).length ≤ 900 := by rw [List.length_take, List.length_map]; omega
    refine ⟨H, ra, d, _, p, ws, v3, v4, rfl, nd, lt, I, ht, fun ws' w G2 M ev => ?_⟩
    have g := rget7 (.inl M.hd) p.2.pr
    rw [ev] at g
    have hl := M.at
    refine ⟨_, rfl, _, rfl, p.1, _, 1, _, rfl, rfl, SqT.of (M.sm _ _ ht), row_pr p.2, d, _, rfl, g, ?_⟩
    have l8 : (valOf ((prs.map (·.2)).take i) p.2.pr).length = 8 := valOf_len _ _
    have fin : ∀ G3, SumM H G3 d ((prs.map (·.2)).take i) p.2 ws' w (addE (valOf ((prs.map (·.2)).take i) p.2.pr) p.2.ent) → SumI H G3 d ((prs.map (·.2)).take (i + 1)) ws' := fun G3 M3 => by rw [at_snd ep]; exact M3.done
    generalize valOf ((prs.map (·.2)).take i) p.2.pr = zs at M l8 fin
    obtain ⟨t, r⟩ := p
    clear g hl ev hx
    cases r with
    | load p k n =>
      refine ⟨_, rfl, t, _, 0, _, rfl, rfl, SqT.of (M.sm _ _ ht), rfl, rfl, _, rfl, ?_⟩
      refine ite2 (fun c => no_str (by decide +kernel) c) (fun _ => ?_)
      refine ⟨_, rfl, t, _, 0, _, rfl, rfl, SqT.of (M.sm _ _ ht), rfl, rfl, _, rfl, ?_⟩
      refine ite2 (fun _ => ?_) (fun c => absurd (decide_eq_true rfl) c)
      refine ⟨_, rfl, w.2, _, 0, _, rfl, rfl, SqL.of M.at, at8 l8 (by decide), _, rfl, t, _, 3, _, rfl, rfl, SqT.of (M.sm _ _ ht), rfl, _, _, rfl, rfl, _, rfl, w.2, _, _, 0, rfl, rfl, M.at, ix8 l8 (by decide), ?_⟩
      rw [← List.map_set]
      replace M := M.set ((zs).set 0 ((zs).getD 0 0 + n))
      generalize upd _ w.2 (.lst (List.map V.int ((zs).set 0 ((zs).getD 0 0 + n)))) = G3 at M ⊢
      refine ⟨_, rfl, t, _, 0, _, rfl, rfl, SqT.of (M.sm _ _ ht), rfl, rfl, _, rfl, ?_⟩
      refine ite2 (fun c => no_str (by decide +kernel) c) (fun _ => ?_)
      exact ⟨ws', _, _, _, rfl, fin _ M⟩
    | ink p b c =>
      refine ⟨_, rfl, t, _, 0, _, rfl, rfl, SqT.of (M.sm _ _ ht), rfl, rfl, _, rfl, ?_⟩
      refine ite2 (fun _ => ?_) (fun c => absurd (decide_eq_true rfl) c)
      refine ⟨_, rfl, w.2, _, 4, _, rfl, rfl, SqL.of M.at, at8 l8 (by decide), _, rfl, t, _, 2, _, rfl, rfl, SqT.of (M.sm _ _ ht), rfl, _, _, rfl, rfl, _, rfl, w.2, _, _, 4, rfl, rfl, M.at, ix8 l8 (by decide), ?_⟩
      rw [← List.map_set]
      replace M := M.set ((zs).set 4 ((zs).getD 4 0 + b))
      generalize upd _ w.2 (.lst (List.map V.int ((zs).set 4 ((zs).getD 4 0 + b)))) = G3 at M ⊢
      have l8' : (zs.set 4 (zs.getD 4 0 + b)).length = 8 := by rw [List.length_set, l8]
      refine ⟨_, rfl, w.2, _, 6, _, rfl, rfl, SqL.of M.at, at8 l8' (by decide), _, rfl, t, _, 3, _, rfl, rfl, SqT.of (M.sm _ _ ht), rfl, _, _, rfl, rfl, _, rfl, w.2, _, _, 6, rfl, rfl, M.at, ix8 l8' (by decide), ?_⟩
      rw [← List.map_set]
      replace M := M.set ((zs.set 4 (zs.getD 4 0 + b)).set 6 ((zs.set 4 (zs.getD 4 0 + b)).getD 6 0 + c))
      generalize upd _ w.2 (.lst (List.map V.int ((zs.set 4 (zs.getD 4 0 + b)).set 6 ((zs.set 4 (zs.getD 4 0 + b)).getD 6 0 + c)))) = G3 at M ⊢
      refine ⟨_, rfl, t, _, 0, _, rfl, rfl, SqT.of (M.sm _ _ ht), rfl, rfl, _, rfl, ?_⟩
      refine ite2 (fun c => no_str (by decide +kernel) c) (fun _ => ?_)
      exact ⟨ws', _, _, _, rfl, fin _ M⟩
    | feed p k j m b c =>
      refine ⟨_, rfl, t, _, 0, _, rfl, rfl, SqT.of (M.sm _ _ ht), rfl, rfl, _, rfl, ?_⟩
      refine ite2 (fun c => no_str (by decide +kernel) c) (fun _ => ?_)
      refine ⟨_, rfl, t, _, 0, _, rfl, rfl, SqT.of (M.sm _ _ ht), rfl, rfl, _, rfl, ?_⟩
      refine ite2 (fun c => no_str (by decide +kernel) c) (fun _ => ?_)
      refine fun ip nip => ⟨upd_same, tab7, rfl, by decide, ?_⟩
      rw [mergeK_new (ks := [Sum.inr fdW, Sum.inr otW, Sum.inr lsW]) rfl (by decide +kernel), List.nil_append]
      replace M := M.same (same_on nip (same_new nip (.dK [])) (.dK tab7))
      have hip : upd (upd G2 ip (.dK [])) ip (.dK tab7) ip = some (.dK tab7) := upd_same
      generalize upd (upd G2 ip (.dK [])) ip (.dK tab7) = G4 at M hip ⊢
      have g := rget7 (.inl hip) fdW
      rw [tab7_1] at g
      refine ⟨_, rfl, t, _, 0, _, rfl, rfl, SqT.of (M.sm _ _ ht), rfl, ip, _, rfl, g, ?_⟩
      refine ⟨_, rfl, _, rfl, w.2, _, _, rfl, rfl, SqL.of M.at, by decide, by rw [List.length_map, l8]; decide, fun v hv => ?_⟩
      obtain rfl := at_int7 (j := 1) hv
      refine ⟨_, _, rfl, rfl, _, rfl, _, rfl, w.2, _, _, 1, rfl, rfl, M.at, ix8 l8 (by decide), ?_⟩
      rw [← List.map_set]
      replace M := M.set (zs.set 1 (zs.getD 1 0 + 1))
      generalize upd _ w.2 (.lst (List.map V.int (zs.set 1 (zs.getD 1 0 + 1)))) = G3 at M ⊢
      have l81 : (zs.set 1 (zs.getD 1 0 + 1)).length = 8 := by rw [List.length_set, l8]
      refine ⟨_, rfl, t, _, 0, _, rfl, rfl, SqT.of (M.sm _ _ ht), rfl, rfl, _, rfl, ?_⟩
      refine ite2 (fun _ => ?_) (fun c => absurd (decide_eq_true rfl) c)
      refine ⟨_, rfl, w.2, _, 5, _, rfl, rfl, SqL.of M.at, at8 l81 (by decide), _, rfl, t, _, 5, _, rfl, rfl, SqT.of (M.sm _ _ ht), rfl, _, _, rfl, rfl, _, rfl, w.2, _, _, 5, rfl, rfl, M.at, ix8 l81 (by decide), ?_⟩
      rw [← List.map_set]
      replace M := M.set ((zs.set 1 (zs.getD 1 0 + 1)).set 5 ((zs.set 1 (zs.getD 1 0 + 1)).getD 5 0 + b))
      generalize upd _ w.2 (.lst (List.map V.int ((zs.set 1 (zs.getD 1 0 + 1)).set 5 ((zs.set 1 (zs.getD 1 0 + 1)).getD 5 0 + b)))) = G3 at M ⊢
      have l82 : ((zs.set 1 (zs.getD 1 0 + 1)).set 5 ((zs.set 1 (zs.getD 1 0 + 1)).getD 5 0 + b)).length = 8 := by rw [List.length_set, l81]
      refine ⟨_, rfl, w.2, _, 7, _, rfl, rfl, SqL.of M.at, at8 l82 (by decide), _, rfl, t, _, 6, _, rfl, rfl, SqT.of (M.sm _ _ ht), rfl, _, _, rfl, rfl, _, rfl, w.2, _, _, 7, rfl, rfl, M.at, ix8 l82 (by decide), ?_⟩
      rw [← List.map_set]
      replace M := M.set (((zs.set 1 (zs.getD 1 0 + 1)).set 5 ((zs.set 1 (zs.getD 1 0 + 1)).getD 5 0 + b)).set 7 (((zs.set 1 (zs.getD 1 0 + 1)).set 5 ((zs.set 1 (zs.getD 1 0 + 1)).getD 5 0 + b)).getD 7 0 + c))
      generalize upd _ w.2 (.lst (List.map V.int (((zs.set 1 (zs.getD 1 0 + 1)).set 5 ((zs.set 1 (zs.getD 1 0 + 1)).getD 5 0 + b)).set 7 (((zs.set 1 (zs.getD 1 0 + 1)).set 5 ((zs.set 1 (zs.getD 1 0 + 1)).getD 5 0 + b)).getD 7 0 + c)))) = G3 at M ⊢
      exact ⟨ws', _, _, _, rfl, fin _ M⟩
    | out p j m =>
      refine ⟨_, rfl, t, _, 0, _, rfl, rfl, SqT.of (M.sm _ _ ht), rfl, rfl, _, rfl, ?_⟩
      refine ite2 (fun c => no_str (by decide +kernel) c) (fun _ => ?_)
      refine ⟨_, rfl, t, _, 0, _, rfl, rfl, SqT.of (M.sm _ _ ht), rfl, rfl, _, rfl, ?_⟩
      refine ite2 (fun c => no_str (by decide +kernel) c) (fun _ => ?_)
      refine fun ip nip => ⟨upd_same, tab7, rfl, by decide, ?_⟩
      rw [mergeK_new (ks := [Sum.inr fdW, Sum.inr otW, Sum.inr lsW]) rfl (by decide +kernel), List.nil_append]
      replace M := M.same (same_on nip (same_new nip (.dK [])) (.dK tab7))
      have hip : upd (upd G2 ip (.dK [])) ip (.dK tab7) ip = some (.dK tab7) := upd_same
      generalize upd (upd G2 ip (.dK [])) ip (.dK tab7) = G4 at M hip ⊢
      have g := rget7 (.inl hip) otW
      rw [tab7_2] at g
      refine ⟨_, rfl, t, _, 0, _, rfl, rfl, SqT.of (M.sm _ _ ht), rfl, ip, _, rfl, g, ?_⟩
      refine ⟨_, rfl, _, rfl, w.2, _, _, rfl, rfl, SqL.of M.at, by decide, by rw [List.length_map, l8]; decide, fun v hv => ?_⟩
      obtain rfl := at_int7 (j := 2) hv
      refine ⟨_, _, rfl, rfl, _, rfl, _, rfl, w.2, _, _, 2, rfl, rfl, M.at, ix8 l8 (by decide), ?_⟩
      rw [← List.map_set]
      replace M := M.set (zs.set 2 (zs.getD 2 0 + 1))
      generalize upd _ w.2 (.lst (List.map V.int (zs.set 2 (zs.getD 2 0 + 1)))) = G3 at M ⊢
      refine ⟨_, rfl, t, _, 0, _, rfl, rfl, SqT.of (M.sm _ _ ht), rfl, rfl, _, rfl, ?_⟩
      refine ite2 (fun c => no_str (by decide +kernel) c) (fun _ => ?_)
      exact ⟨ws', _, _, _, rfl, fin _ M⟩
    | lost p j m =>
      refine ⟨_, rfl, t, _, 0, _, rfl, rfl, SqT.of (M.sm _ _ ht), rfl, rfl, _, rfl, ?_⟩
      refine ite2 (fun c => no_str (by decide +kernel) c) (fun _ => ?_)
      refine ⟨_, rfl, t, _, 0, _, rfl, rfl, SqT.of (M.sm _ _ ht), rfl, rfl, _, rfl, ?_⟩
      refine ite2 (fun c => no_str (by decide +kernel) c) (fun _ => ?_)
      refine fun ip nip => ⟨upd_same, tab7, rfl, by decide, ?_⟩
      rw [mergeK_new (ks := [Sum.inr fdW, Sum.inr otW, Sum.inr lsW]) rfl (by decide +kernel), List.nil_append]
      replace M := M.same (same_on nip (same_new nip (.dK [])) (.dK tab7))
      have hip : upd (upd G2 ip (.dK [])) ip (.dK tab7) ip = some (.dK tab7) := upd_same
      generalize upd (upd G2 ip (.dK [])) ip (.dK tab7) = G4 at M hip ⊢
      have g := rget7 (.inl hip) lsW
      rw [tab7_3] at g
      refine ⟨_, rfl, t, _, 0, _, rfl, rfl, SqT.of (M.sm _ _ ht), rfl, ip, _, rfl, g, ?_⟩
      refine ⟨_, rfl, _, rfl, w.2, _, _, rfl, rfl, SqL.of M.at, by decide, by rw [List.length_map, l8]; decide, fun v hv => ?_⟩
      obtain rfl := at_int7 (j := 3) hv
      refine ⟨_, _, rfl, rfl, _, rfl, _, rfl, w.2, _, _, 3, rfl, rfl, M.at, ix8 l8 (by decide), ?_⟩
      rw [← List.map_set]
      replace M := M.set (zs.set 3 (zs.getD 3 0 + 1))
      generalize upd _ w.2 (.lst (List.map V.int (zs.set 3 (zs.getD 3 0 + 1)))) = G3 at M ⊢
      refine ⟨_, rfl, t, _, 0, _, rfl, rfl, SqT.of (M.sm _ _ ht), rfl, rfl, _, rfl, ?_⟩
      refine ite2 (fun c => no_str (by decide +kernel) c) (fun _ => ?_)
      exact ⟨ws', _, _, _, rfl, fin _ M⟩
  · obtain ⟨ws, v2, v3, v4, rfl, I⟩ := z
    have et : (prs.map (·.2)).take (prs.map fun p => V.ref p.1).length = prs.map (·.2) := List.take_of_length_le (by rw [List.length_map, List.length_map]; exact Nat.le_refl _)
    rw [et] at I
    exact ⟨_, rfl, q d ws G nd I⟩
theorem flat_ints7 (l : List Int) : (l.map V.int).all flatV = true := List.all_eq_true.mpr fun v hv => by
  obtain ⟨z, _, rfl⟩ := List.mem_map.mp hv
  rfl
theorem flat_strs7 (l : List Str) : (l.map V.str).all flatV = true := List.all_eq_true.mpr fun v hv => by
  obtain ⟨z, _, rfl⟩ := List.mem_map.mp hv
  rfl
theorem eqs_ints7 (l : List Int) : eqVs (l.map V.int) (l.map V.int) = true := eqVs_refl (flat_ints7 l)
theorem eqs_strs7 (l : List Str) : eqVs (l.map V.str) (l.map V.str) = true := eqVs_refl (flat_strs7 l)
def sp__law_alike (_K : PySem.W.Frag) : Sp := fun vs H Q _ => ∃ fa da ws ws' f, vs = [.ref fa, .ref da] ∧ fa ≠ da ∧ H fa = some (.dK (wD7 ws)) ∧ H da = some (.dK (wD7 ws')) ∧ DictL H fa ws f ∧ DictL H da ws' f ∧ ws.map (·.1) = ws'.map (·.1) ∧ (∀ q, (f q).length = 8) ∧ ∀ H', Same H H' → Q (.bl true) H'
theorem sc__law_alike : FnScope ["_law_found", "_law_due_here", "_law_printer", "_law_line", "_law_number_here"] ["_law_found", "_law_due_here"] (defScope s__law_alike) := ⟨rfl, rfl, rfl, by decide +kernel, rfl, by decide +kernel, by decide +kernel⟩
theorem ok__law_alike {fa cBook : Addr} {fd : FuncData} (F : Fun K "_law_alike" "_law_alike" s__law_alike fa fd) (T : Txt K mg cBook) (D__law_whole : Dfn P w K mg base 1 "_law_whole" ["_law_found"] (sp__law_whole K)) :
    FnOk P w K mg base CX0 2 fa fd ["_law_found", "_law_due_here"] (sp__law_alike K) := by
  refine F.ok sc__law_alike (fun vs H Q E h => ?_) (fun cdv A outer s H vs Q E hr h => ?_)
  · obtain ⟨fa, da, ws, ws', f, rfl, _⟩ := h
    rfl
  obtain ⟨fa', da, ws, ws', f, rfl, ne, hf, hd, Df, Dd, nm, l8, q⟩ := h
  have hu := hu_n hr 0 (by decide)
  have hu0 := Nat.lt_of_le_of_lt (Nat.le_add_right _ _) hu
  refine ⟨_, (pss_cons (ps_if (PW.pt (pw_or (pt_not (pt_truth (pe_callB call_isi rfl T.isinstance bt_isi (pa_cons (pv 0) (pa_cons (pe_bltn rfl T.dict bt_dict (rel_ty _)) pa_nil))) (fun _ => rfl))) (pw_or1 (pt_cmpR (op_ne_list hu0) (pe_callTy (call_list_dict rfl) rfl T.list bt_list (pa_cons (pv 0) pa_nil)) (pe_callTy (call_list_dict rfl) rfl T.list bt_list (pa_cons (pv 1) pa_nil)) (nomark _))))) (pss_one (ps_ret pe_bl)) pss_nil)
  (pss_cons (ps_frz (ps_for PassesOwn.never rfl (pi_dict (pv 1)) (pg_name (i := 2) sc__law_alike.nd rfl (by first | exact Or.inl rfl | exact Or.inr rfl))
  (pss_cons (ps_set (i := 3) sc__law_alike.nd rfl (by first | exact Or.inl rfl | exact Or.inr rfl) (pe_dget hu (pv 0) (pv 2) (fun _ _ => rfl)))
  (pss_cons (ps_if (PW.pt (pw_or (pt_not (pt_truth (pe_callB call_isi rfl T.isinstance bt_isi (pa_cons (pv 3) (pa_cons (pe_bltn rfl T.list bt_list (rel_ty _)) pa_nil))) (fun _ => rfl))) (pw_or (pt_cmpR op_ne (pe_callB call_len_seq rfl T.len PySem.boot_len (pa_cons (pv 3) pa_nil)) pe_int (nomark _)) (pw_or1 (pt_cmpR (op_ne_list hu0) (pv 3) (pe_dget hu (pv 1) (pv 2) (fun _ _ => rfl)) (nomark _)))))) (pss_one (ps_ret pe_bl)) pss_nil)
  (pss_one (ps_for PassesOwn.never rfl (pi_list (pv 3)) (pg_name (i := 4) sc__law_alike.nd rfl (by first | exact Or.inl rfl | exact Or.inr rfl))
  (pss_one (ps_if (pt_not (pt_truth (pe_callD D__law_whole (hr.mono (by decide)) rfl (pa_cons (pv 4) pa_nil)) (fun _ => rfl))) (pss_one (ps_ret pe_bl)) pss_nil))))))))
  (pss_one (ps_ret pe_bl)))), ?_⟩
  refine ⟨_, rfl, _, _, _, true, rfl, TyOf.dK hf, kit_same _, true, rfl, iteF ?_⟩
  refine ⟨_, rfl, fa', _, rfl, hf, fun l1 n1 => ?_⟩
  rw [wD7_keys]
  have k1 := same_new n1 (.lst ((ws.map (·.1)).map V.str))
  have h1 : upd H l1 (.lst ((ws.map (·.1)).map V.str)) l1 = some (.lst ((ws.map (·.1)).map V.str)) := upd_same
  generalize upd H l1 (.lst ((ws.map (·.1)).map V.str)) = H1 at k1 h1 ⊢
  refine ⟨_, rfl, da, _, rfl, k1 _ _ hd, fun l2 n2 => ?_⟩
  rw [wD7_keys, ← nm]
  have k2 := same_new n2 (.lst ((ws.map (·.1)).map V.str))
  have h2 : upd H1 l2 (.lst ((ws.map (·.1)).map V.str)) l2 = some (.lst ((ws.map (·.1)).map V.str)) := upd_same
  generalize upd H1 l2 (.lst ((ws.map (·.1)).map V.str)) = H2 at k2 h2 ⊢
  refine ⟨l1, l2, _, _, rfl, rfl, SqL.of (k2 _ _ h1), SqL.of h2, flat_strs7 _, flat_strs7 _, _, rfl, ?_⟩
  rw [if_pos rfl, eqs_strs7]
  have s2 := k1.trans k2
  have hd2 := s2 _ _ hd
  have Dd2 := Dd.same s2
  have Df2 := Df.same s2
  have hf2 := s2 _ _ hf
  refine iteF ⟨da, _, hd2, fun o => ⟨_, rfl, da, o, _, rfl, upd_same, ?_⟩⟩
  refine for_seqB (seq_dict (H1 := upd H2 da (.frz o (.dK (wD7 ws')))) upd_same) (fun i σ G => (∃ v2 v3 v4, σ = [some (.ref fa'), some (.ref da), v2, v3, v4]) ∧ Same (upd H2 da (.frz o (.dK (wD7 ws')))) G) ⟨⟨_, _, _, rfl⟩, Same.refl _⟩ (fun i σ G z => z.2) (fun i y σ G hy z => ?_) (fun σ G z => ?_)
  · obtain ⟨⟨v2, v3, v4, rfl⟩, sG⟩ := z
    obtain ⟨w', ew', rfl⟩ := wD7_at hy
    obtain ⟨DG, kG, fG, _⟩ := frz7 Dd2 hd2 sG
    have ew : (ws.map (·.1))[i]? = some w'.1 := by rw [nm, List.getElem?_map, ew']; rfl
    rw [List.getElem?_map] at ew
    obtain ⟨w1, ew1, e1⟩ := Option.map_eq_some_iff.mp ew
    have m1 := List.mem_of_getElem? ew1
    have m' := List.mem_of_getElem? ew'
    have hfG := kG _ _ ne hf2
    have h1G := kG _ _ (ne_of (Df2.l w1 m1) hd2 (by intro z; cases z)) (Df2.l w1 m1)
    rw [show w1.1 = w'.1 from e1] at h1G
    have h2G := DG.l w' m'
    have g1 := rget7 (.inl hfG) w1.1
    rw [val_w7 Df.nd m1, show w1.1 = w'.1 from e1] at g1
    have g2 := rget7 DG.d w'.1
    rw [val_w7 Dd.nd m'] at g2
    refine ⟨_, rfl, _, rfl, fa', _, rfl, g1, ?_⟩
    refine ⟨_, rfl, _, _, _, true, rfl, TyOf.lst h1G, kit_same _, true, rfl, iteF ?_⟩
    refine ⟨_, rfl, w1.2, _, rfl, .inl (SqL.of h1G), rfl, _, rfl, ?_⟩
    refine ite2 (fun c => ?_) (fun _ => ?_)
    · rw [List.length_map, l8] at c
      exact absurd c (by decide)
    refine ⟨_, rfl, _, rfl, _, rfl, da, _, rfl, g2, w1.2, w'.2, _, _, rfl, rfl, SqL.of h1G, SqL.of h2G, flat_ints7 _, flat_ints7 _, _, rfl, ?_⟩
    rw [if_pos rfl, eqs_ints7]
    refine iteF ⟨_, rfl, w1.2, rfl, ⟨_, SqL.of h1G⟩, for_list (K := K) (xs := (f w'.1).map V.int) (fun j σ G' => (∃ v4, σ = [some (.ref fa'), some (.ref da), some (.str w'.1), some (.ref w1.2), v4]) ∧ G' = G) ⟨⟨_, rfl⟩, rfl⟩ (fun j σ G' _ z => ?_) (fun j x σ G' hx z => ?_) (fun σ G' z => ?_)⟩
    · obtain ⟨_, rfl⟩ := z
      exact SqL.of h1G
    · obtain ⟨⟨v4', rfl⟩, rfl⟩ := z
      obtain rfl := at_int7 hx
      exact ⟨_, rfl, _, rfl, true, rfl, iteF ⟨⟨_, rfl⟩, rfl⟩⟩
    · obtain ⟨⟨v4', rfl⟩, rfl⟩ := z
      exact ⟨⟨_, _, _, rfl⟩, sG⟩
  · obtain ⟨⟨v2, v3, v4, rfl⟩, sG⟩ := z
    obtain ⟨DG, kG, fG, sE⟩ := frz7 Dd2 hd2 sG
    exact ⟨fG, q _ (s2.trans sE)⟩

end
end My

namespace My
open PySem L2
open Blk (sg sg_inj sg_app)
section
variable {P : Program} {w : World} {K : PySem.W.Frag} {mg : Str → Option Value} {base : Heap}
def sp__law_is_told (C : Addr) : Sp := fun vs H Q _ => ∃ x r ra prs, vs = [.ref x, .ref ra] ∧ BookAt C H x r (prs.map fun p => .ref p.1) ∧ RowsAt H ra prs ∧ prs.length ≤ 900 ∧ ∀ H', Same H H' → Q (.bl true) H'
theorem sc__law_is_told : FnScope ["_law_book", "_law_rows", "_law_told", "_law_row"] ["_law_book", "_law_rows"] (defScope s__law_is_told) := ⟨rfl, rfl, rfl, by decide +kernel, rfl, by decide +kernel, by decide +kernel⟩
theorem ok__law_is_told {fa cBook : Addr} {fd : FuncData} (F : Fun K "_law_is_told" "_law_is_told" s__law_is_told fa fd) (T : Txt K mg cBook) (D_Book_told : MtE P w K mg base 1 "told" cBook ["self"] (sp_Book_told cBook)) :
    FnOk P w K mg base CX0 2 fa fd ["_law_book", "_law_rows"] (sp__law_is_told cBook) := by
  refine F.ok sc__law_is_told (fun vs H Q E h => ?_) (fun cdv A outer s H vs Q E hr h => ?_)
  · obtain ⟨x, r, ra, prs, rfl, _⟩ := h
    rfl
  obtain ⟨x, r, ra, prs, rfl, B, R, lp, q⟩ := h
  have hu1 := hu_n hr 1 (by decide)
  have z4 : 4 ≤ sizeLine := small (by decide)
  refine ⟨_, (pss_cons (ps_set (i := 2) sc__law_is_told.nd rfl (by first | exact Or.inl rfl | exact Or.inr rfl) (pe_methE0 1 passE0 (hr.mono (by decide)) (pv 0)))
  (pss_cons (ps_if (PW.pt (pw_or (pt_not (pt_truth (pe_callB call_isi rfl T.isinstance bt_isi (pa_cons (pv 2) (pa_cons (pe_bltn rfl T.list bt_list (rel_ty _)) pa_nil))) (fun _ => rfl))) (pw_or1 (pt_cmpR (op_ne_dq (n := 1) hu1) (pv 2) (pv 1) (nomark _))))) (pss_one (ps_ret pe_bl)) pss_nil)
  (pss_cons (ps_for PassesOwn.never rfl (pi_list (pv 2)) (pg_name (i := 3) sc__law_is_told.nd rfl (by first | exact Or.inl rfl | exact Or.inr rfl))
  (pss_one (ps_if (pt_not (pt_truth (pe_callB call_isi rfl T.isinstance bt_isi (pa_cons (pv 3) (pa_cons (pe_bltn rfl T.tuple bt_tuple (rel_ty _)) pa_nil))) (fun _ => rfl))) (pss_one (ps_ret pe_bl)) pss_nil)))
  (pss_cons (ps_expr (pe_bm PySem.F.plainAttrs_list PySem.F.slot_list_append PySem.F.type_list_append mt_append (pv 2) (pa_cons (pe_tup (pa_cons pe_str (pa_cons pe_str (pa_cons pe_str (pa_cons pe_int pa_nil))))) pa_nil)))
  (pss_one (ps_ret (pe_cmpR (op_eq_dq (n := 1) hu1) (pe_methE0 1 passE0 (hr.mono (by decide)) (pv 0)) (pv 1) (nomark _)))))))), ?_⟩
  obtain ⟨⟨dx, hx⟩, _⟩ := id B
  refine ⟨_, rfl, x, _, dx, _, _, _, rfl, hx, rfl, T.cl_Book, D_Book_told, x, r, _, rfl, B, fun l nl => ?_⟩
  have s1 := same_new nl (.lst (prs.map fun p => V.ref p.1))
  have h1 : upd H l (.lst (prs.map fun p => V.ref p.1)) l = some (.lst (prs.map fun p => V.ref p.1)) := upd_same
  generalize upd H l (.lst (prs.map fun p => V.ref p.1)) = H1 at s1 h1 ⊢
  have R1 := R.same s1
  have dq := deq_rows (K := K) R1.t
  refine ⟨_, rfl, _, _, _, true, rfl, TyOf.lst h1, kit_same _, true, rfl, iteF ?_⟩
  refine ⟨_, rfl, _, rfl, l, ra, _, _, rfl, rfl, .inl ⟨SqL.of h1, SqL.of R1.l⟩, rfl, dq, _, rfl, iteF ?_⟩
  refine ⟨_, rfl, l, rfl, ⟨_, SqL.of h1⟩, for_list (K := K) (xs := prs.map fun p => V.ref p.1) (fun j σ G' => (∃ v3, σ = [some (.ref x), some (.ref ra), some (.ref l), v3]) ∧ G' = H1) ⟨⟨_, rfl⟩, rfl⟩ (fun j σ G' _ z => ?_) (fun j y σ G' hy z => ?_) (fun σ G' z => ?_)⟩
  · obtain ⟨_, rfl⟩ := z
    exact SqL.of h1
  · obtain ⟨⟨v3, rfl⟩, rfl⟩ := z
    obtain ⟨p, ep, rfl⟩ := rows_at hy
    exact ⟨_, rfl, _, _, _, true, rfl, TyOf.tup (R1.t p (List.mem_of_getElem? ep)), kit_same _, true, rfl, iteF ⟨⟨_, rfl⟩, rfl⟩⟩
  obtain ⟨⟨v3, rfl⟩, rfl⟩ := z
  refine ⟨_, rfl, .inl ⟨rfl, _, SqL.of h1⟩, z4, fun t nt => ?_⟩
  have k2 := same_new nt (.tup [V.str (Str.ofString "out"), V.str (Str.ofString "a"), V.str (Str.ofString "b"), V.int 0])
  generalize upd G' t (.tup [V.str (Str.ofString "out"), V.str (Str.ofString "a"), V.str (Str.ofString "b"), V.int 0]) = H2 at k2 ⊢
  refine ⟨l, _, _, rfl, rfl, k2 _ _ h1, small1000 (by rw [List.length_map]; omega), ?_⟩
  have s3 := same_on nl (s1.trans k2) (.lst ((prs.map fun p => V.ref p.1) ++ [V.ref t]))
  generalize upd H2 l (.lst ((prs.map fun p => V.ref p.1) ++ [V.ref t])) = H3 at s3 ⊢
  refine ⟨_, rfl, x, _, dx, _, _, _, rfl, s3 _ _ hx, rfl, T.cl_Book, D_Book_told, x, r, _, rfl, B.same s3, fun l2 nl2 => ?_⟩
  have s4 := same_new nl2 (.lst (prs.map fun p => V.ref p.1))
  have h4 : upd H3 l2 (.lst (prs.map fun p => V.ref p.1)) l2 = some (.lst (prs.map fun p => V.ref p.1)) := upd_same
  generalize upd H3 l2 (.lst (prs.map fun p => V.ref p.1)) = H4 at s4 h4 ⊢
  have R4 := (R.same s3).same s4
  refine ⟨_, rfl, l2, ra, _, _, rfl, rfl, .inl ⟨SqL.of h4, SqL.of R4.l⟩, rfl, deq_rows (K := K) R4.t, ?_⟩
  exact q _ (s3.trans s4)

end
end My

namespace My
open PySem L2
open Blk (sg sg_inj sg_app)
section
variable {P : Program} {w : World} {K : PySem.W.Frag} {mg : Str → Option Value} {base : Heap}
theorem cut_to7 (xs : List V) (k : Nat) : cutV xs none (some (k : Int)) = xs.take k := by
  unfold cutV
  rw [HT.sIx_nat, HT.sIx_none]
  by_cases h : k ≤ xs.length
  · rw [Nat.min_eq_left h]
    rfl
  · rw [Nat.min_eq_right (by omega), List.drop_zero, Nat.sub_zero, List.take_of_length_le (Nat.le_refl _), List.take_of_length_le (by omega)]
theorem rows_mk {H : Hp} : ∀ {ys : List V}, (∀ (i : Nat) y, ys[i]? = some y → ∃ t r, y = .ref t ∧ H t = some (.tup (Row67.vs r))) → ∃ prs : List (Addr × Row67), ys = prs.map (fun p => .ref p.1) ∧ ∀ p ∈ prs, H p.1 = some (.tup p.2.vs)
  | [], _ => ⟨[], rfl, fun z h => absurd h List.not_mem_nil⟩
  | y :: r, h => by
    obtain ⟨t, w, rfl, hk⟩ := h 0 y rfl
    obtain ⟨zs, rfl, hz⟩ := rows_mk (ys := r) fun i y e => h (i + 1) y e
    refine ⟨(t, w) :: zs, rfl, fun z hz' => ?_⟩
    rcases List.mem_cons.mp hz' with rfl | m
    · exact hk
    · exact hz z m
theorem pick_map {prs : List (Addr × Row67)} (ix : List Nat) : ix.filterMap ((prs.map fun p => V.ref p.1)[·]?) = (ix.filterMap (prs[·]?)).map fun p => V.ref p.1 := by
  induction ix with
  | nil => rfl
  | cons i ix ih =>
    cases e : prs[i]? with
    | none =>
      rw [List.filterMap_cons_none (by rw [List.getElem?_map, e]; rfl), List.filterMap_cons_none e, ih]
    | some p =>
      rw [List.filterMap_cons_some (b := V.ref p.1) (by rw [List.getElem?_map, e]; rfl), List.filterMap_cons_some e, ih]
      rfl
theorem pick_mem {prs : List (Addr × Row67)} {ix : List Nat} {p : Addr × Row67} (h : p ∈ ix.filterMap (prs[·]?)) : p ∈ prs := by
  obtain ⟨i, _, e⟩ := List.mem_filterMap.mp h
  exact List.mem_of_getElem? e
theorem pick_len {prs : List (Addr × Row67)} (ix : List Nat) : (ix.filterMap (prs[·]?)).length ≤ ix.length := List.length_filterMap_le _ _
theorem thirds_len (n : Nat) : (thirds n).length ≤ n := by
  unfold thirds
  exact Nat.le_trans (List.length_filter_le _ _) (by rw [List.length_range]; exact Nat.le_refl _)
theorem thirds_more {prs : List (Addr × Row67)} {i : Nat} {p : Addr × Row67} (e : prs[i]? = some p) : (thirds (i + 1)).filterMap (prs[·]?) = (thirds i).filterMap (prs[·]?) ++ (if i % 3 = 1 then [p] else []) := by
  rw [thirds_succ, List.filterMap_append]
  congr 1
  by_cases c : i % 3 = 1
  · rw [if_pos c, if_pos c, List.filterMap_cons_some e]; rfl
  · rw [if_neg c, if_neg c]; rfl
theorem made_same {H G : Hp} {x dx : Addr} {u v : HO} (nx : H x = none) (nd : H dx = none) (k : ∀ b o, b ≠ x → upd (upd H dx u) x v b = some o → G b = some o) : Same H G := fun b o e => by
  have n1 : b ≠ x := fun z => by rw [z, nx] at e; cases e
  have n2 : b ≠ dx := fun z => by rw [z, nd] at e; cases e
  exact k b o n1 (by rw [upd_ne n1, upd_ne n2]; exact e)
theorem made_free {H : Hp} {x dx r : Addr} {u v : HO} (h : upd (upd H dx u) x v r = none) : H r = none ∧ r ≠ x := by
  have n1 : r ≠ x := fun z => by rw [z, upd_same] at h; cases h
  have n2 : r ≠ dx := fun z => by rw [upd_ne n1, z, upd_same] at h; cases h
  rw [upd_ne n1, upd_ne n2] at h
  exact ⟨h, n1⟩
def W67 (K : PySem.W.Frag) : TS := fun D σ H => ∃ (a h k j : Addr) (m0 : Int), σ = [some (.ref a), some (.ref h), some (.ref k), some (.ref j), some (.int m0), none, none, none, none, none, none, none] ∧ Scr K H a ∧ 0 ≤ m0 ∧ m0 < 31 ∧ ∀ m : Nat, m ≤ 91 → D.nx [some (.ref a), some (.ref h), some (.ref k), some (.ref j), some (.int (m : Int)), none, none, none, none, none, none, none] H
def W3 (K : PySem.W.Frag) (C : Addr) : TS := fun D σ G => ∃ (a h k j ra x y rc : Addr) (m : Int) (i : Nat) (zs : List V) (prs : List (Addr × Row67)) (p : Addr × Row67), σ = [some (.ref a), some (.ref h), some (.ref k), some (.ref j), some (.int m), some (.ref ra), some (.ref x), some (.ref y), some (.int (i : Int)), none, none, none] ∧ RowsAt G ra prs ∧ prs[i]? = some p ∧ i < 900 ∧ BookAt C G y rc zs ∧ zs.length ≤ 900 ∧ ∀ G', G' = (if i % 3 = 1 then upd G rc (.lst (zs ++ [.ref p.1])) else G) → D.nx [some (.ref a), some (.ref h), some (.ref k), some (.ref j), some (.int m), some (.ref ra), some (.ref x), some (.ref y), some (.int (i : Int)), none, none, none] G'
def sp_law (K : PySem.W.Frag) : Sp := fun vs H Q _ => ∃ a : Addr, vs = [.ref a] ∧ Scr K H a ∧ ∀ H', Q (.bl true) H'
theorem sc_law : FnScope ["_law_script", "_law_halls", "_law_kinds", "_law_jobs", "_law_many", "_law_rows", "_law_book", "_law_other", "_law_k", "_law_handed", "_law_found", "_law_printer"] ["_law_script"] (defScope s_law) := ⟨rfl, rfl, rfl, by decide +kernel, rfl, by decide +kernel, by decide +kernel⟩
theorem ok_law {fa cBook : Addr} {fd : FuncData} (F : Fun K "law" "law" s_law fa fd) (T : Txt K mg cBook) (D__law_names : Dfn P w K mg base 2 "_law_names" ["_law_script", "_law_k", "_law_many"] (sp__law_names K)) (D__law_draw : Dfn P w K mg base 1 "_law_draw" ["_law_script", "_law_k", "_law_many"] (sp__law_draw K)) (M_Book : MkD P w K mg base 1 "Book" cBook ["self"] (sp_Book_init cBook)) (D_sums : Dfn P w K mg base 2 "sums" ["rows"] (sp_sums K)) (D__law_any_row : Dfn P w K mg base 3 "_law_any_row" ["_law_script", "_law_k", "_law_halls", "_law_kinds", "_law_jobs"] (sp__law_any_row K)) (D__law_is_told : Dfn P w K mg base 2 "_law_is_told" ["_law_book", "_law_rows"] (sp__law_is_told cBook)) (D__law_alike : Dfn P w K mg base 2 "_law_alike" ["_law_found", "_law_due_here"] (sp__law_alike K)) (D__law_due : Dfn P w K mg base 1 "_law_due" ["_law_rows"] (sp__law_due K)) (D_Book_write : MtE P w K mg base 1 "write" cBook ["self", "row"] (sp_Book_write cBook)) (D_Book_told : MtE P w K mg base 1 "told" cBook ["self"] (sp_Book_told cBook)) :
    FnOk P w K mg base CX0 4 fa fd ["_law_script"] (sp_law K) := by
  refine F.ok sc_law (fun vs H Q E h => ?_) (fun cdv A outer s H vs Q E hr h => ?_)
  · obtain ⟨a, rfl, _⟩ := h
    rfl
  obtain ⟨a, rfl, hS, q⟩ := h
  have hu := hu_n hr 0 (by decide)
  have hu0 := Nat.lt_of_le_of_lt (Nat.le_add_right _ _) hu
  have hu1 := hu_n hr 1 (by decide)
  refine ⟨_, (pss_cons (ps_set (i := 1) sc_law.nd rfl (by first | exact Or.inl rfl | exact Or.inr rfl) (pe_callD D__law_names (hr.mono (by decide)) rfl (pa_cons (pv 0) (pa_cons pe_int (pa_cons pe_int pa_nil)))))
  (pss_cons (ps_set (i := 2) sc_law.nd rfl (by first | exact Or.inl rfl | exact Or.inr rfl) (pe_callD D__law_names (hr.mono (by decide)) rfl (pa_cons (pv 0) (pa_cons pe_int (pa_cons pe_int pa_nil)))))
  (pss_cons (ps_set (i := 3) sc_law.nd rfl (by first | exact Or.inl rfl | exact Or.inr rfl) (pe_callD D__law_names (hr.mono (by decide)) rfl (pa_cons (pv 0) (pa_cons pe_int (pa_cons pe_int pa_nil)))))
  (pss_cons (ps_set (i := 4) sc_law.nd rfl (by first | exact Or.inl rfl | exact Or.inr rfl) (pe_callD D__law_draw (hr.mono (by decide)) rfl (pa_cons (pv 0) (pa_cons pe_int (pa_cons pe_int pa_nil)))))
  (pss_cons (PS.weak (t' := W67 K) (ps_if (pt_cmpR op_eq (pe_callD D__law_draw (hr.mono (by decide)) rfl (pa_cons (pv 0) (pa_cons pe_int (pa_cons pe_int pa_nil)))) pe_int (nomark _)) (pss_one (ps_set (i := 4) sc_law.nd rfl (by first | exact Or.inl rfl | exact Or.inr rfl) (pe_op op_add pe_int (pe_callD D__law_draw (hr.mono (by decide)) rfl (pa_cons (pv 0) (pa_cons pe_int (pa_cons pe_int pa_nil))))))) pss_nil) ?w1)
  (pss_cons (ps_comp (i := 5) (frees := [("_law_script", 0), ("_law_halls", 1), ("_law_kinds", 2), ("_law_jobs", 3)]) ⟨by decide +kernel, rfl, rfl, by decide +kernel, ⟨⟨rfl, rfl, rfl, by decide +kernel⟩, ⟨⟨rfl, rfl, rfl, by decide +kernel⟩, ⟨⟨rfl, rfl, rfl, by decide +kernel⟩, ⟨⟨rfl, rfl, rfl, by decide +kernel⟩, trivial⟩⟩⟩⟩, by decide +kernel, cellsFor_at rfl, rfl⟩ sc_law.nd rfl rfl rfl (pi_range1 rfl T.range (pa_cons (pv 4) pa_nil)) (fun _ _ _ _ => pifs_nil) (fun _ _ _ _ => by exact (pe_callD D__law_any_row (hr.mono (by decide)) rfl (pa_cons (pv 1) (pa_cons (pe_op op_add pe_int (pe_op op_mul pe_int (pv 0))) (pa_cons (pv 2) (pa_cons (pv 3) (pa_cons (pv 4) pa_nil))))))))
  (pss_cons (ps_set (i := 6) sc_law.nd rfl (by first | exact Or.inl rfl | exact Or.inr rfl) (pe_makeD0 M_Book (hr.mono (by decide)) rfl))
  (pss_cons (ps_set (i := 7) sc_law.nd rfl (by first | exact Or.inl rfl | exact Or.inr rfl) (pe_makeD0 M_Book (hr.mono (by decide)) rfl))
  (pss_cons (ps_if (pt_not (pt_truth (pe_callD D__law_is_told (hr.mono (by decide)) rfl (pa_cons (pv 6) (pa_cons (pe_lst pa_nil) pa_nil))) (fun _ => rfl))) (pss_one (ps_ret pe_bl)) pss_nil)
  (pss_cons (ps_for PassesOwn.never rfl (pi_range1 rfl T.range (pa_cons (pv 4) pa_nil)) (pg_name (i := 8) sc_law.nd rfl (by first | exact Or.inl rfl | exact Or.inr rfl))
  (pss_cons (ps_if (pt_cmpR op_notN (pe_methE 1 passE0 (hr.mono (by decide)) (pv 6) (pa_cons (pe_ix ix_listA (pv 5) (pv 8) (fun _ _ => rfl)) pa_nil)) pe_non (nomark _)) (pss_one (ps_ret pe_bl)) pss_nil)
  (pss_cons (PS.weak (t' := W3 K cBook) (ps_if (pt_cmpR op_eq (pe_op op_mod (pv 8) pe_int) pe_int (nomark _)) (pss_one (ps_expr (pe_methE 1 passE0 (hr.mono (by decide)) (pv 7) (pa_cons (pe_ix ix_listA (pv 5) (pv 8) (fun _ _ => rfl)) pa_nil)))) pss_nil) ?w2)
  (pss_one (ps_if (PW.pt (pw_and (pt_cmpR op_eq (pv 8) (pe_callD D__law_draw (hr.mono (by decide)) rfl (pa_cons (pv 0) (pa_cons pe_int (pa_cons pe_int pa_nil)))) (nomark _)) (pw_and1 (pt_not (pt_truth (pe_callD D__law_is_told (hr.mono (by decide)) rfl (pa_cons (pv 6) (pa_cons (pe_slice sl_list (pv 5) po_none (po_some (pe_op op_add (pv 8) pe_int))) pa_nil))) (fun _ => rfl)))))) (pss_one (ps_ret pe_bl)) pss_nil)))))
  (pss_cons (ps_if (PW.pt (pw_or (pt_not (pt_truth (pe_callD D__law_is_told (hr.mono (by decide)) rfl (pa_cons (pv 6) (pa_cons (pv 5) pa_nil))) (fun _ => rfl))) (pw_or1 (pt_not (pt_truth (pe_callD D__law_is_told (hr.mono (by decide)) rfl (pa_cons (pv 7) (pa_cons (pe_slice3 (pv 5) (po_some pe_int) po_none (po_some pe_int)) pa_nil))) (fun _ => rfl)))))) (pss_one (ps_ret pe_bl)) pss_nil)
  (pss_cons (ps_set (i := 9) sc_law.nd rfl (by first | exact Or.inl rfl | exact Or.inr rfl) (pe_callTy call_list_of rfl T.list bt_list (pa_cons (pv 5) pa_nil)))
  (pss_cons (ps_set (i := 10) sc_law.nd rfl (by first | exact Or.inl rfl | exact Or.inr rfl) (pe_callD D_sums (hr.mono (by decide)) rfl (pa_cons (pv 9) pa_nil)))
  (pss_cons (ps_if (PW.pt (pw_or (pt_not (pt_truth (pe_callD D__law_alike (hr.mono (by decide)) rfl (pa_cons (pv 10) (pa_cons (pe_callD D__law_due (hr.mono (by decide)) rfl (pa_cons (pv 5) pa_nil)) pa_nil))) (fun _ => rfl))) (pw_or (pt_cmpR (op_ne_dq (n := 1) hu1) (pv 9) (pv 5) (nomark _)) (pw_or1 (pt_cmpR (op_ne_d hu0) (pe_callD D_sums (hr.mono (by decide)) rfl (pa_cons (pe_lst pa_nil) pa_nil)) pe_dnewK (nomark _)))))) (pss_one (ps_ret pe_bl)) pss_nil)
  (pss_cons (ps_for PassesOwn.never rfl (pi_list (pe_callTy (call_list_dict rfl) rfl T.list bt_list (pa_cons (pv 10) pa_nil))) (pg_name (i := 11) sc_law.nd rfl (by first | exact Or.inl rfl | exact Or.inr rfl))
  (pss_one (ps_expr (pe_bm PySem.F.plainAttrs_list PySem.F.slot_list_append PySem.F.type_list_append mt_append (pe_dget hu (pv 10) (pv 11) (fun _ _ => rfl)) (pa_cons pe_int pa_nil)))))
  (pss_cons (ps_dput hu (pv 10) pe_str (pe_lst pa_nil) rfl)
  (pss_one (ps_ret (pe_and (pe_callD D__law_alike (hr.mono (by decide)) rfl (pa_cons (pe_callD D_sums (hr.mono (by decide)) rfl (pa_cons (pv 9) pa_nil)) (pa_cons (pe_callD D__law_due (hr.mono (by decide)) rfl (pa_cons (pv 5) pa_nil)) pa_nil))) (pe_one (pe_callD D__law_alike (hr.mono (by decide)) rfl (pa_cons (pe_callD D_sums (hr.mono (by decide)) rfl (pa_cons (pe_methE0 1 passE0 (hr.mono (by decide)) (pv 7)) pa_nil)) (pa_cons (pe_callD D__law_due (hr.mono (by decide)) rfl (pa_cons (pe_slice3 (pv 5) (po_some pe_int) po_none (po_some pe_int)) pa_nil)) pa_nil))))))))))))))))))))))), ?_⟩
  case w1 =>
    rintro D σ H ⟨a, h, k, j, m0, rfl, hS, m00, m01, q⟩
    refine ⟨_, rfl, a, 1, 6, rfl, hS, by decide, by decide, by decide, fun r _ _ => ⟨rfl, _, rfl, ite2 (fun _ => ?_) (fun _ => ?_)⟩⟩
    · refine ⟨_, rfl, a, 2, 60, rfl, hS, by decide, by decide, by decide, fun r r0 r1 => ⟨_, _, rfl, rfl, ?_⟩⟩
      have := q (31 + r).toNat (by omega)
      rw [Int.toNat_of_nonneg (by omega)] at this
      exact this
    · have := q m0.toNat (by omega)
      rw [Int.toNat_of_nonneg m00] at this
      exact this
  case w2 =>
    rintro D σ G ⟨a, h, k, j, ra, x, y, rc, m, i, zs, prs, p, rfl, R, ep, i9, B, lz, q⟩
    obtain ⟨⟨dy, hy⟩, hc⟩ := id B
    refine ⟨_, rfl, _, _, rfl, rfl, (by show (0 : Int) < 3; decide), rfl, _, rfl, ite2 (fun c => ?_) (fun c => ?_)⟩
    · have c' : i % 3 = 1 := by
        have := of_decide_eq_true c
        injection this with this
        omega
      refine ⟨_, rfl, y, _, dy, _, _, _, rfl, hy, rfl, T.cl_Book, D_Book_write, _, rfl, _, rfl, ra, _, _, rfl, rfl, SqL.of R.l, by omega, ?_, fun v hv => ?_⟩
      · rw [List.length_map]
        have := (List.getElem?_eq_some_iff.mp ep).1
        omega
      rw [Int.toNat_natCast, List.getElem?_map, ep] at hv
      obtain rfl : V.ref p.1 = v := Option.some.inj hv
      exact ⟨y, rc, zs, _, rfl, B, lz, q _ (by rw [if_pos c'])⟩
    · have c' : ¬ i % 3 = 1 := fun z => c (by
        refine decide_eq_true ?_
        show V.int ((i : Int) % 3) = V.int 1
        congr 1
        omega)
      exact q _ (by rw [if_neg c'])
  refine ⟨_, rfl, a, 10, 3, rfl, hS, by decide, by decide, by decide, fun h hs H1 s1 nh hh l1 => ?_⟩
  refine ⟨_, rfl, a, 30, 3, rfl, hS.same s1, by decide, by decide, by decide, fun k ks H2 s2 nk hk l2 => ?_⟩
  refine ⟨_, rfl, a, 50, 3, rfl, (hS.same s1).same s2, by decide, by decide, by decide, fun j js H3 s3 nj hj l3 => ?_⟩
  have S3 := ((hS.same s1).same s2).same s3
  have hh3 := s3 _ _ (s2 _ _ hh)
  have hk3 := s3 _ _ hk
  refine ⟨_, rfl, a, 0, 31, rfl, S3, by decide, by decide, by decide, fun m0 m00 m01 => ?_⟩
  refine ⟨a, h, k, j, m0, rfl, S3, m00, m01, fun m hm => ?_⟩
  refine ⟨_, rfl, _, rfl, by omega, by omega, ?_⟩
  refine compB_mk (seq_range 0 (m : Int).toNat H3) (fun _ y H' => ∃ t r, y = .ref t ∧ H' t = some (.tup (Row67.vs r))) (by rw [List.length_map, List.length_range]; exact small1000 (by omega)) (fun x _ H' R _ rr => rr) (fun x hx G R sG rr => ?_) (fun ra H4 ys s4 nra hra ly gy => ?_)
  · obtain ⟨i, hi, rfl⟩ := List.mem_map.mp hx
    have hi' := List.mem_range.mp hi
    refine ⟨_, rfl, _, rfl, _, _, rfl, rfl, .inl ⟨by decide, by decide⟩, _, _, rfl, rfl, _, rfl, _, rfl, _, rfl, a, h, k, j, _, hs, ks, js, rfl, S3.same sG, by omega, by omega, sG _ _ hh3, sG _ _ hk3, sG _ _ hj, l1, l2, l3, fun t r G1 k1 nt ht => ?_⟩
    exact rr _ _ k1 ⟨fun b => b = t, fun b e => by rw [e]; exact ⟨nt, _, ht⟩, fun H3 e => ⟨t, r, rfl, by rw [e t rfl]; exact ht⟩⟩
  obtain ⟨prs, rfl, ht4⟩ := rows_mk (got_each ly gy)
  rw [List.length_map, List.length_map, List.length_range, Int.toNat_natCast] at ly
  have R4 : RowsAt H4 ra prs := ⟨hra, ht4⟩
  have S4 := S3.same s4
  refine fun x dx nx ndx nxd => ⟨x, dx, rfl, upd_same, fun rb H5 k5 nrb hx hrb => ⟨rfl, ?_⟩⟩
  have s5 := made_same nx ndx k5
  obtain ⟨nrb4, nrbx⟩ := made_free nrb
  refine fun y dy ny ndy nyd => ⟨y, dy, rfl, upd_same, fun rc H6 k6 nrc hy hrc => ⟨rfl, ?_⟩⟩
  have s6 := made_same ny ndy k6
  obtain ⟨nrc5, nrcy⟩ := made_free nrc
  have Bx : BookAt cBook H6 x rb [] := ⟨⟨dx, s6 _ _ hx⟩, s6 _ _ hrb⟩
  have By : BookAt cBook H6 y rc [] := ⟨⟨dy, hy⟩, hrc⟩
  have nbc : rb ≠ rc := ne_of_none hrb nrc5
  refine ⟨_, rfl, Nat.zero_le _, fun e ne => ⟨x, rb, e, [], rfl, Bx.same (same_new ne _), ⟨upd_same, fun p hp => absurd hp List.not_mem_nil⟩, Nat.zero_le _, fun H7 k7 => ⟨true, rfl, iteF ?_⟩⟩⟩
  have s7 : Same H6 H7 := (same_new ne _).trans k7
  have Bx7 := Bx.same s7
  have By7 := By.same s7
  have R7 := ((R4.same s5).same s6).same s7
  have S7 := ((S4.same s5).same s6).same s7
  have nab : ra ≠ rb := ne_of_none hra nrb4
  have nac : ra ≠ rc := ne_of_none (s5 _ _ hra) nrc5
  have off : ∀ {G : Hp}, (∀ b o, b ≠ rb → b ≠ rc → H7 b = some o → G b = some o) → RowsAt G ra prs := fun kp =>
    ⟨kp _ _ nab nac R7.l, fun p hp => kp _ _ (ne_of (R7.t p hp) Bx7.2 (by intro z; cases z)) (ne_of (R7.t p hp) By7.2 (by intro z; cases z)) (R7.t p hp)⟩
  have offS : ∀ {G : Hp}, (∀ b o, b ≠ rb → b ≠ rc → H7 b = some o → G b = some o) → Scr K G a := fun {G} kp => by
    obtain ⟨nsS, hq, hl⟩ := S4.ex
    refine ⟨nsS, ?_, hl⟩
    have k : ∀ o, H4 a = some o → G a = some o := fun o e => kp a o (ne_of_none e nrb4) (ne_of_none (s5 _ _ e) nrc5) (s7 _ _ (s6 _ _ (s5 _ _ e)))
    rcases hq with (h | ⟨o, h⟩) | h
    · exact .inl (.inl (k _ h))
    · exact .inl (.inr ⟨o, k _ h⟩)
    · exact .inr h
  refine ⟨_, rfl, _, rfl, by omega, by omega, for_range (lo := 0) (n := (m : Int).toNat) (fun i σ G => (∃ v8, σ = [some (.ref a), some (.ref h), some (.ref k), some (.ref j), some (.int (m : Int)), some (.ref ra), some (.ref x), some (.ref y), v8, none, none, none]) ∧ BookAt cBook G x rb ((prs.take i).map fun p => .ref p.1) ∧ BookAt cBook G y rc (((thirds i).filterMap (prs[·]?)).map fun p => .ref p.1) ∧ ∀ b o, b ≠ rb → b ≠ rc → H7 b = some o → G b = some o) ⟨⟨_, rfl⟩, Bx7, By7, fun b o _ _ e => e⟩ (fun i σ G hi z => ?_) (fun σ G z => ?_)⟩
  · obtain ⟨⟨v8, rfl⟩, BX, BY, kp⟩ := z
    rw [Int.zero_add]
    have hi' : i < prs.length := by omega
    obtain ⟨p, ep⟩ : ∃ p, prs[i]? = some p := ⟨_, List.getElem?_eq_getElem hi'⟩
    have RG := off kp
    obtain ⟨⟨dx', hx'⟩, hrb'⟩ := id BX
    obtain ⟨⟨dy', hy'⟩, hrc'⟩ := id BY
    refine ⟨_, rfl, x, _, dx', _, _, _, rfl, hx', rfl, T.cl_Book, D_Book_write, _, rfl, _, rfl, ra, _, _, rfl, rfl, SqL.of RG.l, by omega, by rw [List.length_map]; omega, fun v hv => ?_⟩
    rw [Int.toNat_natCast, List.getElem?_map, ep] at hv
    obtain rfl : V.ref p.1 = v := Option.some.inj hv
    refine ⟨x, rb, _, _, rfl, BX, by rw [List.length_map, List.length_take]; omega, rfl, _, rfl, ite2 (fun c => ?_) (fun _ => ?_)⟩
    · simp at c
    have ap : ((prs.take i).map fun p => V.ref p.1) ++ [V.ref p.1] = (prs.take (i + 1)).map fun p => V.ref p.1 := by rw [take_snoc ep, List.map_append]; rfl
    rw [ap]
    have nxb : x ≠ rb := ne_of hx' hrb' (by intro z; cases z)
    have nyb : y ≠ rb := ne_of hy' hrb' (by intro z; cases z)
    have nyc : y ≠ rc := ne_of hy' hrc' (by intro z; cases z)
    have nxc : x ≠ rc := ne_of hx' hrc' (by intro z; cases z)
    have BX1 : BookAt cBook (upd G rb (.lst ((prs.take (i + 1)).map fun p => V.ref p.1))) x rb ((prs.take (i + 1)).map fun p => V.ref p.1) := ⟨⟨dx', by rw [upd_ne nxb]; exact hx'⟩, upd_same⟩
    have BY1 : BookAt cBook (upd G rb (.lst ((prs.take (i + 1)).map fun p => V.ref p.1))) y rc (((thirds i).filterMap (prs[·]?)).map fun p => .ref p.1) := ⟨⟨dy', by rw [upd_ne nyb]; exact hy'⟩, by rw [upd_ne (Ne.symm nbc)]; exact hrc'⟩
    have kp1 : ∀ b o, b ≠ rb → b ≠ rc → H7 b = some o → upd G rb (.lst ((prs.take (i + 1)).map fun p => V.ref p.1)) b = some o := fun b o n1 n2 e => by rw [upd_ne n1]; exact kp b o n1 n2 e
    generalize upd G rb (.lst ((prs.take (i + 1)).map fun p => V.ref p.1)) = G1 at BX1 BY1 kp1 ⊢
    have tl : (((thirds i).filterMap (prs[·]?)).map fun p => V.ref p.1).length ≤ 900 := by
      rw [List.length_map]
      have := pick_len (prs := prs) (thirds i)
      have := thirds_len i
      omega
    refine ⟨a, h, k, j, ra, x, y, rc, m, i, _, prs, p, rfl, off kp1, ep, by omega, BY1, tl, fun G2 eG2 => ?_⟩
    have BX2 : BookAt cBook G2 x rb ((prs.take (i + 1)).map fun p => V.ref p.1) := by
      rw [eG2]
      split
      · obtain ⟨⟨d1, e1⟩, e2⟩ := BX1
        exact ⟨⟨d1, by rw [upd_ne nxc]; exact e1⟩, by rw [upd_ne nbc]; exact e2⟩
      · exact BX1
    have BY2 : BookAt cBook G2 y rc (((thirds (i + 1)).filterMap (prs[·]?)).map fun p => .ref p.1) := by
      rw [eG2, thirds_more ep]
      split
      · obtain ⟨⟨d1, e1⟩, e2⟩ := BY1
        exact ⟨⟨d1, by rw [upd_ne nyc]; exact e1⟩, by rw [upd_same, List.map_append]; rfl⟩
      · rw [List.append_nil]; exact BY1
    have kp2 : ∀ b o, b ≠ rb → b ≠ rc → H7 b = some o → G2 b = some o := fun b o n1 n2 e => by
      rw [eG2]
      split
      · rw [upd_ne n2]; exact kp1 b o n1 n2 e
      · exact kp1 b o n1 n2 e
    refine ⟨_, rfl, _, rfl, a, 3, 31, rfl, offS kp2, by decide, by decide, by decide, fun r _ _ => ⟨rfl, _, rfl, ite2 (fun _ => ?_) (fun _ => ?_)⟩⟩
    · refine ⟨_, rfl, _, rfl, _, rfl, _, _, rfl, rfl, _, rfl, ra, _, rfl, SqL.of (off kp2).l, fun l nl => ?_⟩
      have ec : cutV (prs.map fun p => V.ref p.1) none (some ((i : Int) + 1)) = (prs.take (i + 1)).map fun p => V.ref p.1 := by
        have := cut_to7 (prs.map fun p => V.ref p.1) (i + 1)
        rw [List.map_take]
        exact this
      rw [ec]
      have k1 := same_new nl (.lst ((prs.take (i + 1)).map fun p => V.ref p.1))
      exact ⟨x, rb, l, prs.take (i + 1), rfl, BX2.same k1, ⟨upd_same, fun p hp => k1 _ _ ((off kp2).t p (List.mem_of_mem_take hp))⟩, by rw [List.length_take]; omega, fun G4 k4 => ⟨true, rfl, iteF ⟨⟨_, rfl⟩, BX2.same (k1.trans k4), BY2.same (k1.trans k4), fun b o n1 n2 e => (k1.trans k4) _ _ (kp2 b o n1 n2 e)⟩⟩⟩
    · exact iteF ⟨⟨_, rfl⟩, BX2, BY2, kp2⟩
  obtain ⟨⟨v8, rfl⟩, BX, BY, kp⟩ := z
  rw [Int.toNat_natCast] at BX BY
  rw [List.take_of_length_le (by omega)] at BX
  have RG := off kp
  have SG := offS kp
  have lp : prs.length ≤ 900 := by omega
  have tl3 : ((thirds m).filterMap (prs[·]?)).length ≤ 900 := by
    have := pick_len (prs := prs) (thirds m)
    have := thirds_len m
    omega
  have em : m = (prs.map fun p => V.ref p.1).length := by rw [List.length_map, ly]
  have pk : pickV (prs.map fun p => V.ref p.1) (some 1) none (some 3) = ((thirds m).filterMap (prs[·]?)).map fun p => V.ref p.1 := by rw [pick_thirds, ← em, pick_map]
  refine ⟨_, rfl, _, rfl, x, rb, ra, prs, rfl, BX, RG, lp, fun G1 k1 => ⟨true, rfl, iteF ?_⟩⟩
  have R1 := RG.same k1
  refine ⟨_, rfl, _, rfl, _, rfl, _, rfl, ra, _, rfl, SqL.of R1.l, by decide, fun l nl => ?_⟩
  rw [pk]
  generalize hth : (thirds m).filterMap (prs[·]?) = ths at BY tl3 pk ⊢
  have thm : ∀ p ∈ ths, p ∈ prs := fun p hp => pick_mem (by rw [hth]; exact hp)
  have k2 := same_new nl (.lst (ths.map fun p => V.ref p.1))
  refine ⟨y, rc, l, ths, rfl, BY.same (k1.trans k2), ⟨upd_same, fun p hp => k2 _ _ (R1.t p (thm p hp))⟩, tl3, fun G3 k3 => ⟨true, rfl, iteF ?_⟩⟩
  have s3 : Same G G3 := k1.trans (k2.trans k3)
  refine ⟨_, rfl, ra, _, rfl, .inl (SqL.of (s3 _ _ RG.l)), fun ha nha => ?_⟩
  have k4 := same_new nha (.lst (prs.map fun p => V.ref p.1))
  have hha : upd G3 ha (.lst (prs.map fun p => V.ref p.1)) ha = some (.lst (prs.map fun p => V.ref p.1)) := upd_same
  generalize upd G3 ha (.lst (prs.map fun p => V.ref p.1)) = G4 at k4 hha ⊢
  have s4' : Same G G4 := s3.trans k4
  have R4' := RG.same s4'
  have RH : RowsAt G4 ha prs := ⟨hha, R4'.t⟩
  refine ⟨_, rfl, ha, prs, rfl, RH, lp, fun fa ws G5 nfa I5 => ?_⟩
  obtain ⟨k5', hf5, D5, nm5, fr5⟩ := id I5
  refine ⟨_, rfl, _, rfl, ra, prs, rfl, R4'.same k5', lp, fun da ws' G6 nda I6 => ?_⟩
  obtain ⟨k6', hd6, D6, nm6, fr6⟩ := id I6
  have l8 : ∀ q, (valOf (prs.map (·.2)) q).length = 8 := fun q => valOf_len _ q
  refine ⟨fa, da, ws, ws', valOf (prs.map (·.2)), rfl, ne_of_none hf5 nda, k6' _ _ hf5, hd6, D5.same k6', D6, by rw [nm5, nm6], l8, fun G7 k7' => ⟨true, rfl, iteF ?_⟩⟩
  have s7' : Same G5 G7 := k6'.trans k7'
  have RH7 := (RH.same k5').same s7'
  have R7' := (R4'.same k5').same s7'
  refine ⟨_, rfl, _, rfl, ha, ra, _, _, rfl, rfl, .inl ⟨SqL.of RH7.l, SqL.of R7'.l⟩, rfl, deq_rows (K := K) RH7.t, _, rfl, iteF ?_⟩
  refine ⟨Nat.zero_le _, fun e0 ne0 => ⟨e0, [], rfl, ⟨upd_same, fun p hp => absurd hp List.not_mem_nil⟩, Nat.zero_le _, fun d0 ws0 G8 nd0 I8 => ?_⟩⟩
  obtain ⟨k8, hd8, D8, nm8, fr8⟩ := I8
  obtain rfl : ws0 = [] := by
    cases ws0 with
    | nil => rfl
    | cons w r => cases nm8
  refine fun e1 ne1 => ⟨d0, e1, _, _, rfl, rfl, same_new ne1 _ _ _ hd8, upd_same, fun p hp => absurd hp List.not_mem_nil, fun p hp => absurd hp List.not_mem_nil, _, rfl, iteF ?_⟩
  have s8 : Same G5 (upd G8 e1 (.dK [])) := s7'.trans ((same_new ne0 _).trans (k8.trans (same_new ne1 _)))
  generalize upd G8 e1 (.dK []) = G9 at s8 ⊢
  refine ⟨_, rfl, fa, _, rfl, s8 _ _ hf5, fun lf nlf => ⟨lf, rfl, ⟨_, SqL.of upd_same⟩, ?_⟩⟩
  rw [wD7_keys]
  have s10 := s8.trans (same_new nlf (.lst ((ws.map (·.1)).map V.str)))
  have lws : ws.length ≤ 900 := by
    have e := congrArg List.length nm5
    rw [List.length_map] at e
    have := prOf_few (prs.map (·.2))
    rw [List.length_map] at this
    omega
  refine for_list (K := K) (xs := (ws.map (·.1)).map V.str) (fun i σ G' => (∃ v11, σ = [some (.ref a), some (.ref h), some (.ref k), some (.ref j), some (.int (m : Int)), some (.ref ra), some (.ref x), some (.ref y), v8, some (.ref ha), some (.ref fa), v11]) ∧ Same G4 G' ∧ G' fa = some (.dK (wD7 ws)) ∧ G' lf = some (.lst ((ws.map (·.1)).map V.str)) ∧ ∀ w ∈ ws, ∃ zs, G' w.2 = some (.lst zs) ∧ zs.length ≤ 8 + i) ⟨⟨_, rfl⟩, k5'.trans s10, s10 _ _ hf5, upd_same, fun w hw => ⟨_, s10 _ _ (D5.l w hw), by rw [List.length_map, l8]; exact Nat.le_refl _⟩⟩ (fun i σ G' _ z => SqL.of z.2.2.2.1) (fun i v σ G' hv z => ?_) (fun σ G' z => ?_)
  · obtain ⟨⟨v11, rfl⟩, sg, hfa, hlf, hl⟩ := z
    rw [List.map_map, List.getElem?_map] at hv
    obtain ⟨w, ew, rfl⟩ := Option.map_eq_some_iff.mp hv
    have hw := List.mem_of_getElem? ew
    have hi := (List.getElem?_eq_some_iff.mp ew).1
    obtain ⟨zs, hz, lz⟩ := hl w hw
    have g := rget7 (.inl hfa) w.1
    rw [val_w7 D5.nd hw] at g
    have nlw : lf ≠ w.2 := fun z => by
      have := s8 _ _ (D5.l w hw)
      rw [← z, nlf] at this
      cases this
    refine ⟨_, rfl, _, rfl, fa, _, rfl, g, .inl ⟨rfl, _, SqL.of hz⟩, w.2, _, _, rfl, rfl, hz, small1000 (by omega), ?_⟩
    refine ⟨⟨_, rfl⟩, same_on (fr5 w hw) sg _, by rw [upd_ne (ne_of hfa hz (by intro z; cases z))]; exact hfa, by rw [upd_ne nlw]; exact hlf, fun w' hw' => ?_⟩
    by_cases c : w'.2 = w.2
    · exact ⟨_, by rw [c, upd_same], by rw [List.length_append]; show zs.length + 1 ≤ _; omega⟩
    · obtain ⟨zs', hz', lz'⟩ := hl w' hw'
      exact ⟨zs', by rw [upd_ne c]; exact hz', by omega⟩
  obtain ⟨⟨v11, rfl⟩, sg, hfa, hlf, hl⟩ := z
  refine ⟨Nat.zero_le _, fun e2 ne2 => ⟨_, rfl, fa, _, rfl, DPut.k (k := Sum.inr (Str.ofString "abc")) (same_new ne2 _ _ _ hfa) (small1000 (by unfold wD7; rw [List.length_map]; omega)), ?_⟩⟩
  have s11 : Same G4 _ := same_on nfa (sg.trans (same_new ne2 (.lst []))) (.dK (putK (wD7 ws) (Sum.inr (Str.ofString "abc")) (.ref e2)))
  generalize upd (upd G' e2 (.lst [])) fa (.dK (putK (wD7 ws) (Sum.inr (Str.ofString "abc")) (.ref e2))) = G11 at s11 ⊢
  have sG11 := s4'.trans s11
  refine ⟨_, rfl, ha, prs, rfl, RH.same s11, lp, fun f2 wsa G12 nf2 I12 => ?_⟩
  obtain ⟨k12, hf12, D12, nm12, fr12⟩ := id I12
  refine ⟨_, rfl, ra, prs, rfl, (RG.same sG11).same k12, lp, fun d2 wsb G13 nd2 I13 => ?_⟩
  obtain ⟨k13, hd13, D13, nm13, fr13⟩ := id I13
  refine ⟨f2, d2, wsa, wsb, valOf (prs.map (·.2)), rfl, ne_of_none hf12 nd2, k13 _ _ hf12, hd13, D12.same k13, D13, by rw [nm12, nm13], l8, fun G14 k14 => ?_⟩
  refine ⟨true, rfl, iteT ?_⟩
  have s14 : Same G11 G14 := k12.trans (k13.trans k14)
  have sG14 := sG11.trans s14
  have BY14 := BY.same sG14
  obtain ⟨⟨dy2, hy2⟩, _⟩ := id BY14
  refine ⟨_, rfl, y, _, dy2, _, _, _, rfl, hy2, rfl, T.cl_Book, D_Book_told, y, rc, _, rfl, BY14, fun l3 nl3 => ?_⟩
  have k15 := same_new nl3 (.lst (ths.map fun p => V.ref p.1))
  have h15 : upd G14 l3 (.lst (ths.map fun p => V.ref p.1)) l3 = some (.lst (ths.map fun p => V.ref p.1)) := upd_same
  generalize upd G14 l3 (.lst (ths.map fun p => V.ref p.1)) = G15 at k15 h15 ⊢
  have R15 := RG.same (sG14.trans k15)
  refine ⟨l3, ths, rfl, ⟨h15, fun p hp => R15.t p (thm p hp)⟩, tl3, fun f3 wsc G16 nf3 I16 => ?_⟩
  obtain ⟨k16, hf16, D16, nm16, fr16⟩ := id I16
  have R16 := R15.same k16
  refine ⟨_, rfl, _, rfl, _, rfl, ra, _, rfl, SqL.of R16.l, by decide, fun l4 nl4 => ?_⟩
  rw [pk]
  have k17 := same_new nl4 (.lst (ths.map fun p => V.ref p.1))
  refine ⟨l4, ths, rfl, ⟨upd_same, fun p hp => k17 _ _ (R16.t p (thm p hp))⟩, tl3, fun d3 wsd G18 nd3 I18 => ?_⟩
  obtain ⟨k18, hd18, D18, nm18, fr18⟩ := id I18
  have k178 := k17.trans k18
  exact ⟨f3, d3, wsc, wsd, valOf (ths.map (·.2)), rfl, ne_of_none (k17 _ _ hf16) nd3, k178 _ _ hf16, hd18, D16.same k178, D18, by rw [nm16, nm18], fun q => valOf_len _ q, fun G19 _ => q G19⟩

end
end My

def PySem.W.Fast.tw8499977677438830133 : Nat := 0
def PySem.W.Fast.tw11474208147343422585 : Nat := 0
def PySem.W.Fast.tw747131621192938194 : Nat := 0
def PySem.W.Fast.tw9695347397803086941 : Nat := 0
def PySem.W.Fast.tw7879979237072771711 : Nat := 0
namespace My
open PySem L2
theorem all_mk {l : PySem.W.OpenLaw} {w : World} {K : PySem.W.Frag} {h : Heap} {mg : Str → Option Value} {fa cBook f0 f1 f2 f3 f4 f5 f6 f7 f8 f9 f10 f11 f12 f13 f14 f15 : Addr} (X : K.In h) (G : h.Ns mainGlobals mg) (hfa : mg "law" = some (.ref fa))
    {od0 an0 od1 an1 od2 an2 od3 an3 od4 an4 od5 an5 od6 an6 od7 an7 od8 an8 od9 an9 od10 an10 od11 an11 od12 an12 od13 an13 od14 an14 od15 an15 : Option Addr} {sl0 sl1 sl2 sl3 sl4 sl5 sl6 sl7 sl8 sl9 sl10 sl11 sl12 sl13 sl14 sl15 : Array (Option Value)}
    {oc0 kV0 dc0 pm0 cd0 ct0 oc1 kV1 dc1 pm1 cd1 ct1 oc2 kV2 dc2 pm2 cd2 ct2 oc3 kV3 dc3 pm3 cd3 ct3 oc4 kV4 dc4 pm4 cd4 ct4 oc5 kV5 dc5 pm5 cd5 ct5 oc6 kV6 dc6 pm6 cd6 ct6 oc7 kV7 dc7 pm7 cd7 ct7 oc8 kV8 dc8 pm8 cd8 ct8 oc9 kV9 dc9 pm9 cd9 ct9 oc10 kV10 dc10 pm10 cd10 ct10 oc11 kV11 dc11 pm11 cd11 ct11 oc12 kV12 dc12 pm12 cd12 ct12 oc13 kV13 dc13 pm13 cd13 ct13 oc14 kV14 dc14 pm14 cd14 ct14 oc15 kV15 dc15 pm15 cd15 ct15 : Value}
    (aC_Book : PySem.W.nsIn K mainGlobals "Book" = some (some (.ref cBook)))
    (a0 : PySem.W.findIn K (.ref cBook) "__init__" = some (some (.ref f0)))
    (i0 : PySem.W.isFn K (.ref f0) = true)
    (l0 : K.lookup f0 = some ⟨oc0, od0, .func (PySem.W.fnOf "__init__" "Book.__init__" (defArgs s_Book_init) (defBody s_Book_init) (defScope s_Book_init) .none kV0 dc0 pm0 an0 cd0 ct0), sl0⟩)
    (c0 : PySem.W.codeIn K cd0 "Book.__init__" = true)
    (k0 : PySem.W.keepIn K (.ref f0) = true)
    (a1 : PySem.W.findIn K (.ref cBook) "write" = some (some (.ref f1)))
    (i1 : PySem.W.isFn K (.ref f1) = true)
    (l1 : K.lookup f1 = some ⟨oc1, od1, .func (PySem.W.fnOf "write" "Book.write" (defArgs s_Book_write) (defBody s_Book_write) (defScope s_Book_write) .none kV1 dc1 pm1 an1 cd1 ct1), sl1⟩)
    (c1 : PySem.W.codeIn K cd1 "Book.write" = true)
    (k1 : PySem.W.keepIn K (.ref f1) = true)
    (a2 : PySem.W.findIn K (.ref cBook) "told" = some (some (.ref f2)))
    (i2 : PySem.W.isFn K (.ref f2) = true)
    (l2 : K.lookup f2 = some ⟨oc2, od2, .func (PySem.W.fnOf "told" "Book.told" (defArgs s_Book_told) (defBody s_Book_told) (defScope s_Book_told) .none kV2 dc2 pm2 an2 cd2 ct2), sl2⟩)
    (c2 : PySem.W.codeIn K cd2 "Book.told" = true)
    (k2 : PySem.W.keepIn K (.ref f2) = true)
    (a3 : PySem.W.nsIn K mainGlobals "sums" = some (some (.ref f3)))
    (l3 : K.lookup f3 = some ⟨oc3, od3, .func (PySem.W.fnOf "sums" "sums" (defArgs s_sums) (defBody s_sums) (defScope s_sums) .none kV3 dc3 pm3 an3 cd3 ct3), sl3⟩)
    (c3 : PySem.W.codeIn K cd3 "sums" = true)
    (k3 : PySem.W.keepIn K (.ref f3) = true)
    (a4 : PySem.W.nsIn K mainGlobals "no_sums" = some (some (.ref f4)))
    (l4 : K.lookup f4 = some ⟨oc4, od4, .func (PySem.W.fnOf "no_sums" "no_sums" (defArgs s_no_sums) (defBody s_no_sums) (defScope s_no_sums) .none kV4 dc4 pm4 an4 cd4 ct4), sl4⟩)
    (c4 : PySem.W.codeIn K cd4 "no_sums" = true)
    (k4 : PySem.W.keepIn K (.ref f4) = true)
    (a5 : PySem.W.nsIn K mainGlobals "entries" = some (some (.ref f5)))
    (l5 : K.lookup f5 = some ⟨oc5, od5, .func (PySem.W.fnOf "entries" "entries" (defArgs s_entries) (defBody s_entries) (defScope s_entries) .none kV5 dc5 pm5 an5 cd5 ct5), sl5⟩)
    (c5 : PySem.W.codeIn K cd5 "entries" = true)
    (k5 : PySem.W.keepIn K (.ref f5) = true)
    (a6 : PySem.W.nsIn K mainGlobals "_law_draw" = some (some (.ref f6)))
    (l6 : K.lookup f6 = some ⟨oc6, od6, .func (PySem.W.fnOf "_law_draw" "_law_draw" (defArgs s__law_draw) (defBody s__law_draw) (defScope s__law_draw) .none kV6 dc6 pm6 an6 cd6 ct6), sl6⟩)
    (c6 : PySem.W.codeIn K cd6 "_law_draw" = true)
    (k6 : PySem.W.keepIn K (.ref f6) = true)
    (a7 : PySem.W.nsIn K mainGlobals "_law_great" = some (some (.ref f7)))
    (l7 : K.lookup f7 = some ⟨oc7, od7, .func (PySem.W.fnOf "_law_great" "_law_great" (defArgs s__law_great) (defBody s__law_great) (defScope s__law_great) .none kV7 dc7 pm7 an7 cd7 ct7), sl7⟩)
    (c7 : PySem.W.codeIn K cd7 "_law_great" = true)
    (k7 : PySem.W.keepIn K (.ref f7) = true)
    (a8 : PySem.W.nsIn K mainGlobals "_law_whole" = some (some (.ref f8)))
    (l8 : K.lookup f8 = some ⟨oc8, od8, .func (PySem.W.fnOf "_law_whole" "_law_whole" (defArgs s__law_whole) (defBody s__law_whole) (defScope s__law_whole) .none kV8 dc8 pm8 an8 cd8 ct8), sl8⟩)
    (c8 : PySem.W.codeIn K cd8 "_law_whole" = true)
    (k8 : PySem.W.keepIn K (.ref f8) = true)
    (a9 : PySem.W.nsIn K mainGlobals "_law_names" = some (some (.ref f9)))
    (l9 : K.lookup f9 = some ⟨oc9, od9, .func (PySem.W.fnOf "_law_names" "_law_names" (defArgs s__law_names) (defBody s__law_names) (defScope s__law_names) .none kV9 dc9 pm9 an9 cd9 ct9), sl9⟩)
    (c9 : PySem.W.codeIn K cd9 "_law_names" = true)
    (k9 : PySem.W.keepIn K (.ref f9) = true)
    (a10 : PySem.W.nsIn K mainGlobals "_law_number" = some (some (.ref f10)))
    (l10 : K.lookup f10 = some ⟨oc10, od10, .func (PySem.W.fnOf "_law_number" "_law_number" (defArgs s__law_number) (defBody s__law_number) (defScope s__law_number) .none kV10 dc10 pm10 an10 cd10 ct10), sl10⟩)
    (c10 : PySem.W.codeIn K cd10 "_law_number" = true)
    (k10 : PySem.W.keepIn K (.ref f10) = true)
    (a11 : PySem.W.nsIn K mainGlobals "_law_any_row" = some (some (.ref f11)))
    (l11 : K.lookup f11 = some ⟨oc11, od11, .func (PySem.W.fnOf "_law_any_row" "_law_any_row" (defArgs s__law_any_row) (defBody s__law_any_row) (defScope s__law_any_row) .none kV11 dc11 pm11 an11 cd11 ct11), sl11⟩)
    (c11 : PySem.W.codeIn K cd11 "_law_any_row" = true)
    (k11 : PySem.W.keepIn K (.ref f11) = true)
    (a12 : PySem.W.nsIn K mainGlobals "_law_due" = some (some (.ref f12)))
    (l12 : K.lookup f12 = some ⟨oc12, od12, .func (PySem.W.fnOf "_law_due" "_law_due" (defArgs s__law_due) (defBody s__law_due) (defScope s__law_due) .none kV12 dc12 pm12 an12 cd12 ct12), sl12⟩)
    (c12 : PySem.W.codeIn K cd12 "_law_due" = true)
    (k12 : PySem.W.keepIn K (.ref f12) = true)
    (a13 : PySem.W.nsIn K mainGlobals "_law_alike" = some (some (.ref f13)))
    (l13 : K.lookup f13 = some ⟨oc13, od13, .func (PySem.W.fnOf "_law_alike" "_law_alike" (defArgs s__law_alike) (defBody s__law_alike) (defScope s__law_alike) .none kV13 dc13 pm13 an13 cd13 ct13), sl13⟩)
    (c13 : PySem.W.codeIn K cd13 "_law_alike" = true)
    (k13 : PySem.W.keepIn K (.ref f13) = true)
    (a14 : PySem.W.nsIn K mainGlobals "_law_is_told" = some (some (.ref f14)))
    (l14 : K.lookup f14 = some ⟨oc14, od14, .func (PySem.W.fnOf "_law_is_told" "_law_is_told" (defArgs s__law_is_told) (defBody s__law_is_told) (defScope s__law_is_told) .none kV14 dc14 pm14 an14 cd14 ct14), sl14⟩)
    (c14 : PySem.W.codeIn K cd14 "_law_is_told" = true)
    (k14 : PySem.W.keepIn K (.ref f14) = true)
    (a15 : PySem.W.nsIn K mainGlobals "law" = some (some (.ref f15)))
    (l15 : K.lookup f15 = some ⟨oc15, od15, .func (PySem.W.fnOf "law" "law" (defArgs s_law) (defBody s_law) (defScope s_law) .none kV15 dc15 pm15 an15 cd15 ct15), sl15⟩)
    (c15 : PySem.W.codeIn K cd15 "law" = true)
    (k15 : PySem.W.keepIn K (.ref f15) = true)
    (pg_Book : PySem.W.plainGet K cBook Str.empty = true)
    (hd_Book : PySem.W.hasDictIn K cBook = true)
    (po_Book : PySem.W.plainOver K cBook = true)
    (sa_Book : PySem.W.findIn K (.ref cBook) "__setattr__" = some (some (.builtin "object.__setattr__")))
    (mk_Book : PySem.W.makesIn K cBook = true)
    (kc_Book : PySem.W.keepIn K (.ref cBook) = true)
    (na_Book_rows : PySem.W.findIn K (.ref cBook) "rows" = some none)
    (am_Book_told : PySem.W.findIn K (.ref cBook) "told" = some (some (.ref f2)))
    (am_Book_write : PySem.W.findIn K (.ref cBook) "write" = some (some (.ref f1)))
    {xLOAD : Str} {tLOAD : Tok}
    (gLOAD : PySem.W.nsIn K mainGlobals "LOAD" = some (some (.str xLOAD tLOAD)))
    (eLOAD : xLOAD = Str.ofString "load")
    {xINK : Str} {tINK : Tok}
    (gINK : PySem.W.nsIn K mainGlobals "INK" = some (some (.str xINK tINK)))
    (eINK : xINK = Str.ofString "ink")
    {xFEED : Str} {tFEED : Tok}
    (gFEED : PySem.W.nsIn K mainGlobals "FEED" = some (some (.str xFEED tFEED)))
    (eFEED : xFEED = Str.ofString "feed")
    {xOUT : Str} {tOUT : Tok}
    (gOUT : PySem.W.nsIn K mainGlobals "OUT" = some (some (.str xOUT tOUT)))
    (eOUT : xOUT = Str.ofString "out")
    {xSUMS : Int} {tSUMS : Tok}
    (gSUMS : PySem.W.nsIn K mainGlobals "SUMS" = some (some (.int xSUMS tSUMS)))
    (eSUMS : xSUMS = 8)
    (z_len : PySem.W.nsIn K mainGlobals "len" = some none)
    (z_range : PySem.W.nsIn K mainGlobals "range" = some none)
    (z_int : PySem.W.nsIn K mainGlobals "int" = some none)
    (z_bool : PySem.W.nsIn K mainGlobals "bool" = some none)
    (z_tuple : PySem.W.nsIn K mainGlobals "tuple" = some none)
    (z_list : PySem.W.nsIn K mainGlobals "list" = some none)
    (z_isinstance : PySem.W.nsIn K mainGlobals "isinstance" = some none)
    (z_dict : PySem.W.nsIn K mainGlobals "dict" = some none)
    : ∃ fd : FuncData, (∀ (s : Shared) (v : Value), BindsTo s fd ⟨[v], []⟩ [("_law_script", v)]) ∧ ∀ base : Heap, K.In base → base.Ns mainGlobals mg → FnOk l.prog w K mg base CX0 4 fa fd ["_law_script"] (sp_law K) := by
  have e := hfa.symm.trans (PySem.W.mg_of X G a15)
  cases e
  have F0 := fun_mk (st := s_Book_init) l0 c0 k0
  have F1 := fun_mk (st := s_Book_write) l1 c1 k1
  have F2 := fun_mk (st := s_Book_told) l2 c2 k2
  have F3 := fun_mk (st := s_sums) l3 c3 k3
  have F4 := fun_mk (st := s_no_sums) l4 c4 k4
  have F5 := fun_mk (st := s_entries) l5 c5 k5
  have F6 := fun_mk (st := s__law_draw) l6 c6 k6
  have F7 := fun_mk (st := s__law_great) l7 c7 k7
  have F8 := fun_mk (st := s__law_whole) l8 c8 k8
  have F9 := fun_mk (st := s__law_names) l9 c9 k9
  have F10 := fun_mk (st := s__law_number) l10 c10 k10
  have F11 := fun_mk (st := s__law_any_row) l11 c11 k11
  have F12 := fun_mk (st := s__law_due) l12 c12 k12
  have F13 := fun_mk (st := s__law_alike) l13 c13 k13
  have F14 := fun_mk (st := s__law_is_told) l14 c14 k14
  have F15 := fun_mk (st := s_law) l15 c15 k15
  have b0 := F0.binds (ps := ["self"]) fun _ _ _ _ _ _ us hl => match us, hl with | [_], _ => rfl
  have b1 := F1.binds (ps := ["self", "row"]) fun _ _ _ _ _ _ us hl => match us, hl with | [_, _], _ => rfl
  have b2 := F2.binds (ps := ["self"]) fun _ _ _ _ _ _ us hl => match us, hl with | [_], _ => rfl
  have b3 := F3.binds (ps := ["rows"]) fun _ _ _ _ _ _ us hl => match us, hl with | [_], _ => rfl
  have b4 := F4.binds (ps := []) fun _ _ _ _ _ _ us hl => match us, hl with | [], _ => rfl
  have b5 := F5.binds (ps := ["row"]) fun _ _ _ _ _ _ us hl => match us, hl with | [_], _ => rfl
  have b6 := F6.binds (ps := ["_law_script", "_law_k", "_law_many"]) fun _ _ _ _ _ _ us hl => match us, hl with | [_, _, _], _ => rfl
  have b7 := F7.binds (ps := ["_law_script", "_law_k"]) fun _ _ _ _ _ _ us hl => match us, hl with | [_, _], _ => rfl
  have b8 := F8.binds (ps := ["_law_found"]) fun _ _ _ _ _ _ us hl => match us, hl with | [_], _ => rfl
  have b9 := F9.binds (ps := ["_law_script", "_law_k", "_law_many"]) fun _ _ _ _ _ _ us hl => match us, hl with | [_, _, _], _ => rfl
  have b10 := F10.binds (ps := ["_law_script", "_law_k"]) fun _ _ _ _ _ _ us hl => match us, hl with | [_, _], _ => rfl
  have b11 := F11.binds (ps := ["_law_script", "_law_k", "_law_halls", "_law_kinds", "_law_jobs"]) fun _ _ _ _ _ _ us hl => match us, hl with | [_, _, _, _, _], _ => rfl
  have b12 := F12.binds (ps := ["_law_rows"]) fun _ _ _ _ _ _ us hl => match us, hl with | [_], _ => rfl
  have b13 := F13.binds (ps := ["_law_found", "_law_due_here"]) fun _ _ _ _ _ _ us hl => match us, hl with | [_, _], _ => rfl
  have b14 := F14.binds (ps := ["_law_book", "_law_rows"]) fun _ _ _ _ _ _ us hl => match us, hl with | [_, _], _ => rfl
  have b15 := F15.binds (ps := ["_law_script"]) fun _ _ _ _ _ _ us hl => match us, hl with | [_], _ => rfl
  have T : Txt K mg cBook := ⟨PySem.W.mg_none_of X G z_len, PySem.W.mg_none_of X G z_range, PySem.W.mg_none_of X G z_int, PySem.W.mg_none_of X G z_bool, PySem.W.mg_none_of X G z_tuple, PySem.W.mg_none_of X G z_list, PySem.W.mg_none_of X G z_isinstance, PySem.W.mg_none_of X G z_dict, ⟨⟨tLOAD, by rw [← eLOAD]; exact PySem.W.mg_of X G gLOAD⟩⟩, ⟨⟨tINK, by rw [← eINK]; exact PySem.W.mg_of X G gINK⟩⟩, ⟨⟨tFEED, by rw [← eFEED]; exact PySem.W.mg_of X G gFEED⟩⟩, ⟨⟨tOUT, by rw [← eOUT]; exact PySem.W.mg_of X G gOUT⟩⟩, ⟨⟨tSUMS, by rw [← eSUMS]; exact PySem.W.mg_of X G gSUMS⟩⟩, ⟨pg_Book, hd_Book, po_Book, sa_Book⟩, PySem.W.mg_of X G aC_Book, na_Book_rows⟩
  refine ⟨PySem.W.fnOf "law" "law" (defArgs s_law) (defBody s_law) (defScope s_law) .none kV15 dc15 pm15 an15 cd15 ct15, fun s v => .of_eq rfl, fun base _ _ => ?_⟩
  have D__law_draw : Dfn l.prog w K mg base 1 "_law_draw" ["_law_script", "_law_k", "_law_many"] (sp__law_draw K) := ⟨_, _, ok__law_draw F6 T, b6, k6, PySem.W.mg_of X G a6⟩
  have D__law_names : Dfn l.prog w K mg base 2 "_law_names" ["_law_script", "_law_k", "_law_many"] (sp__law_names K) := ⟨_, _, ok__law_names F9 T D__law_draw, b9, k9, PySem.W.mg_of X G a9⟩
  have okk0 : FnOk l.prog w K mg base CX0 1 _ _ ["self"] (sp_Book_init cBook) := ok_Book_init F0 T
  have M_Book : MkD l.prog w K mg base 1 "Book" cBook ["self"] (sp_Book_init cBook) := ⟨_, _, ⟨mk_Book, a0, i0, kc_Book⟩, okk0, b0, PySem.W.mg_of X G aC_Book⟩
  have D_entries : Dfn l.prog w K mg base 1 "entries" ["row"] (sp_entries K) := ⟨_, _, ok_entries F5 T, b5, k5, PySem.W.mg_of X G a5⟩
  have D_no_sums : Dfn l.prog w K mg base 1 "no_sums" [] (sp_no_sums K) := ⟨_, _, ok_no_sums F4 T, b4, k4, PySem.W.mg_of X G a4⟩
  have D_sums : Dfn l.prog w K mg base 2 "sums" ["rows"] (sp_sums K) := ⟨_, _, ok_sums F3 T D_entries D_no_sums, b3, k3, PySem.W.mg_of X G a3⟩
  have D__law_great : Dfn l.prog w K mg base 1 "_law_great" ["_law_script", "_law_k"] (sp__law_great K) := ⟨_, _, ok__law_great F7 T, b7, k7, PySem.W.mg_of X G a7⟩
  have D__law_number : Dfn l.prog w K mg base 2 "_law_number" ["_law_script", "_law_k"] (sp__law_number K) := ⟨_, _, ok__law_number F10 T D__law_draw D__law_great, b10, k10, PySem.W.mg_of X G a10⟩
  have D__law_any_row : Dfn l.prog w K mg base 3 "_law_any_row" ["_law_script", "_law_k", "_law_halls", "_law_kinds", "_law_jobs"] (sp__law_any_row K) := ⟨_, _, ok__law_any_row F11 T D__law_draw D__law_number, b11, k11, PySem.W.mg_of X G a11⟩
  have okk2 : FnOk l.prog w K mg base CX0 1 _ _ ["self"] (sp_Book_told cBook) := ok_Book_told F2 T
  have D_Book_told : MtE l.prog w K mg base 1 "told" cBook ["self"] (sp_Book_told cBook) := ⟨_, _, ⟨am_Book_told, i2, k2⟩, okk2.lift, b2⟩
  have D__law_is_told : Dfn l.prog w K mg base 2 "_law_is_told" ["_law_book", "_law_rows"] (sp__law_is_told cBook) := ⟨_, _, ok__law_is_told F14 T D_Book_told, b14, k14, PySem.W.mg_of X G a14⟩
  have D__law_whole : Dfn l.prog w K mg base 1 "_law_whole" ["_law_found"] (sp__law_whole K) := ⟨_, _, ok__law_whole F8 T, b8, k8, PySem.W.mg_of X G a8⟩
  have D__law_alike : Dfn l.prog w K mg base 2 "_law_alike" ["_law_found", "_law_due_here"] (sp__law_alike K) := ⟨_, _, ok__law_alike F13 T D__law_whole, b13, k13, PySem.W.mg_of X G a13⟩
  have D__law_due : Dfn l.prog w K mg base 1 "_law_due" ["_law_rows"] (sp__law_due K) := ⟨_, _, ok__law_due F12 T, b12, k12, PySem.W.mg_of X G a12⟩
  have okk1 : FnOk l.prog w K mg base CX0 1 _ _ ["self", "row"] (sp_Book_write cBook) := ok_Book_write F1 T
  have D_Book_write : MtE l.prog w K mg base 1 "write" cBook ["self", "row"] (sp_Book_write cBook) := ⟨_, _, ⟨am_Book_write, i1, k1⟩, okk1.lift, b1⟩
  exact ok_law F15 T D__law_names D__law_draw M_Book D_sums D__law_any_row D__law_is_told D__law_alike D__law_due D_Book_write D_Book_told
theorem walk {l : PySem.W.OpenLaw} {q : Program} {loose : List Str} {XP : (Str → Option Value) → Heap → Prop} {YP : World → Heap → Prop} {d : DefRec} {K : Params → PySem.W.Frag} (hn : l.most = some 63) (hdf : d.params.defaults = [])
    (hY : ∀ (w : World) (h : Heap), YP w h → (K w.params).In h)
    (F : ∀ (w : World) (mg : Str → Option Value) (fa : Addr) (h : Heap), (K w.params).In h → h.Ns mainGlobals mg → mg d.name = some (.ref fa) →
      ∃ fd : FuncData, (∀ (s : Shared) (u : Value), BindsTo s fd ⟨[u], []⟩ [("_law_script", u)]) ∧ ∀ base : Heap, (K w.params).In base → base.Ns mainGlobals mg → FnOk l.prog w (K w.params) mg base CX0 4 fa fd ["_law_script"] (sp_law (K w.params))) :
    PySem.W.WalkO q loose XP YP l.row.toRowW d [] (fun f vs => PySem.call f vs) :=
  L2.walk_of (n := 63) (k := 4) (x := "_law_script") (CX := fun _ => CX0) (sp := fun w => sp_law (K w.params)) hn (by decide) hdf ⟨rfl, by decide, by decide⟩ hY F (fun _ _ a ns hl _ hS => ⟨a, rfl, ⟨⟨ns, hS, hl⟩⟩, fun _ => rfl⟩) fun _ _ _ _ _ z => z
end My
open PySem PySem.W PyProof.Rows
set_option maxRecDepth 100000 in
set_option maxHeartbeats 0 in
theorem PySem.Challenge.cw_spoolhall_k67_book_sums_holds : PySem.Challenge.rw_spoolhall_k67_book_sums.Holds := by
  w_on; o_law; k_head; (case hw => w_witness2)
  k_fill
  refine My.walk (l := PySem.Challenge.rw_spoolhall_k67_book_sums) rfl rfl (fun w h Y => PySem.W.kIn_of Y) ?F
  case F =>
    intro w mg fa h KX G hmg
    refine' My.all_mk KX G hmg ?aC_Book ?a0 ?i0 ?l0 ?c0 ?k0 ?a1 ?i1 ?l1 ?c1 ?k1 ?a2 ?i2 ?l2 ?c2 ?k2 ?a3 ?l3 ?c3 ?k3 ?a4 ?l4 ?c4 ?k4 ?a5 ?l5 ?c5 ?k5 ?a6 ?l6 ?c6 ?k6 ?a7 ?l7 ?c7 ?k7 ?a8 ?l8 ?c8 ?k8 ?a9 ?l9 ?c9 ?k9 ?a10 ?l10 ?c10 ?k10 ?a11 ?l11 ?c11 ?k11 ?a12 ?l12 ?c12 ?k12 ?a13 ?l13 ?c13 ?k13 ?a14 ?l14 ?c14 ?k14 ?a15 ?l15 ?c15 ?k15 ?pg_Book ?hd_Book ?po_Book ?sa_Book ?mk_Book ?kc_Book ?na_Book_rows ?am_Book_told ?am_Book_write ?gLOAD ?eLOAD ?gINK ?eINK ?gFEED ?eFEED ?gOUT ?eOUT ?gSUMS ?eSUMS ?z_len ?z_range ?z_int ?z_bool ?z_tuple ?z_list ?z_isinstance ?z_dict
    (case aC_Book => k_is)
    (case a0 => k_is)
    (case i0 => k_is)
    (case l0 => k_is)
    (case c0 => k_is)
    (case k0 => k_is)
    (case a1 => k_is)
    (case i1 => k_is)
    (case l1 => k_is)
    (case c1 => k_is)
    (case k1 => k_is)
    (case a2 => k_is)
    (case i2 => k_is)
    (case l2 => k_is)
    (case c2 => k_is)
    (case k2 => k_is)
    (case a3 => k_is)
    (case l3 => k_is)
    (case c3 => k_is)
    (case k3 => k_is)
    (case a4 => k_is)
    (case l4 => k_is)
    (case c4 => k_is)
    (case k4 => k_is)
    (case a5 => k_is)
    (case l5 => k_is)
    (case c5 => k_is)
    (case k5 => k_is)
    (case a6 => k_is)
    (case l6 => k_is)
    (case c6 => k_is)
    (case k6 => k_is)
    (case a7 => k_is)
    (case l7 => k_is)
    (case c7 => k_is)
    (case k7 => k_is)
    (case a8 => k_is)
    (case l8 => k_is)
    (case c8 => k_is)
    (case k8 => k_is)
    (case a9 => k_is)
    (case l9 => k_is)
    (case c9 => k_is)
    (case k9 => k_is)
    (case a10 => k_is)
    (case l10 => k_is)
    (case c10 => k_is)
    (case k10 => k_is)
    (case a11 => k_is)
    (case l11 => k_is)
    (case c11 => k_is)
    (case k11 => k_is)
    (case a12 => k_is)
    (case l12 => k_is)
    (case c12 => k_is)
    (case k12 => k_is)
    (case a13 => k_is)
    (case l13 => k_is)
    (case c13 => k_is)
    (case k13 => k_is)
    (case a14 => k_is)
    (case l14 => k_is)
    (case c14 => k_is)
    (case k14 => k_is)
    (case a15 => k_is)
    (case l15 => k_is)
    (case c15 => k_is)
    (case k15 => k_is)
    (case pg_Book => k_is)
    (case hd_Book => k_is)
    (case po_Book => k_is)
    (case sa_Book => k_is)
    (case mk_Book => k_is)
    (case kc_Book => k_is)
    (case na_Book_rows => k_is)
    (case am_Book_told => k_is)
    (case am_Book_write => k_is)
    (case gLOAD => k_is)
    (case eLOAD => first | rfl | decide +kernel)
    (case gINK => k_is)
    (case eINK => first | rfl | decide +kernel)
    (case gFEED => k_is)
    (case eFEED => first | rfl | decide +kernel)
    (case gOUT => k_is)
    (case eOUT => first | rfl | decide +kernel)
    (case gSUMS => k_is)
    (case eSUMS => rfl)
    (case z_len => k_is)
    (case z_range => k_is)
    (case z_int => k_is)
    (case z_bool => k_is)
    (case z_tuple => k_is)
    (case z_list => k_is)
    (case z_isinstance => k_is)
    (case z_dict => k_is)
#print axioms PySem.Challenge.cw_spoolhall_k67_book_sums_holds
