import PyProof.Rows.All
import Wide.All
import OpenK.AllK
import Wide.FinOn
import Lean
import PyProof.EqAt
import PyProof.EqKinds
import PyProof.TupleCall
import PyProof.EnumMake
import PyProof.Draws
import PyProof.InstStoreFacts
import PyProof.ExcArgs
import PyProof.ExcBaseAll.ValueError
import KE.KDictLaws
import OpenK.KOwn
import PyProof.ListRange
import PyProof.AttrMissHeap
import PyProof.MinMaxWalk
import PyProof.WalksMore
import PyProof.NeKinds
import KE.KDictList
import KE.KDictSum
import KE.KEqDict
import PyProof.DictItems
import KE.KPairComp
import PyProof.EqAt
import PyProof.NeKinds
import PyProof.MeetsSeq3
import PySem.Challenge.RW_spoolhall_k68_first_wrong
set_option Elab.async false
set_option linter.all false
set_option maxRecDepth 100000
/-! THE HAND LAYER, for ints, bools, texts, own classes, LISTS and tuples (index, slices, in, append, pop ..), calls, loops. Paste it whole ahead of your own text; what your proof does not reach may be deleted. -/
namespace L2
open PySem PySem.Spec PyProof.Rows

/-- a key: an int or a str -/
abbrev Key := Sum Int Str
def keyIs : Key → Value → Bool
  | .inl k, v => Value.isInt k v
  | .inr x, v => Value.isStrOf x v
def keyH (w : World) : Key → Int
  | .inl k => hashInt k
  | .inr x => hashStr w x
theorem keyIs_shape : ∀ {k : Key} {v : Value}, keyIs k v = true → (∃ i t, k = Sum.inl i ∧ v = Value.int i t) ∨ (∃ x t, k = Sum.inr x ∧ v = Value.str x t)
  | .inl i, v, h => by
    obtain ⟨t, e⟩ := Value.isInt_shape (k := i) (v := v) h
    exact .inl ⟨i, t, rfl, e⟩
  | .inr x, v, h => by
    obtain ⟨t, e⟩ := Value.isStrOf_shape (x := x) (v := v) h
    exact .inr ⟨x, t, rfl, e⟩
theorem keyIs_int (i : Int) (t : Tok) : keyIs (.inl i) (.int i t) = true := by simp [keyIs, Value.isInt]
theorem keyIs_str (x : Str) (t : Tok) : keyIs (.inr x) (.str x t) = true := by simp [keyIs, Value.isStrOf]
theorem key_ll (a b : Int) : decide ((Sum.inl a : Key) = Sum.inl b) = (a == b) := by
  by_cases e : a = b
  · subst e; simp
  · have h : ¬ (Sum.inl a : Key) = Sum.inl b := fun q => e (Sum.inl.inj q)
    rw [decide_eq_false h]
    exact (beq_eq_false_iff_ne.mpr e).symm
theorem key_rr (a b : Str) : decide ((Sum.inr a : Key) = Sum.inr b) = decide (a = b) := by
  by_cases e : a = b
  · subst e; simp
  · have h : ¬ (Sum.inr a : Key) = Sum.inr b := fun q => e (Sum.inr.inj q)
    rw [decide_eq_false h, decide_eq_false e]
theorem key_lr (a : Int) (b : Str) : decide ((Sum.inl a : Key) = Sum.inr b) = false := decide_eq_false (fun q => nomatch q)
theorem key_rl (a : Str) (b : Int) : decide ((Sum.inr a : Key) = Sum.inl b) = false := decide_eq_false (fun q => nomatch q)

def mixKind (prog : Program) (w : World) : PySem.KeyKind prog w Key where
  is := keyIs
  hash := keyH w
  inj := fun v a b ha hb => by
    rcases keyIs_shape ha with ⟨i, t, rfl, rfl⟩ | ⟨x, t, rfl, rfl⟩
    · rcases keyIs_shape hb with ⟨j, u, rfl, e⟩ | ⟨y, u, rfl, e⟩
      · injection e with e1 _; rw [e1]
      · exact nomatch e
    · rcases keyIs_shape hb with ⟨j, u, rfl, e⟩ | ⟨y, u, rfl, e⟩
      · exact nomatch e
      · injection e with e1 _; rw [e1]
  byValue := fun k v h => by
    rcases keyIs_shape h with ⟨i, t, rfl, rfl⟩ | ⟨x, t, rfl, rfl⟩ <;> rfl
  pyHash := fun hv h => by
    rcases keyIs_shape hv with ⟨i, t, rfl, rfl⟩ | ⟨x, t, rfl, rfl⟩
    · exact wpAny_pyHash_int h
    · exact wpAny_pyHash_str h
  eqBool := fun hu hv h => by
    rcases keyIs_shape hu with ⟨i, t, rfl, rfl⟩ | ⟨x, t, rfl, rfl⟩
    · rcases keyIs_shape hv with ⟨j, u, rfl, rfl⟩ | ⟨y, u, rfl, rfl⟩
      · rw [key_ll] at h; exact wpAny_eqBool_int h
      · rw [key_lr] at h; exact SeqAt.EqAt.int_str i t y u _ _ _ _ h
    · rcases keyIs_shape hv with ⟨j, u, rfl, rfl⟩ | ⟨y, u, rfl, rfl⟩
      · rw [key_rl] at h; exact SeqAt.EqAt.str_int x t j u _ _ _ _ h
      · rw [key_rr] at h; exact wpAny_eqBool_str h
  «strs» := fun k x t v h => by
    rcases keyIs_shape h with ⟨i, u, rfl, e⟩ | ⟨y, u, rfl, e⟩
    · exact nomatch e
    · injection e with e1 _
      subst e1
      cases v <;> rfl

theorem mixKind_int (prog : Program) (w : World) (i : Int) (t : Tok) : (mixKind prog w).is (.inl i) (.int i t) = true := keyIs_int i t
theorem mixKind_str (prog : Program) (w : World) (x : Str) (t : Tok) : (mixKind prog w).is (.inr x) (.str x t) = true := keyIs_str x t
end L2

namespace L2
open PySem PySem.Spec PyProof.Rows

/-- a value, without the heap -/
inductive V where
  | non | bl (b : Bool) | int (i : Int) | str (x : Str) | byt (b : Array UInt8) | flt (b : UInt64) | ref (a : Addr) | ty (n : String)
  deriving DecidableEq

def RelV : V → Value → Prop
  | .non, u => u = Value.none
  | .bl b, u => u = Value.bool b
  | .int i, u => ∃ t, u = Value.int i t
  | .str x, u => ∃ t, u = Value.str x t
  | .byt b, u => ∃ t, u = Value.bytes b t
  | .flt b, u => ∃ t, u = Value.float b t
  | .ref a, u => u = Value.ref a
  | .ty n, u => u = Value.type n

abbrev Vals : List V → List Value → Prop := Paired RelV
theorem Vals.length {xs : List V} {us : List Value} (r : Vals xs us) : xs.length = us.length := Paired.length r
theorem Vals.get : ∀ {xs : List V} {us : List Value} {i : Nat} {x : V}, Vals xs us → xs[i]? = some x → ∃ u, us[i]? = some u ∧ RelV x u
  | _, _, _, _, .nil, e => by simp at e
  | _, _, 0, _, .cons r _, e => by simp at e; subst e; exact ⟨_, rfl, r⟩
  | _, _, i + 1, x, .cons _ t, e => by
    obtain ⟨u, h1, h2⟩ := Vals.get (i := i) (x := x) t (by simpa using e)
    exact ⟨u, by simpa using h1, h2⟩
theorem Vals.set {x : V} {u : Value} (r : RelV x u) : ∀ {xs : List V} {us : List Value} (i : Nat), Vals xs us → Vals (xs.set i x) (us.set i u)
  | _, _, _, .nil => .nil
  | _, _, 0, .cons _ t => .cons r t
  | _, _, i + 1, .cons q t => .cons q (Vals.set r i t)
theorem Vals.append : ∀ {xs ys : List V} {us ws : List Value}, Vals xs us → Vals ys ws → Vals (xs ++ ys) (us ++ ws)
  | _, _, _, _, .nil, s => s
  | _, _, _, _, .cons r t, s => .cons r (Vals.append t s)
theorem Vals.take : ∀ {xs : List V} {us : List Value} (n : Nat), Vals xs us → Vals (xs.take n) (us.take n)
  | _, _, 0, _ => .nil
  | _, _, _ + 1, .nil => .nil
  | _, _, n + 1, .cons r t => .cons r (Vals.take n t)
theorem Vals.drop : ∀ {xs : List V} {us : List Value} (n : Nat), Vals xs us → Vals (xs.drop n) (us.drop n)
  | _, _, 0, r => r
  | _, _, _ + 1, .nil => .nil
  | _, _, n + 1, .cons _ t => Vals.drop n t
theorem Vals.none_of : ∀ {xs : List V} {us : List Value} {i : Nat}, Vals xs us → xs[i]? = none → us[i]? = none := fun {xs us i} r e => by
  have h1 := r.length
  have h2 : xs.length ≤ i := List.getElem?_eq_none_iff.mp e
  exact List.getElem?_eq_none_iff.mpr (by omega)

def RelO : Option V → Option Value → Prop
  | some v, some u => RelV v u
  | none, none => True
  | _, _ => False
def KV {κ : Type} : List (κ × V) → List (κ × Value) → Prop := Paired fun (p : κ × V) (q : κ × Value) => p.1 = q.1 ∧ RelV p.2 q.2

/-- a key of a dict (00_mix): an int or a text -/
def kV : Key → V
  | .inl i => .int i
  | .inr x => .str x

/-- what stands at a tracked address -/
inductive HO where
  /-- a list -/
  | lst (xs : List V)
  /-- a tuple (never changes) -/
  | tup (xs : List V)
  /-- a dict whose keys are ints and texts; one whose keys are tuples of ints and texts (the empty one is both) -/
  | dK (kvs : List (Key × V)) | dT (kvs : List (List Key × V))
  /-- a set of ints: its members, its size -/
  | set (S : Int → Bool) (n : Nat)
  /-- an instance of the class at C, its dict at dx, its attributes -/
  | ins (C dx : Addr) (fs : List (Str × V))
  /-- the dict of the instance at x -/
  | own (x : Addr)
  /-- the dict of an exception -/
  | xd (fs : List (Str × V))
  /-- a bound method, f of x -/
  | met (f x : Addr)
  /-- a range object lo, lo + 1, .. below hi -/
  | rng (lo hi : Int)
  /-- a thing that is known to the object (the script; a dict while a loop walks it): read, never written while it is so -/
  | frz (o : Obj) (u : HO)
  /-- a code object's table -/
  | tbl (ps : Array Value)
  /-- any other thing, by what is true of its one object (a def of one's own: SetO a S n := HO.ext fun h => ..) -/
  | ext (φ : Heap → Prop)

abbrev Hp := Addr → Option HO
def upd (H : Hp) (a : Addr) (o : HO) : Hp := fun b => if b = a then some o else H b
theorem upd_same {H : Hp} {a : Addr} {o : HO} : upd H a o a = some o := by unfold upd; rw [if_pos rfl]
theorem upd_ne {H : Hp} {a b : Addr} {o : HO} (h : b ≠ a) : upd H a o b = H b := by unfold upd; rw [if_neg h]
theorem upd_upd {H : Hp} {a : Addr} {o u : HO} : upd (upd H a o) a u = upd H a u := by
  funext b; unfold upd; split <;> rfl
/-- two objects of different content stand apart -/
theorem ne_of {H : Hp} {a b : Addr} {o u : HO} (h : H a = some o) (h' : H b = some u) (d : o ≠ u) : a ≠ b := by
  intro e; subst e; rw [h] at h'; exact d (Option.some.inj h')
theorem ne_of_none {H : Hp} {a b : Addr} {o : HO} (h : H a = some o) (h' : H b = none) : a ≠ b := by
  intro e; subst e; rw [h] at h'; cases h'

section
variable (P : Program) (w : World)
def ObjOk (H : Hp) (h : Heap) (a : Addr) : HO → Prop
  | .lst xs => xs.length ≤ sizeLine ∧ ∃ (its : List Value) (n : Nat), Vals xs its ∧ h.get? a = some { cls := .type "list", data := .seq its.toArray n }
  | .tup xs => xs.length ≤ sizeLine ∧ ∃ its : List Value, Vals xs its ∧ IsTup h a its.toArray
  | .dK kvs => kvs.length ≤ sizeLine ∧ (a == sysModules) = false ∧ ∃ vs, KV kvs vs ∧ h.DictOf (mixKind P w) a vs
  | .dT kvs => kvs.length ≤ sizeLine ∧ (a == sysModules) = false ∧ ∃ xs : List (List Key × Addr × Value),
      Paired (fun (p : List Key × V) (q : List Key × Addr × Value) => p.1 = q.1 ∧ H q.2.1 = some (.tup (p.1.map kV)) ∧ RelV p.2 q.2.2) kvs xs ∧
      ∃ o es ep, h.get? a = some o ∧ o.ExactDict ∧ o.data = .dict es ep ∧ es.toList = xs.map (entryOfKey (tupleKind (mixKind P w))) ∧ (xs.map (·.1)).Nodup
  | .set S n => h.SetOf (intKind P w) a S n
  | .ins C dx fs => H dx = some (.own a) ∧ fs.length ≤ 1000 ∧ dx ≠ a ∧ h.get? a = some (PySem.W.instObj C dx) ∧
      ∃ mA, h.Ns1 dx mA ∧ (∀ f, RelO (fs.lookup f) (mA f)) ∧ PySem.Within mA (fs.map (·.1))
  | .own _ => ∃ o, h.get? a = some o
  | .xd fs => ∃ mA, h.Ns1 a mA ∧ ∀ f, RelO (fs.lookup f) (mA f)
  | .rng lo hi => ∃ t u v, h.get? a = some { cls := .type "range", data := .fields #[.int lo t, .int hi u, .int 1 v] }
  | .frz o u => h.get? a = some o ∧ ObjOk H h a u
  | .tbl ps => h.get? a = some { cls := .none, data := .fields ps }
  | .met f x => h.get? a = some (PySem.W.methodObj (.ref f) (.ref x))
  | .ext φ => φ h ∧ (∃ o, h.get? a = some o) ∧ ∀ h1 h2 : Heap, φ h1 → (∀ o, h1.get? a = some o → h2.get? a = some o) → φ h2
/-- the abstract heap is held -/
def HOk (H : Hp) (h : Heap) : Prop := ∀ a o, H a = some o → ObjOk P w H h a o
end

section
variable {P : Program} {w : World} {H H' : Hp} {h h' : Heap} {a : Addr} {o : HO}
theorem ObjOk.lt (x : ObjOk P w H h a o) : a < h.objs.size := by
  cases o with
  | lst xs => obtain ⟨_, _, _, _, e⟩ := x; exact Heap.lt_size e
  | tup xs => obtain ⟨_, _, _, p⟩ := x; exact p.lt
  | dK kvs => obtain ⟨_, _, _, _, o, _, _, e, _⟩ := x; exact Heap.lt_size e
  | dT kvs => obtain ⟨_, _, _, _, o, _, _, e, _⟩ := x; exact Heap.lt_size e
  | set S n => obtain ⟨o, _, _, _, e, _⟩ := x; exact Heap.lt_size e
  | ins C dx fs => obtain ⟨_, _, _, e, _⟩ := x; exact Heap.lt_size e
  | own y => obtain ⟨_, e⟩ := x; exact Heap.lt_size e
  | xd fs => obtain ⟨_, ⟨_, _, _, e, _⟩, _⟩ := x; exact Heap.lt_size e
  | rng lo hi => obtain ⟨_, _, _, e⟩ := x; exact Heap.lt_size e
  | frz ob u => obtain ⟨e, _⟩ := x; exact Heap.lt_size e
  | tbl ps => exact Heap.lt_size (show h.get? a = some _ from x)
  | met f y => exact Heap.lt_size (show h.get? a = some _ from x)
  | ext φ => obtain ⟨_, ⟨_, e⟩, _⟩ := x; exact Heap.lt_size e
theorem Paired.mapP {α β : Type} {F G : α → β → Prop} : ∀ {l₁ : List α} {l₂ : List β}, Paired F l₁ l₂ → (∀ a b, F a b → G a b) → Paired G l₁ l₂
  | _, _, .nil, _ => .nil
  | _, _, .cons r t, f => .cons (f _ _ r) (Paired.mapP t f)
/-- what an object's description leans on: its own object, its own dict, the tuples -/
theorem ObjOk.stay (x : ObjOk P w H h a o) (k : ∀ b u, (b = a ∨ H b = some (.own a)) → h.get? b = some u → h'.get? b = some u)
    (ho : ∀ b, H b = some (.own a) → H' b = some (.own a)) (ht : ∀ b xs, H b = some (.tup xs) → H' b = some (.tup xs)) : ObjOk P w H' h' a o := by
  induction o with
  | lst xs => obtain ⟨z, its, n, r, e⟩ := x; exact ⟨z, its, n, r, k _ _ (.inl rfl) e⟩
  | tup xs => obtain ⟨z, its, r, ob, e, c⟩ := x; exact ⟨z, its, r, ob, k _ _ (.inl rfl) e, c⟩
  | dK kvs => obtain ⟨z, y, vs, r, ob, es, ep, e, c⟩ := x; exact ⟨z, y, vs, r, ob, es, ep, k _ _ (.inl rfl) e, c⟩
  | dT kvs =>
    obtain ⟨z, y, xs, r, ob, es, ep, e, c⟩ := x
    exact ⟨z, y, xs, Paired.mapP r fun p q z => ⟨z.1, ht _ _ z.2.1, z.2.2⟩, ob, es, ep, k _ _ (.inl rfl) e, c⟩
  | set S n => obtain ⟨ob, es, ep, t, e, c⟩ := x; exact ⟨ob, es, ep, t, k _ _ (.inl rfl) e, c⟩
  | ins C dx fs =>
    obtain ⟨d, z, ne, e, mA, ⟨od, es, ep, e2, c⟩, r⟩ := x
    exact ⟨ho _ d, z, ne, k _ _ (.inl rfl) e, mA, ⟨od, es, ep, k _ _ (.inr d) e2, c⟩, r⟩
  | own y => obtain ⟨ob, e⟩ := x; exact ⟨ob, k _ _ (.inl rfl) e⟩
  | xd fs => obtain ⟨mA, ⟨od, es, ep, e, c⟩, r⟩ := x; exact ⟨mA, ⟨od, es, ep, k _ _ (.inl rfl) e, c⟩, r⟩
  | rng lo hi => obtain ⟨t, u, v, e⟩ := x; exact ⟨t, u, v, k _ _ (.inl rfl) e⟩
  | frz ob u ih => obtain ⟨e, q⟩ := x; exact ⟨k _ _ (.inl rfl) e, ih q⟩
  | tbl ps =>
    have e : h.get? a = some { cls := .none, data := .fields ps } := x
    show h'.get? a = some { cls := .none, data := .fields ps }
    exact k a _ (.inl rfl) e
  | met f y =>
    have e : h.get? a = some (PySem.W.methodObj (.ref f) (.ref y)) := x
    show h'.get? a = some (PySem.W.methodObj (.ref f) (.ref y))
    exact k a _ (.inl rfl) e
  | ext φ => obtain ⟨p, ⟨o, e⟩, st⟩ := x; exact ⟨st _ _ p fun o q => k _ _ (.inl rfl) q, ⟨o, k _ _ (.inl rfl) e⟩, st⟩
theorem HOk.lt (x : HOk P w H h) (e : H a = some o) : a < h.objs.size := (x a o e).lt
theorem HOk.fresh (x : HOk P w H h) (e : h.objs.size ≤ a) : H a = none := by
  cases q : H a with
  | none => rfl
  | some u => exact absurd (Nat.lt_of_lt_of_le (x.lt q) e) (Nat.lt_irrefl _)
/-- every object of the heap is kept -/
theorem HOk.kept (x : HOk P w H h) (k : ∀ b u, h.get? b = some u → h'.get? b = some u) : HOk P w H h' := fun a o e =>
  (x a o e).stay (fun b u _ q => k b u q) (fun _ q => q) fun _ _ q => q
/-- a new object is laid and tracked -/
theorem HOk.laid (x : HOk P w H h) (k : ∀ b u, h.get? b = some u → h'.get? b = some u) (hp : h.objs.size ≤ a) (new : ObjOk P w (upd H a o) h' a o) : HOk P w (upd H a o) h' := fun b u e => by
  have hn := x.fresh hp
  by_cases hb : b = a
  · subst hb; rw [upd_same] at e; cases e; exact new
  · rw [upd_ne hb] at e
    exact (x b u e).stay (fun c v _ q => k c v q) (fun c q => by rw [upd_ne (ne_of_none q hn)]; exact q) fun c xs q => by rw [upd_ne (ne_of_none q hn)]; exact q
end

/-- what may be read as u: it is u, or a known u -/
def Rd (H : Hp) (a : Addr) (u : HO) : Prop := H a = some u ∨ ∃ o, H a = some (.frz o u)
theorem Rd.of {H : Hp} {a : Addr} {u : HO} (h : H a = some u) : Rd H a u := .inl h
theorem Rd.ok {P : Program} {w : World} {H : Hp} {h : Heap} {a : Addr} {u : HO} (r : Rd H a u) (x : HOk P w H h) : ObjOk P w H h a u := by
  rcases r with r | ⟨o, r⟩
  · exact x a u r
  · obtain ⟨_, q⟩ := x a _ r
    exact q
/-- what may be written -/
def Mut : Option HO → Prop
  | some (.lst _) => True
  | some (.dK _) => True
  | some (.dT _) => True
  | some (.set _ _) => True
  | some (.ins _ _ _) => True
  | some (.ext _) => True
  | _ => False
section
variable {P : Program} {w : World} {H : Hp} {h h' : Heap} {x e : Addr} {o' : HO}
/-- the object at e is changed: x itself, or the dict of the instance x -/
theorem HOk.write (ok : HOk P w H h) (mu : Mut (H x)) (he : e = x ∨ H e = some (.own x)) (k : ∀ b u, b ≠ e → h.get? b = some u → h'.get? b = some u) (heo : ∃ u, h'.get? e = some u)
    (new : ObjOk P w (upd H x o') h' x o') : HOk P w (upd H x o') h' := fun b u q => by
  have nown : ∀ c y, H c = some (.own y) → c ≠ x := fun c y r z => by subst z; rw [r] at mu; exact mu
  have ntup : ∀ c xs, H c = some (.tup xs) → c ≠ x := fun c xs r z => by subst z; rw [r] at mu; exact mu
  by_cases hb : b = x
  · subst hb; rw [upd_same] at q; cases q; exact new
  · rw [upd_ne hb] at q
    by_cases hbe : b = e
    · have q' : H b = some (.own x) := by
        rcases he with z | z
        · exact absurd (hbe.trans z) hb
        · rw [hbe]; exact z
      rw [q] at q'; cases q'
      obtain ⟨v, hv⟩ := heo
      exact ⟨v, by rw [hbe]; exact hv⟩
    · refine (ok b u q).stay (fun c v hc r => k c v ?_ r) (fun c r => by rw [upd_ne (nown c b r)]; exact r) fun c xs r => by rw [upd_ne (ntup c xs r)]; exact r
      rcases hc with rfl | hc
      · exact hbe
      · rintro rfl
        rcases he with z | z
        · exact nown c b hc z
        · rw [hc] at z; cases z; exact hb rfl
end

/-! ### kept unless tracked; of the frames at fs (the callers') the slots may change (an exception that passes writes there); of the records at ex (iterators) nothing is said -/
structure Un (fs ex : List Addr) (H H' : Hp) (h h' : Heap) : Prop where
  keep : ∀ b o, h.get? b = some o → H b = none → b ∉ fs → b ∉ ex → h'.get? b = some o
  slot : ∀ b o, h.get? b = some o → H b = none → b ∈ fs → b ∉ ex → ∃ sl, h'.get? b = some { o with slots := sl }
  free : ∀ b o, h.get? b = some o → H b = none → b ∉ ex → H' b = none
  there : ∀ b o, h.get? b = some o → b ∉ ex → ∃ o', h'.get? b = some o'
  tups : ∀ b xs, H b = some (.tup xs) → H' b = some (.tup xs)
  frzs : ∀ b o u, H b = some (.frz o u) → H' b = some (.frz o u)
  tbls : ∀ b ps, H b = some (.tbl ps) → ∃ more, H' b = some (.tbl (ps ++ more))
section
variable {fs fs' ex ex' : List Addr} {H H1 H2 : Hp} {h h1 h2 h' : Heap} {a x e : Addr} {o : HO}
theorem Un.any (u : Un fs ex H H1 h h1) {b : Addr} {ob : Obj} (q : h.get? b = some ob) (n : H b = none) (hx : b ∉ ex) : ∃ sl, h1.get? b = some { ob with slots := sl } := by
  by_cases hb : b ∈ fs
  · exact u.slot b ob q n hb hx
  · exact ⟨ob.slots, u.keep b ob q n hb hx⟩
theorem Un.trans (a : Un fs ex H H1 h h1) (b : Un fs ex H1 H2 h1 h2) : Un fs ex H H2 h h2 where
  keep := fun c ob q n hc hx => b.keep c ob (a.keep c ob q n hc hx) (a.free c ob q n hx) hc hx
  slot := fun c ob q n hc hx => by
    obtain ⟨sl, e1⟩ := a.slot c ob q n hc hx
    obtain ⟨sl', e2⟩ := b.slot c _ e1 (a.free c ob q n hx) hc hx
    exact ⟨sl', e2⟩
  free := fun c ob q n hx => by
    obtain ⟨o', e1⟩ := a.there c ob q hx
    exact b.free c o' e1 (a.free c ob q n hx) hx
  there := fun c ob q hx => by
    obtain ⟨o', e1⟩ := a.there c ob q hx
    exact b.there c o' e1 hx
  tups := fun c xs q => b.tups c xs (a.tups c xs q)
  frzs := fun c ob xs q => b.frzs c ob xs (a.frzs c ob xs q)
  tbls := fun c ps q => by
    obtain ⟨m1, e1⟩ := a.tbls c ps q
    obtain ⟨m2, e2⟩ := b.tbls c _ e1
    exact ⟨m1 ++ m2, by rw [e2, Array.append_assoc]⟩
theorem Un.kept (k : ∀ b u, h.get? b = some u → h'.get? b = some u) : Un fs ex H H h h' :=
  ⟨fun b ob q _ _ _ => k b ob q, fun b ob q _ _ _ => ⟨ob.slots, k b ob q⟩, fun _ _ _ n _ => n, fun b ob q _ => ⟨ob, k b ob q⟩, fun _ _ q => q, fun _ _ _ q => q, fun _ ps q => ⟨#[], by rw [q]; simp⟩⟩
theorem Un.refl : Un fs ex H H h h := Un.kept fun _ _ q => q
theorem Un.laid (k : ∀ b u, h.get? b = some u → h'.get? b = some u) (hp : h.objs.size ≤ a) (hn : H a = none) : Un fs ex H (upd H a o) h h' where
  keep := fun b u q _ _ _ => k b u q
  slot := fun b u q _ _ _ => ⟨u.slots, k b u q⟩
  free := fun b u q n _ => by rw [upd_ne (Nat.ne_of_lt (Nat.lt_of_lt_of_le (Heap.lt_size q) hp))]; exact n
  there := fun b u q _ => ⟨u, k b u q⟩
  tups := fun b xs q => by rw [upd_ne (ne_of_none q hn)]; exact q
  frzs := fun b u xs q => by rw [upd_ne (ne_of_none q hn)]; exact q
  tbls := fun b ps q => ⟨#[], by rw [upd_ne (ne_of_none q hn), q]; simp⟩
theorem Un.write (mu : Mut (H x)) (he : e = x ∨ H e = some (.own x)) (k : ∀ b u, b ≠ e → h.get? b = some u → h'.get? b = some u) (heo : ∃ u, h'.get? e = some u) : Un fs ex H (upd H x o) h h' := by
  have hx : ∀ b, H b = none → b ≠ x := fun b n z => by subst z; rw [n] at mu; exact mu
  have hb : ∀ b, H b = none → b ≠ e := fun b n z => by
    subst z
    rcases he with r | r
    · exact hx b n r
    · rw [n] at r; cases r
  have hm : ∀ b u, H b = some u → ¬ Mut (some u) → b ≠ x := fun b u q nm z => by subst z; rw [q] at mu; exact nm mu
  refine ⟨fun b u q n _ _ => k b u (hb b n) q, fun b u q n _ _ => ⟨u.slots, k b u (hb b n) q⟩, fun b u q n _ => by rw [upd_ne (hx b n)]; exact n, fun b u q _ => ?_,
    fun b xs q => by rw [upd_ne (hm b _ q fun z => z)]; exact q, fun b u xs q => by rw [upd_ne (hm b _ q fun z => z)]; exact q, fun b ps q => ⟨#[], by rw [upd_ne (hm b _ q fun z => z), q]; simp⟩⟩
  by_cases hbe : b = e
  · subst hbe; exact heo
  · exact ⟨u, k b u hbe q⟩
theorem Un.mono (u : Un fs ex H H1 h h1) (hs : ∀ b ∈ fs, b ∈ fs') (hx : ∀ b ∈ ex, b ∈ ex') : Un fs' ex' H H1 h h1 :=
  ⟨fun b ob q n hb he => u.keep b ob q n (fun z => hb (hs b z)) fun z => he (hx b z), fun _ _ q n _ he => u.any q n fun z => he (hx _ z), fun b ob q n he => u.free b ob q n fun z => he (hx b z), fun b ob q he => u.there b ob q fun z => he (hx b z), u.tups, u.frzs, u.tbls⟩
end

/-! ### the heap without what is tracked -/
def trk (h : Heap) (H : Hp) : List Addr := (List.range h.objs.size).filter fun a => (H a).isSome
def hidT (h : Heap) (H : Hp) : Heap := PySem.W.hideAll h (trk h H)
theorem hidT_size (h : Heap) (H : Hp) : (hidT h H).objs.size = h.objs.size := PySem.W.hideAll_size _ _
theorem hidT_get {h : Heap} {H : Hp} {b : Addr} {o : Obj} (e : h.get? b = some o) (n : H b = none) : (hidT h H).get? b = some o :=
  PySem.W.hideAll_get _ e fun hm => by
    have q : (H b).isSome = true := (List.mem_filter.mp hm).2
    rw [n] at q; simp at q
theorem of_hidT {h : Heap} {H : Hp} {b : Addr} {o : Obj} (e : (hidT h H).get? b = some o) : h.get? b = some o ∧ H b = none := by
  have e' : h.get? b = some o := PySem.W.of_hideAll (trk h H) e
  refine ⟨e', ?_⟩
  cases q : H b with
  | none => rfl
  | some x =>
    have hm : b ∈ trk h H := List.mem_filter.mpr ⟨List.mem_range.mpr (Heap.lt_size e'), by simp [q]⟩
    have z : (hidT h H).get? b = none := PySem.W.hideAll_none (trk h H) hm
    rw [z] at e; cases e

/-! ### OpenK's ledger, filled with every new object but one -/
def allNews (g h : Heap) (L : Addr) : List (Addr × Obj) := (List.range h.objs.size).filterMap fun a => if a = L ∨ (g.get? a).isSome = true then none else (h.get? a).map fun o => (a, o)
def rest (g h : Heap) (L d : Addr) : List (Addr × Obj) := (allNews g h L).filter fun p => decide (p.1 ≠ d)
end L2

namespace L2
open PySem PySem.Spec PyProof.Rows

/-- the module's facts, over the base: the heap at the law's entry without what is tracked there -/
structure Mod (K : PySem.W.Frag) (mg : Str → Option Value) (base : Heap) : Prop where
  kin : K.In base
  glob : base.Ns mainGlobals mg
  blt : ∃ mb, base.Ns builtinsNs mb ∧ ∀ x : Str, x ≠ "__name__" → mb x = bootBuiltins x
  nolimit : base.NoLimit

/-- the context: a def's body (or a comprehension's block) running. base: fixed through the whole law; s₀, H₀: the entry; outer: the frames whose slots others may change (a def's callers); stack: all frames that run;
   ex: iterators that were made ahead of the entry and are walked here (a comprehension's); fn: the names whose cells were made at the entry (a def: all; a comprehension's block: its own); calm: not within an except suite; pn: pins that every state bears; xe: what is wanted of an exception that leaves the code -/
structure Cx where
  prog : Program
  w : World
  K : PySem.W.Frag
  mg : Str → Option Value
  base : Heap
  A : Around
  N : List Str
  s₀ : Shared
  H₀ : Hp
  env : Env
  outer : List Env
  stack : List Env
  ex : List Addr
  fn : Str → Bool
  calm : Bool
  pn : List (Addr × Obj)
  xe : Value → Shared → Prop
/-- the callers' frames -/
def frs (l : List Env) : List Addr := l.filterMap (·.frame)
abbrev Cx.fs (X : Cx) : List Addr := frs X.outer

def Vis (sc : Scope) (x : Str) : Prop := sc.names.lookup x = some .local ∨ sc.names.lookup x = some .cell ∨ sc.names.lookup x = some .free
def Loc (sc : Scope) (x : Str) : Prop := sc.names.lookup x = some .local ∨ sc.names.lookup x = some .cell
def Look (env : Env) (h : Heap) (m : Str → Option Value) (x : Str) (u : Value) : Prop :=
  (env.kindOf x = some .local ∧ m x = some u) ∨ ((env.kindOf x = some .cell ∨ env.kindOf x = some .free) ∧ ∃ c, env.cells.lookup x = some c ∧ h.IsCell c (some u))

structure Cx.Ok (X : Cx) : Prop where
  mod : Mod X.K X.mg X.base
  kind : X.env.scope.kind = .function
  glob : X.env.globals = mainGlobals
  blt : X.env.builtins = builtinsNs
  above : X.s₀.heap.objs.size ≤ X.env.locals
  inj : ∀ x y c, X.env.cells.lookup x = some c → X.env.cells.lookup y = some c → x = y
  has : ∀ x, (X.env.kindOf x = some .cell ∨ X.env.kindOf x = some .free) → ∃ c, X.env.cells.lookup x = some c
  cab : ∀ x c, X.fn x = true → X.env.cells.lookup x = some c → X.s₀.heap.objs.size ≤ c
  hd : X.calm = true → X.A.handled = none
  frames : X.A.frames = some X.stack
  stk : X.stack = X.outer ∨ (X.stack = X.env :: X.outer ∧ X.env.frame = some X.env.locals)
  exf : ∀ b ∈ X.ex, b ≠ X.env.locals ∧ ∀ x c, X.env.cells.lookup x = some c → c ≠ b
  bs : ∀ b o, X.base.get? b = some o → X.s₀.heap.get? b = some o ∧ X.H₀ b = none
  bsz : X.base.objs.size ≤ X.s₀.heap.objs.size
  noex : ∀ b o, X.base.get? b = some o → b ∉ X.ex
  exfs : ∀ b ∈ X.ex, b ∉ X.fs
  funs : X.s₀.heap.FunFrames X.base X.outer
  frf : ∀ b ∈ X.fs, X.H₀ b = none

structure Inv (X : Cx) (pins : List (Addr × Obj)) (σ : List (Option V)) (H : Hp) (s : Shared) : Prop where
  ok : X.Ok
  os : s.os = X.s₀.os
  bare : AllBare s.gens
  base : Un X.fs X.ex X.H₀ H X.s₀.heap s.heap
  loc : ∃ m, s.heap.Ns X.env.locals m ∧ ∀ (i : Nat) (x : Str) (v : V), X.N[i]? = some x → σ[i]? = some (some v) → Vis X.env.scope x → ∃ u, RelV v u ∧ Look X.env s.heap m x u
  cell : ∀ x c, X.env.cells.lookup x = some c → ∃ v, s.heap.IsCell c v
  free : H X.env.locals = none
  freeC : ∀ x c, X.env.cells.lookup x = some c → H c = none
  pin : ∀ p ∈ X.pn ++ pins, s.heap.get? p.1 = some p.2 ∧ H p.1 = none ∧ p.1 ≠ X.env.locals ∧ p.1 ∉ X.fs ∧ ∀ v, p.2.data ≠ .cell v
  hok : HOk X.prog X.w H s.heap
  len : σ.length = X.N.length

section
variable {X : Cx} {pins : List (Addr × Obj)} {σ : List (Option V)} {H H' : Hp} {s : Shared} {h' : Heap}

theorem Cx.Ok.nofr (ok : X.Ok) {b : Addr} {o : Obj} (e : X.base.get? b = some o) : b ∉ X.fs := fun hb => by
  have := (ok.funs.mem hb).1
  rw [e] at this; cases this
theorem Inv.bs (I : Inv X pins σ H s) : ∀ b o, X.base.get? b = some o → s.heap.get? b = some o ∧ H b = none := fun b o e =>
  ⟨I.base.keep b o (I.ok.bs b o e).1 (I.ok.bs b o e).2 (I.ok.nofr e) (I.ok.noex b o e), I.base.free b o (I.ok.bs b o e).1 (I.ok.bs b o e).2 (I.ok.noex b o e)⟩
theorem Inv.bk (I : Inv X pins σ H s) : ∀ b o, X.base.get? b = some o → s.heap.get? b = some o := fun b o e => (I.bs b o e).1
theorem Inv.mod (I : Inv X pins σ H s) : Mod X.K X.mg X.base := I.ok.mod
theorem Inv.kIn (I : Inv X pins σ H s) : X.K.In s.heap := I.ok.mod.kin.keeps I.bk
theorem Inv.nolimit (I : Inv X pins σ H s) : s.heap.NoLimit := I.ok.mod.nolimit.keeps I.bk
/-- the frame over the base: for OpenK's rules (K.In X.base is I.mod.kin) -/
theorem Inv.fr (I : Inv X pins σ H s) : ∃ m, Fr X.base X.env.locals s.heap m :=
  let ⟨m, hn, _⟩ := I.loc
  ⟨m, hn, I.bk, Nat.le_trans I.ok.bsz I.ok.above⟩
theorem Inv.lt (I : Inv X pins σ H s) : X.env.locals < s.heap.objs.size := let ⟨_, hn, _⟩ := I.loc; hn.lt
theorem Inv.sz (I : Inv X pins σ H s) : X.s₀.heap.objs.size ≤ s.heap.objs.size := Nat.le_trans I.ok.above (Nat.le_of_lt I.lt)
theorem Inv.nofs (I : Inv X pins σ H s) {a : Addr} (h : s.heap.objs.size ≤ a) : a ∉ X.fs := fun hb => by
  obtain ⟨_, o, ho, _⟩ := I.ok.funs.mem hb
  exact absurd (Nat.lt_of_lt_of_le (Heap.lt_size ho) (Nat.le_trans I.sz h)) (Nat.lt_irrefl _)
theorem Inv.cne (I : Inv X pins σ H s) : ∀ x c, X.env.cells.lookup x = some c → c ≠ X.env.locals := fun x c e z => by
  obtain ⟨v, o, ho, hd⟩ := I.cell x c e
  obtain ⟨m, ⟨o', es, ep, ho', hd', _⟩, _⟩ := I.loc
  rw [z, ho'] at ho; cases ho; rw [hd'] at hd; cases hd
theorem Inv.funs (I : Inv X pins σ H s) : s.heap.FunFrames X.base X.outer := by
  have all : ∀ (l : List Env), (∀ b ∈ frs l, b ∈ X.fs) → X.s₀.heap.FunFrames X.base l → s.heap.FunFrames X.base l := by
    intro l
    induction l with
    | nil => intro _ _; trivial
    | cons env r ih =>
      intro hs hl
      obtain ⟨hk, ⟨L, o, hf, hn, ho, hd⟩, hr⟩ := hl
      have hL : L ∈ X.fs := hs L (by unfold frs; rw [List.filterMap_cons, hf]; exact List.mem_cons_self)
      obtain ⟨sl, e⟩ := I.base.slot L o ho (I.ok.frf L hL) hL fun z => I.ok.exfs L z hL
      exact ⟨hk, ⟨L, _, hf, hn, e, hd⟩, ih (fun b hb => hs b (by unfold frs; rw [List.filterMap_cons, hf]; exact List.mem_cons_of_mem _ hb)) hr⟩
  exact all X.outer (fun _ hb => hb) I.ok.funs

/-- the frames that run, for a call -/
theorem Inv.stack (I : Inv X pins σ H s) : s.heap.FunFrames X.base X.stack := by
  rcases I.ok.stk with e | ⟨e, hf⟩
  · rw [e]; exact I.funs
  · rw [e]
    obtain ⟨m, hn, _⟩ := I.loc
    refine .cons (by rw [I.ok.kind]; decide) hf hn ?_ I.funs
    exact Heap.get?_none_of_le (Nat.le_trans I.ok.bsz I.ok.above)
theorem Inv.stkSub (I : Inv X pins σ H s) : ∀ b ∈ frs X.stack, b ∈ X.env.locals :: X.fs := fun b hb => by
  rcases I.ok.stk with e | ⟨e, hf⟩
  · rw [e] at hb; exact List.mem_cons_of_mem _ hb
  · rw [e] at hb
    unfold frs at hb
    rw [List.filterMap_cons, hf] at hb
    exact hb
theorem Inv.stkFree (I : Inv X pins σ H s) : ∀ b ∈ frs X.stack, H b = none := fun b hb => by
  rcases List.mem_cons.mp (I.stkSub b hb) with e | hb
  · rw [e]; exact I.free
  · obtain ⟨_, o, ho, _⟩ := I.ok.funs.mem hb
    exact I.base.free b o ho (I.ok.frf b hb) fun z => I.ok.exfs b z hb

/-- THE STEP: the untracked objects but the frame and the records at ch are kept (the callers' frames up to slots), the frame's map is kept, the new abstract heap is held -/
theorem Inv.step {g' : Array GenState} {t' : Nat} {d' : Drawn} {ch : List Addr} (I : Inv X pins σ H s)
    (hch : ∀ b ∈ ch, (b ∈ X.ex ∨ X.s₀.heap.objs.size ≤ b) ∧ b ≠ X.env.locals ∧ (∀ x c, X.env.cells.lookup x = some c → c ≠ b) ∧ ∀ p ∈ X.pn ++ pins, p.1 ≠ b)
    (keep : ∀ b o, b ≠ X.env.locals → b ∉ X.fs → b ∉ ch → s.heap.get? b = some o → H b = none → h'.get? b = some o)
    (slot : ∀ b o, b ≠ X.env.locals → b ∈ X.fs → b ∉ ch → s.heap.get? b = some o → H b = none → ∃ sl, h'.get? b = some { o with slots := sl }) (free : ∀ b o, b ∉ ch → s.heap.get? b = some o → H b = none → H' b = none)
    (there : ∀ b o, b ∉ ch → s.heap.get? b = some o → ∃ o', h'.get? b = some o')
    (tups : ∀ b xs, H b = some (.tup xs) → H' b = some (.tup xs)) (frzs : ∀ b o u, H b = some (.frz o u) → H' b = some (.frz o u)) (tbls : ∀ b ps, H b = some (.tbl ps) → ∃ more, H' b = some (.tbl (ps ++ more)))
    (ns : ∀ m, s.heap.Ns X.env.locals m → h'.Ns X.env.locals m) (hok : HOk X.prog X.w H' h') (hg : AllBare g') :
    Inv X pins σ H' { s with heap := h', gens := g', drawn := d', toks := t' } := by
  have neL : ∀ b o, X.s₀.heap.get? b = some o → b ≠ X.env.locals := fun b o e => Nat.ne_of_lt (Nat.lt_of_lt_of_le (Heap.lt_size e) I.ok.above)
  have neC : ∀ b o, X.s₀.heap.get? b = some o → b ∉ X.ex → b ∉ ch := fun b o e hx hb => by
    rcases (hch b hb).1 with z | z
    · exact hx z
    · exact absurd (Nat.lt_of_lt_of_le (Heap.lt_size e) z) (Nat.lt_irrefl _)
  have cellK : ∀ x c, X.env.cells.lookup x = some c → ∀ v, s.heap.IsCell c v → h'.IsCell c v := fun x c e v ⟨o, ho, hd⟩ => by
    have nch : c ∉ ch := fun z => (hch c z).2.2.1 x c e rfl
    by_cases hc : c ∈ X.fs
    · obtain ⟨sl, q⟩ := slot c o (I.cne x c e) hc nch ho (I.freeC x c e)
      exact ⟨_, q, hd⟩
    · exact ⟨o, keep c o (I.cne x c e) hc nch ho (I.freeC x c e), hd⟩
  refine ⟨I.ok, I.os, hg, ⟨fun b o e n hb hx => ?_, fun b o e n hb hx => ?_, fun b o e n hx => ?_, fun b o e hx => ?_, fun b xs e => tups b xs (I.base.tups b xs e), fun b o xs e => frzs b o xs (I.base.frzs b o xs e), fun b ps e => ?_⟩, ?_, fun x c e => ?_, ?_, fun x c e => ?_, fun p hp => ?_, hok, I.len⟩
  · exact keep b o (neL b o e) hb (neC b o e hx) (I.base.keep b o e n hb hx) (I.base.free b o e n hx)
  · obtain ⟨sl, e1⟩ := I.base.slot b o e n hb hx
    obtain ⟨sl', e2⟩ := slot b _ (neL b o e) hb (neC b o e hx) e1 (I.base.free b o e n hx)
    exact ⟨sl', e2⟩
  · obtain ⟨o', e1⟩ := I.base.there b o e hx
    exact free b o' (neC b o e hx) e1 (I.base.free b o e n hx)
  · obtain ⟨o', e1⟩ := I.base.there b o e hx
    exact there b o' (neC b o e hx) e1
  · obtain ⟨m1, e1⟩ := I.base.tbls b ps e
    obtain ⟨m2, e2⟩ := tbls b _ e1
    exact ⟨m1 ++ m2, by rw [e2, Array.append_assoc]⟩
  · obtain ⟨m, hn, hl⟩ := I.loc
    refine ⟨m, ns m hn, fun i x v e1 e2 e3 => ?_⟩
    obtain ⟨u, r, l⟩ := hl i x v e1 e2 e3
    refine ⟨u, r, ?_⟩
    rcases l with l | ⟨k, c, e, z⟩
    · exact .inl l
    · exact .inr ⟨k, c, e, cellK x c e _ z⟩
  · obtain ⟨v, z⟩ := I.cell x c e
    exact ⟨v, cellK x c e v z⟩
  · obtain ⟨m, ⟨o, _, _, ho, _⟩, _⟩ := I.loc
    exact free _ o (fun z => (hch _ z).2.1 rfl) ho I.free
  · obtain ⟨v, o, ho, hd⟩ := I.cell x c e
    exact free c o (fun z => (hch c z).2.2.1 x c e rfl) ho (I.freeC x c e)
  · obtain ⟨e, n, ne, nf, d⟩ := I.pin p hp
    have nch : p.1 ∉ ch := fun z => (hch p.1 z).2.2.2 p hp rfl
    exact ⟨keep p.1 p.2 ne nf nch e n, free p.1 p.2 nch e n, ne, nf, d⟩
/-- .. where the frame's own object is kept too -/
theorem Inv.un {t' : Nat} (I : Inv X pins σ H s) (u : Un X.fs [] H H' s.heap h') (hok : HOk X.prog X.w H' h') : Inv X pins σ H' { s with heap := h', toks := t' } := by
  obtain ⟨m, ⟨o, es, ep, ho, r⟩, _⟩ := id I.loc
  obtain ⟨sl, hL⟩ := u.any ho I.free (by simp)
  exact I.step (g' := s.gens) (d' := s.drawn) (ch := []) (fun _ z => nomatch z) (fun b o _ hb _ e n => u.keep b o e n hb (by simp)) (fun b o _ hb _ e n => u.slot b o e n hb (by simp)) (fun b o _ e n => u.free b o e n (by simp)) (fun b o _ e => u.there b o e (by simp)) u.tups u.frzs u.tbls (fun m' hm => by
    obtain ⟨o', es', ep', ho', r'⟩ := hm
    rw [ho] at ho'; cases ho'
    exact ⟨_, es', ep', hL, r'⟩) hok I.bare
/-- behind a call (or a comprehension's block): the slots of this frame may have changed too, the records at ch may have turned -/
theorem Inv.call {g' : Array GenState} {t' : Nat} {d' : Drawn} {ch : List Addr} (I : Inv X pins σ H s) (u : Un (frs X.stack) ch H H' s.heap h') (hok : HOk X.prog X.w H' h') (hg : AllBare g')
    (hch : ∀ b ∈ ch, (b ∈ X.ex ∨ X.s₀.heap.objs.size ≤ b) ∧ b ≠ X.env.locals ∧ (∀ x c, X.env.cells.lookup x = some c → c ≠ b) ∧ ∀ p ∈ X.pn ++ pins, p.1 ≠ b) :
    Inv X pins σ H' { s with heap := h', gens := g', drawn := d', toks := t' } := by
  obtain ⟨m, ⟨o, es, ep, ho, r⟩, _⟩ := id I.loc
  obtain ⟨sl, hL⟩ := u.any ho I.free fun z => (hch _ z).2.1 rfl
  exact I.step (ch := ch) hch (fun b o hL hb hc e n => u.keep b o e n (fun z => (List.mem_cons.mp (I.stkSub b z)).elim hL hb) hc) (fun b o _ _ hc e n => u.any e n hc) (fun b o hc e n => u.free b o e n hc) (fun b o hc e => u.there b o e hc) u.tups u.frzs u.tbls (fun m' hm => by
    obtain ⟨o', es', ep', ho', r'⟩ := hm
    rw [ho] at ho'; cases ho'
    exact ⟨_, es', ep', hL, r'⟩) hok hg
/-- an untracked record of ours (an iterator) has turned -/
theorem Inv.turned {t' : Nat} {it : Addr} (I : Inv X pins σ H s) (k : ∀ b o, b ≠ it → s.heap.get? b = some o → h'.get? b = some o) (hn : H it = none) (hL : it ≠ X.env.locals)
    (h1 : it ∈ X.ex ∨ X.s₀.heap.objs.size ≤ it) (h2 : ∀ x c, X.env.cells.lookup x = some c → c ≠ it) (h3 : ∀ p ∈ X.pn ++ pins, p.1 ≠ it) : Inv X pins σ H { s with heap := h', toks := t' } := by
  have nit : ∀ b u, H b = some u → b ≠ it := fun b u e z => by rw [z, hn] at e; cases e
  refine I.step (g' := s.gens) (d' := s.drawn) (ch := [it]) (fun b hb => ?_) (fun b o _ _ hc e _ => k b o (fun z => hc (by simp [z])) e) (fun b o _ _ hc e _ => ⟨o.slots, k b o (fun z => hc (by simp [z])) e⟩) (fun _ _ _ _ n => n)
    (fun b o hc e => ⟨o, k b o (fun z => hc (by simp [z])) e⟩) (fun _ _ e => e) (fun _ _ _ e => e) (fun b ps e => ⟨#[], by rw [e]; simp⟩) (fun m hm => ?_) (fun b u e => ?_) I.bare
  · have e : b = it := by simpa using hb
    subst e
    exact ⟨h1, hL, h2, h3⟩
  · obtain ⟨o, es, ep, ho, r⟩ := hm
    exact ⟨o, es, ep, k _ o (Ne.symm hL) ho, r⟩
  · refine (I.hok b u e).stay (fun c v hc q => k c v ?_ q) (fun _ q => q) fun _ _ q => q
    rcases hc with z | z
    · rw [z]; exact nit b u e
    · exact nit c _ z
theorem Inv.tok (I : Inv X pins σ H s) (t : Nat) : Inv X pins σ H { s with toks := t } := I.un (h' := s.heap) (t' := t) Un.refl I.hok
/-- all objects kept -/
theorem Inv.kept {t' : Nat} (I : Inv X pins σ H s) (k : ∀ b u, s.heap.get? b = some u → h'.get? b = some u) : Inv X pins σ H { s with heap := h', toks := t' } := I.un (Un.kept k) (I.hok.kept k)
/-- a new object laid and tracked -/
theorem Inv.laid {a : Addr} {o : HO} {t' : Nat} (I : Inv X pins σ H s) (k : ∀ b u, s.heap.get? b = some u → h'.get? b = some u) (hp : s.heap.objs.size ≤ a) (new : ObjOk X.prog X.w (upd H a o) h' a o) :
    Inv X pins σ (upd H a o) { s with heap := h', toks := t' } := I.un (Un.laid k hp (I.hok.fresh hp)) (I.hok.laid k hp new)
/-- an object written -/
theorem Inv.write {x e : Addr} {o : HO} {t' : Nat} (I : Inv X pins σ H s) (mu : Mut (H x)) (he : e = x ∨ H e = some (.own x)) (k : ∀ b u, b ≠ e → s.heap.get? b = some u → h'.get? b = some u) (heo : ∃ u, h'.get? e = some u)
    (new : ObjOk X.prog X.w (upd H x o) h' x o) : Inv X pins σ (upd H x o) { s with heap := h', toks := t' } := I.un (Un.write mu he k heo) (I.hok.write mu he k heo new)
/-- forgetting slots, pins -/
theorem Inv.weak {σ' : List (Option V)} (I : Inv X pins σ H s) (hl : σ'.length = σ.length) (w : ∀ (i : Nat) v, σ'[i]? = some (some v) → σ[i]? = some (some v)) : Inv X pins σ' H s :=
  ⟨I.ok, I.os, I.bare, I.base, let ⟨m, hn, hl'⟩ := I.loc; ⟨m, hn, fun i x v e1 e2 e3 => hl' i x v e1 (w i v e2) e3⟩, I.cell, I.free, I.freeC, I.pin, I.hok, hl.trans I.len⟩
theorem Inv.pins_of {pins' : List (Addr × Obj)} (I : Inv X pins σ H s) (h : ∀ p ∈ pins', s.heap.get? p.1 = some p.2 ∧ H p.1 = none ∧ p.1 ≠ X.env.locals ∧ p.1 ∉ X.fs ∧ ∀ v, p.2.data ≠ .cell v) : Inv X pins' σ H s :=
  ⟨I.ok, I.os, I.bare, I.base, I.loc, I.cell, I.free, I.freeC, fun p hp => (List.mem_append.mp hp).elim (fun z => I.pin p (List.mem_append_left _ z)) (h p), I.hok, I.len⟩

theorem nodup_ix {N : List Str} (hN : N.Nodup) {i j : Nat} {x : Str} (a : N[i]? = some x) (b : N[j]? = some x) : i = j := by
  obtain ⟨h1, e1⟩ := List.getElem?_eq_some_iff.mp a
  obtain ⟨h2, e2⟩ := List.getElem?_eq_some_iff.mp b
  exact (List.getElem_inj hN).mp (e1.trans e2.symm)

/-- a name is stored; what changed -/
theorem store_ok2 {M : Model} {A : Around} {E : Value → Shared → Prop} {i : Nat} {x : Str} {v : V} {u : Value} {Q : Unit → Shared → Prop} (I : Inv X pins σ H s) (hN : X.N.Nodup) (hi : X.N[i]? = some x) (hx : Loc X.env.scope x) (r : RelV v u)
    (h : ∀ s', Inv X pins (σ.set i (some v)) H s' → (∃ a, Heap.SameBut a s.heap s'.heap ∧ (a = X.env.locals ∨ X.env.cells.lookup x = some a)) → Q () s') (hf : X.fn x = true ∨ X.env.scope.names.lookup x = some .local := by first | exact .inl rfl | exact .inr rfl | assumption) : wpAny M A (storeName X.env x u) Q E s := by
  obtain ⟨m, hn, hl⟩ := id I.loc
  have hcls : (X.env.scope.kind == .class || (X.env.scope.kind == .module && X.env.locals != X.env.globals)) = false := by rw [I.ok.kind]; rfl
  have hiσ : i < σ.length := by rw [I.len]; exact (List.getElem?_eq_some_iff.mp hi).1
  have cne := I.cne
  have tracked : ∀ {a : Addr} {h' : Heap}, (∃ o, s.heap.get? a = some o ∧ H a = none) → Heap.SameBut a s.heap h' → HOk X.prog X.w H h' := fun {a h'} ha hs b ob e => by
    obtain ⟨_, _, hfree⟩ := ha
    refine (I.hok b ob e).stay (fun c w' hc q => (hs.2 c ?_).trans q) (fun _ q => q) fun _ _ q => q
    rintro rfl
    rcases hc with rfl | hc
    · rw [hfree] at e; cases e
    · rw [hfree] at hc; cases hc
  rcases hx with hk | hk
  · refine wpAny_storeName_local hk hn (fun h' hn' hs => ?_) hcls
    obtain ⟨oL, _, _, hoL, _⟩ := id hn
    refine h _ ⟨I.ok, I.os, I.bare, ⟨fun b o e n hb hx => ?_, fun b o e n hb hx => ?_, I.base.free, fun b o e hx => ?_, I.base.tups, I.base.frzs, I.base.tbls⟩, ⟨_, hn', fun j y v' e1 e2 e3 => ?_⟩, fun y c e => ?_, I.free, I.freeC, fun p hp => ?_, tracked ⟨oL, hoL, I.free⟩ hs, by simpa using I.len⟩ ⟨_, hs, .inl rfl⟩
    · exact (hs.2 b (Nat.ne_of_lt (Nat.lt_of_lt_of_le (Heap.lt_size e) I.ok.above))).trans (I.base.keep b o e n hb hx)
    · obtain ⟨sl, e1⟩ := I.base.slot b o e n hb hx
      exact ⟨sl, (hs.2 b (Nat.ne_of_lt (Nat.lt_of_lt_of_le (Heap.lt_size e) I.ok.above))).trans e1⟩
    · obtain ⟨o', e1⟩ := I.base.there b o e hx
      exact ⟨o', (hs.2 b (Nat.ne_of_lt (Nat.lt_of_lt_of_le (Heap.lt_size e) I.ok.above))).trans e1⟩
    · by_cases hj : j = i
      · subst hj
        rw [hi] at e1; cases e1
        rw [List.getElem?_set_self hiσ] at e2
        cases e2
        exact ⟨u, r, .inl ⟨hk, by simp⟩⟩
      · rw [List.getElem?_set_ne (Ne.symm hj)] at e2
        obtain ⟨u', r', q⟩ := hl j y v' e1 e2 e3
        refine ⟨u', r', ?_⟩
        rcases q with ⟨k, e⟩ | ⟨k, c, e, z⟩
        · refine .inl ⟨k, ?_⟩
          have : y ≠ x := fun e => hj (nodup_ix hN e1 (e ▸ hi))
          simp [this, e]
        · exact .inr ⟨k, c, e, z.sameBut hs (cne y c e)⟩
    · obtain ⟨w', z⟩ := I.cell y c e
      exact ⟨w', z.sameBut hs (cne y c e)⟩
    · obtain ⟨e, n, ne, nf, d⟩ := I.pin p hp
      exact ⟨(hs.2 p.1 ne).trans e, n, ne, nf, d⟩
  · have hfn : X.fn x = true := by
      rcases hf with z | z
      · exact z
      · rw [z] at hk; cases hk
    obtain ⟨c, hc⟩ := I.ok.has x (.inl hk)
    obtain ⟨w', z⟩ := I.cell x c hc
    refine wpAny_storeName_cell I.ok.kind hk hc z (fun h' hc' hs => ?_)
    obtain ⟨oc, hoc, hocd⟩ := id z
    refine h { s with heap := h' } ⟨I.ok, I.os, I.bare, ⟨fun b o e n hb hx => ?_, fun b o e n hb hx => ?_, I.base.free, fun b o e hx => ?_, I.base.tups, I.base.frzs, I.base.tbls⟩, ⟨m, hn.sameBut hs (Ne.symm (cne x c hc)), fun j y v' e1 e2 e3 => ?_⟩, fun y c' e => ?_, I.free, I.freeC, fun p hp => ?_, tracked ⟨oc, hoc, I.freeC x c hc⟩ hs, by simpa using I.len⟩ ⟨c, hs, .inr hc⟩
    · exact (hs.2 b (Nat.ne_of_lt (Nat.lt_of_lt_of_le (Heap.lt_size e) (I.ok.cab x c hfn hc)))).trans (I.base.keep b o e n hb hx)
    · obtain ⟨sl, e1⟩ := I.base.slot b o e n hb hx
      exact ⟨sl, (hs.2 b (Nat.ne_of_lt (Nat.lt_of_lt_of_le (Heap.lt_size e) (I.ok.cab x c hfn hc)))).trans e1⟩
    · obtain ⟨o', e1⟩ := I.base.there b o e hx
      exact ⟨o', (hs.2 b (Nat.ne_of_lt (Nat.lt_of_lt_of_le (Heap.lt_size e) (I.ok.cab x c hfn hc)))).trans e1⟩
    · by_cases hj : j = i
      · subst hj
        rw [hi] at e1; cases e1
        rw [List.getElem?_set_self hiσ] at e2
        cases e2
        exact ⟨u, r, .inr ⟨.inl hk, c, hc, hc'⟩⟩
      · rw [List.getElem?_set_ne (Ne.symm hj)] at e2
        obtain ⟨u', r', q⟩ := hl j y v' e1 e2 e3
        refine ⟨u', r', ?_⟩
        rcases q with q | ⟨k, c', e, z'⟩
        · exact .inl q
        · refine .inr ⟨k, c', e, z'.sameBut hs ?_⟩
          rintro rfl
          exact hj (nodup_ix hN e1 (I.ok.inj _ _ _ e hc ▸ hi))
    · by_cases hcc : c' = c
      · subst hcc; exact ⟨_, hc'⟩
      · obtain ⟨w2, z2⟩ := I.cell y c' e
        exact ⟨w2, z2.sameBut hs hcc⟩
    · obtain ⟨e, n, ne, nf, d⟩ := I.pin p hp
      refine ⟨(hs.2 p.1 ?_).trans e, n, ne, nf, d⟩
      intro q
      rw [q, hoc] at e
      have q' : oc = p.2 := Option.some.inj e
      exact d w' (by rw [← q']; exact hocd)
theorem store_ok {M : Model} {A : Around} {E : Value → Shared → Prop} {i : Nat} {x : Str} {v : V} {u : Value} {Q : Unit → Shared → Prop} (I : Inv X pins σ H s) (hN : X.N.Nodup) (hi : X.N[i]? = some x) (hx : Loc X.env.scope x) (r : RelV v u)
    (h : ∀ s', Inv X pins (σ.set i (some v)) H s' → Q () s') (hf : X.fn x = true ∨ X.env.scope.names.lookup x = some .local := by first | exact .inl rfl | exact .inr rfl | assumption) : wpAny M A (storeName X.env x u) Q E s :=
  store_ok2 I hN hi hx r (fun s' I' _ => h s' I') hf
/-- behind a call or a block, the state as it is -/
theorem Inv.call' {s' : Shared} {ch : List Addr} (I : Inv X pins σ H s) (ho : s'.os = s.os) (u : Un (frs X.stack) ch H H' s.heap s'.heap) (hok : HOk X.prog X.w H' s'.heap) (hg : AllBare s'.gens)
    (hch : ∀ b ∈ ch, (b ∈ X.ex ∨ X.s₀.heap.objs.size ≤ b) ∧ b ≠ X.env.locals ∧ (∀ x c, X.env.cells.lookup x = some c → c ≠ b) ∧ ∀ p ∈ X.pn ++ pins, p.1 ≠ b) : Inv X pins σ H' s' := by
  obtain ⟨h', g', d', t', o'⟩ := s'
  have e : o' = s.os := ho
  subst e
  exact I.call (g' := g') (t' := t') (d' := d') u hok hg hch
end

/-! ### the judgements -/
/-- an exception: its class, its own dict's address (where it has one), the abstract heap behind it -/
abbrev XK := Value → Option Addr → Hp → Prop
abbrev St := List (Option V)
abbrev VK := V → Hp → Prop
/-- an expression's reading; a test's; an argument list's -/
abbrev TE := St → Hp → VK → Prop
abbrev TT := St → Hp → (Bool → Hp → Prop) → Prop
abbrev TA := St → Hp → (List V → Hp → Prop) → Prop
/-- what is wanted behind a statement -/
structure Ends where
  nx : St → Hp → Prop
  rt : VK
  bk : St → Hp → Prop := fun _ _ => False
  ct : St → Hp → Prop := fun _ _ => False
abbrev TS := Ends → St → Hp → Prop

def EP (X : Cx) (pins : List (Addr × Obj)) (σ : St) (Q : VK) (u : Value) (s' : Shared) : Prop := ∃ v H', Inv X pins σ H' s' ∧ RelV v u ∧ Q v H'
def TP (X : Cx) (pins : List (Addr × Obj)) (σ : St) (Q : Bool → Hp → Prop) (b : Bool) (s' : Shared) : Prop := ∃ H', Inv X pins σ H' s' ∧ Q b H'
def AP (X : Cx) (pins : List (Addr × Obj)) (σ : St) (Q : List V → Hp → Prop) (us : List Value) (s' : Shared) : Prop := ∃ vs H', Inv X pins σ H' s' ∧ Vals vs us ∧ Q vs H'
def SP (X : Cx) (pins : List (Addr × Obj)) (D : Ends) (f : Flow) (s' : Shared) : Prop :=
  match f with
  | .next => ∃ σ' H', Inv X pins σ' H' s' ∧ D.nx σ' H'
  | .brk => ∃ σ' H', Inv X pins σ' H' s' ∧ D.bk σ' H'
  | .cont => ∃ σ' H', Inv X pins σ' H' s' ∧ D.ct σ' H'
  | .ret u => ∃ v σ' H', Inv X pins σ' H' s' ∧ RelV v u ∧ D.rt v H'

def PE (X : Cx) (e : Expr) (t : TE) : Prop :=
  ∀ (pins : List (Addr × Obj)) (s : Shared) (σ : St) (H : Hp) (Q : VK), Inv X pins σ H s → t σ H Q → wpAny (model X.prog X.w) X.A (eval e X.env) (EP X pins σ Q) X.xe s
def PT (X : Cx) (e : Expr) (t : TT) : Prop :=
  ∀ (pins : List (Addr × Obj)) (s : Shared) (σ : St) (H : Hp) (Q : Bool → Hp → Prop), Inv X pins σ H s → t σ H Q → wpAny (model X.prog X.w) X.A (isTrue e X.env (eval e X.env)) (TP X pins σ Q) X.xe s
/-- a test whatever its 'whole' is (and, or) -/
def PW (X : Cx) (e : Expr) (t : TT) : Prop :=
  ∀ (whole : Sem Value) (pins : List (Addr × Obj)) (s : Shared) (σ : St) (H : Hp) (Q : Bool → Hp → Prop), Inv X pins σ H s → t σ H Q → wpAny (model X.prog X.w) X.A (isTrue e X.env whole) (TP X pins σ Q) X.xe s
theorem PW.pt {X : Cx} {e : Expr} {t : TT} (h : PW X e t) : PT X e t := h _
/-- an argument list (no star), from the left -/
def PA (X : Cx) (es : List Expr) (t : TA) : Prop :=
  ∀ (pos : Pos) (pins : List (Addr × Obj)) (s : Shared) (σ : St) (H : Hp) (Q : List V → Hp → Prop), Inv X pins σ H s → t σ H Q → wpAny (model X.prog X.w) X.A (spliced (backTo pos (starEach es X.env))) (AP X pins σ Q) X.xe s
def PS (X : Cx) (st : Stmt) (t : TS) : Prop :=
  ∀ (pins : List (Addr × Obj)) (s : Shared) (σ : St) (H : Hp) (D : Ends), Inv X pins σ H s → t D σ H → wpAny (model X.prog X.w) X.A (exec st X.env) (SP X pins D) X.xe s
def PSs (X : Cx) (st : List Stmt) (t : TS) : Prop :=
  ∀ (pins : List (Addr × Obj)) (s : Shared) (σ : St) (H : Hp) (D : Ends), Inv X pins σ H s → t D σ H → wpAny (model X.prog X.w) X.A (execs st X.env) (SP X pins D) X.xe s
/-- weaken the end -/
theorem thn {α : Type} {t : Sem α} {Q Q' : α → Shared → Prop} {M : Model} {A : Around} {E : Value → Shared → Prop} {s : Shared} (h : wpAny M A t Q E s) (hQ : ∀ a s, Q a s → Q' a s) : wpAny M A t Q' E s := wpAny_mono h hQ fun _ _ x => x
end L2

namespace L2
open PySem PySem.Spec PyProof.Rows
section
variable {X : Cx}

/-- two expressions in a row -/
theorem bin {a b : Expr} {ta tb : TE} (ha : PE X a ta) (hb : PE X b tb) {pins : List (Addr × Obj)} {s : Shared} {σ : St} {H : Hp} {R : V → V → Hp → Prop} (I : Inv X pins σ H s) (h : ta σ H fun x H1 => tb σ H1 fun y H2 => R x y H2)
    {α : Type} {Q : α → Shared → Prop} {f : Value → Value → Sem α}
    (hf : ∀ v u s2 x y H2, Inv X pins σ H2 s2 → RelV x v → RelV y u → R x y H2 → wpAny (model X.prog X.w) X.A (f v u) Q X.xe s2) :
    wpAny (model X.prog X.w) X.A (eval a X.env) (fun v s₁ => wpAny (model X.prog X.w) X.A (eval b X.env) (fun u s₂ => wpAny (model X.prog X.w) X.A (f v u) Q X.xe s₂) X.xe s₁) X.xe s := by
  refine thn (ha pins s σ H _ I h) fun v s1 ⟨x, H1, I1, r1, q1⟩ => ?_
  refine thn (hb pins s1 σ H1 _ I1 q1) fun u s2 ⟨y, H2, I2, r2, q2⟩ => ?_
  exact hf v u s2 x y H2 I2 r1 r2 q2

/-! ### names and constants -/
def tVar (i : Nat) : TE := fun σ H Q => ∃ v, σ[i]? = some (some v) ∧ Q v H
def tC (v : V) : TE := fun _ H Q => Q v H
theorem pe_var {i : Nat} {x : Str} {pos : Pos} (hN : X.N[i]? = some x) (hv : Vis X.env.scope x) (hd : (x == ("__debug__" : Str)) = false := by decide) (hcd : (x == ("__classdict__" : Str)) = false := by decide) : PE X (.Name x pos) (tVar i) := by
  intro pins s σ H Q I h
  obtain ⟨v, e, h⟩ := h
  obtain ⟨m, hn, hl⟩ := I.loc
  obtain ⟨u, r, l⟩ := hl i x v hN e hv
  have fin : EP X pins σ Q u s := ⟨v, H, I, r, h⟩
  rcases l with ⟨hk, hm⟩ | ⟨hk, c, hc, hcell⟩
  · exact wpAny_Name (wpAny_loadName_local I.ok.kind hk hn hm fin) hd
  · rcases hk with hk | hk
    · exact wpAny_Name (wpAny_loadName_cell I.ok.kind hk hc hcell fin) hd
    · exact wpAny_Name (wpAny_loadName_free I.ok.kind hk hc hcell fin hcd) hd
theorem pe_int {i j pos} : PE X (.Constant (.int i) j pos) (tC (.int i)) := fun _ _ _ H _ I h => wpAny_Constant_int ⟨.int i, H, I.tok _, ⟨_, rfl⟩, h⟩
theorem pe_bl {b j pos} : PE X (.Constant (.bool b) j pos) (tC (.bl b)) := fun _ _ _ H _ I h => Constant_bool ⟨.bl b, H, I, rfl, h⟩
theorem pe_non {j pos} : PE X (.Constant .none j pos) (tC .non) := fun _ _ _ H _ I h => Constant_none ⟨.non, H, I, rfl, h⟩
theorem pe_str {x j pos} : PE X (.Constant (.str x) j pos) (tC (.str x)) := fun _ _ _ H _ I h => Calls.Constant_str ⟨.str x, H, I.tok _, ⟨_, rfl⟩, h⟩

/-- a global name of the def -/
def Gl (X : Cx) (x : Str) : Prop := X.env.kindOf x = some .globalImplicit
theorem ld_glob {E : Value → Shared → Prop} {pins : List (Addr × Obj)} {s : Shared} {σ : St} {H : Hp} {x : Str} {u : Value} {pos : Pos} {Q : Value → Shared → Prop} (I : Inv X pins σ H s) (hg : Gl X x) (hm : X.mg x = some u) (h : Q u s)
    (hd : (x == ("__debug__" : Str)) = false := by decide) : wpAny (model X.prog X.w) X.A (eval (.Name x pos) X.env) Q E s :=
  Calls.Name_function_global I.ok.kind hg (Calls.loadGlobal_global (by rw [I.ok.glob]; exact I.mod.glob.keeps I.bk) hm h) hd
theorem ld_blt {E : Value → Shared → Prop} {pins : List (Addr × Obj)} {s : Shared} {σ : St} {H : Hp} {x : Str} {u : Value} {pos : Pos} {Q : Value → Shared → Prop} (I : Inv X pins σ H s) (hg : Gl X x) (hm : X.mg x = none) (hv : bootBuiltins x = some u) (h : Q u s)
    (hn : x ≠ "__name__" := by decide) (hd : (x == ("__debug__" : Str)) = false := by decide) : wpAny (model X.prog X.w) X.A (eval (.Name x pos) X.env) Q E s := by
  obtain ⟨mb, h1, h2⟩ := I.mod.blt
  exact Calls.Name_function_global I.ok.kind hg (Calls.loadGlobal_builtin (by rw [I.ok.glob]; exact I.mod.glob.keeps I.bk) hm (by rw [I.ok.blt]; exact h1.keeps I.bk) ((h2 x hn).trans hv) h) hd
/-- a module's constant, a class, a function, as a value -/
theorem pe_glob {x : Str} {v : V} {u : Value} {pos : Pos} (hg : Gl X x) (hm : X.mg x = some u) (r : RelV v u) (hd : (x == ("__debug__" : Str)) = false := by decide) : PE X (.Name x pos) (tC v) :=
  fun _ _ _ H _ I h => ld_glob I hg hm ⟨v, H, I, r, h⟩ hd
theorem pe_bltn {x : Str} {v : V} {u : Value} {pos : Pos} (hg : Gl X x) (hm : X.mg x = none) (hv : bootBuiltins x = some u) (r : RelV v u) (hn : x ≠ "__name__" := by decide) (hd : (x == ("__debug__" : Str)) = false := by decide) : PE X (.Name x pos) (tC v) :=
  fun _ _ _ H _ I h => ld_blt I hg hm hv ⟨v, H, I, r, h⟩ hn hd

/-! ### arithmetic -/
/-- two ints -/
def t2I (ta tb : TE) (k : Int → Int → Hp → Prop) : St → Hp → Prop := fun σ H => ta σ H fun x H1 => tb σ H1 fun y H2 => ∃ i j, x = .int i ∧ y = .int j ∧ k i j H2
def tAdd (ta tb : TE) : TE := fun σ H Q => t2I ta tb (fun i j H2 => Q (.int (i + j)) H2) σ H
def tSub (ta tb : TE) : TE := fun σ H Q => t2I ta tb (fun i j H2 => Q (.int (i - j)) H2) σ H
/-- the left factor below 2^64 -/
def tMul (ta tb : TE) : TE := fun σ H Q => t2I ta tb (fun i j H2 => (-(2 ^ 64) < i ∧ i < 2 ^ 64) ∧ Q (.int (i * j)) H2) σ H
variable {a b : Expr} {ta tb : TE} {pos : Pos}
/-! ### comparisons -/
def PC (X : Cx) (op : CmpOp) (a b : Expr) (t : TE) : Prop :=
  ∀ (pins : List (Addr × Obj)) (s : Shared) (σ : St) (H : Hp) (Q : VK), Inv X pins σ H s → t σ H Q →
    wpAny (model X.prog X.w) X.A (eval a X.env) (fun v s₁ => wpAny (model X.prog X.w) X.A (eval b X.env) (fun u s₂ => wpAny (model X.prog X.w) X.A (compareOp op v u) (EP X pins σ Q) X.xe s₂) X.xe s₁) X.xe s
theorem nobehind (b : Expr) {op : CmpOp} (h : op ≠ .In) (h2 : op ≠ .NotIn) : behindInMarks op b = false := by
  have e1 : (op == CmpOp.In) = false := by cases op <;> first | rfl | exact absurd rfl h
  have e2 : (op == CmpOp.NotIn) = false := by cases op <;> first | rfl | exact absurd rfl h2
  cases b <;> simp [behindInMarks, e1, e2]
def tCmp (p : Int → Int → Bool) (ta tb : TE) : TE := fun σ H Q => t2I ta tb (fun i j H2 => Q (.bl (p i j)) H2) σ H
abbrev tLt : TE → TE → TE := tCmp fun i j => decide (i < j)
abbrev tLe : TE → TE → TE := tCmp fun i j => decide (i ≤ j)
abbrev tGt : TE → TE → TE := tCmp fun i j => decide (j < i)
abbrev tGe : TE → TE → TE := tCmp fun i j => decide (j ≤ i)
abbrev tEqI : TE → TE → TE := tCmp fun i j => decide (i = j)
abbrev tNeI : TE → TE → TE := tCmp fun i j => !decide (i = j)
/-- is None -/
def tIsN (ta : TE) : TE := fun σ H Q => ta σ H fun x H1 => Q (.bl (decide (x = .non))) H1
def tNotN (ta : TE) : TE := fun σ H Q => ta σ H fun x H1 => Q (.bl (!decide (x = .non))) H1
/-- a comparison as a value, as a test -/
def tB (t : TE) : TT := fun σ H Q => t σ H fun x H1 => ∃ c, x = .bl c ∧ Q c H1
theorem pt_cmp {op : CmpOp} {t : TE} (h : PC X op a b t) (h1 : behindInMarks op b = false := by first | exact nobehind _ (by decide) (by decide) | rfl) : PT X (.Compare a [op] [b] pos) (tB t) := by
  intro pins s σ H Q I hw
  refine wpAny_isTrue_Compare1 (thn (h pins s σ H _ I hw) fun v s1 h1 => thn h1 fun u s2 h2 => thn h2 fun c s3 ⟨x, H1, I1, r1, q1⟩ => ?_) h1
  obtain ⟨d, rfl, q⟩ := q1
  cases r1
  exact wpAny_truthy_bool ⟨H1, I1, q⟩
/-! ### and, or, not -/
variable {tA tB' : TT} {rest : List Expr}
def tAnd (t u : TT) : TT := fun σ H Q => t σ H fun c H1 => if c = true then u σ H1 Q else Q false H1
def tOr (t u : TT) : TT := fun σ H Q => t σ H fun c H1 => if c = true then Q true H1 else u σ H1 Q
def tNot (t : TT) : TT := fun σ H Q => t σ H fun c H1 => Q (!c) H1
theorem pw_and1 (ha : PT X a tA) : PW X (.BoolOp .And [a] pos) tA := by
  intro wh pins s σ H Q I h
  refine isTrue_and (thn (ha pins s σ H Q I h) fun c s1 e => ?_)
  cases c with
  | true => exact isTrue_and_nil e
  | false => exact e
theorem pw_or1 (ha : PT X a tA) : PW X (.BoolOp .Or [a] pos) tA := by
  intro wh pins s σ H Q I h
  refine isTrue_or (thn (ha pins s σ H Q I h) fun c s1 e => ?_)
  cases c with
  | false => exact isTrue_or_nil e
  | true => exact e
theorem pw_and (ha : PT X a tA) (hb : PW X (.BoolOp .And (b :: rest) pos) tB') : PW X (.BoolOp .And (a :: b :: rest) pos) (tAnd tA tB') := by
  intro wh pins s σ H Q I h
  refine isTrue_and (thn (ha pins s σ H _ I h) fun c s1 ⟨H1, I1, q1⟩ => ?_)
  cases c with
  | true => exact hb wh pins s1 σ H1 Q I1 q1
  | false => exact ⟨H1, I1, q1⟩
theorem pw_or (ha : PT X a tA) (hb : PW X (.BoolOp .Or (b :: rest) pos) tB') : PW X (.BoolOp .Or (a :: b :: rest) pos) (tOr tA tB') := by
  intro wh pins s σ H Q I h
  refine isTrue_or (thn (ha pins s σ H _ I h) fun c s1 ⟨H1, I1, q1⟩ => ?_)
  cases c with
  | true => exact ⟨H1, I1, q1⟩
  | false => exact hb wh pins s1 σ H1 Q I1 q1
theorem pt_not (ha : PT X a tA) : PT X (.UnaryOp .Not a pos) (tNot tA) := by
  intro pins s σ H Q I h
  exact isTrue_not (ha pins s σ H (fun c H1 => Q (!c) H1) I h)
/-- .. as values (bools) -/
def tAndV (ta tb : TE) : TE := fun σ H Q => ta σ H fun x H1 => ∃ c, x = .bl c ∧ if c = true then tb σ H1 Q else Q (.bl false) H1
def tOrV (ta tb : TE) : TE := fun σ H Q => ta σ H fun x H1 => ∃ c, x = .bl c ∧ if c = true then Q (.bl true) H1 else tb σ H1 Q
def tNotV (ta : TE) : TE := fun σ H Q => ta σ H fun x H1 => ∃ c, x = .bl c ∧ Q (.bl (!c)) H1
theorem pe_one {op} {t : TE} (h : PE X a t) : PE X (.BoolOp op [a] pos) t := fun pins s σ H Q I hw => BoolOp_one (h pins s σ H Q I hw)
theorem pe_and (ha : PE X a ta) (hb : PE X (.BoolOp .And (b :: rest) pos) tb) : PE X (.BoolOp .And (a :: b :: rest) pos) (tAndV ta tb) := by
  intro pins s σ H Q I h
  refine BoolOp_and (thn (ha pins s σ H _ I h) fun v s1 ⟨x, H1, I1, r1, q1⟩ => ?_)
  obtain ⟨c, rfl, q1⟩ := q1
  cases r1
  refine wpAny_truthy_bool ?_
  cases c with
  | true => exact hb pins s1 σ H1 Q I1 q1
  | false => exact ⟨.bl false, H1, I1, rfl, q1⟩
theorem pe_not (ha : PE X a ta) : PE X (.UnaryOp .Not a pos) (tNotV ta) := by
  intro pins s σ H Q I h
  refine UnaryOp_ (thn (ha pins s σ H _ I h) fun v s1 ⟨x, H1, I1, r1, q1⟩ => ?_)
  obtain ⟨c, rfl, q1⟩ := q1
  cases r1
  exact not_of (wpAny_truthy_bool ⟨.bl (!c), H1, I1, rfl, q1⟩)
/-- a if t else b -/
def tIf (t : TT) (ta tb : TE) : TE := fun σ H Q => t σ H fun c H1 => if c = true then ta σ H1 Q else tb σ H1 Q
end
end L2

namespace L2
open PySem PySem.Spec PyProof.Rows

/-! ### a list, a tuple that is read: tracked, frozen, or an object of the module -/
def SqL (K : PySem.W.Frag) (H : Hp) (a : Addr) (xs : List V) : Prop :=
  Rd H a (.lst xs) ∨
    ∃ (o : Obj) (its : Array Value) (n : Nat), K.lookup a = some o ∧ o.cls = .type "list" ∧ o.dict = none ∧ o.data = .seq its n ∧ its.size ≤ sizeLine ∧ Vals xs its.toList
def SqT (K : PySem.W.Frag) (H : Hp) (a : Addr) (xs : List V) : Prop :=
  Rd H a (.tup xs) ∨
    ∃ (o : Obj) (its : Array Value) (n : Nat), K.lookup a = some o ∧ o.cls = .type "tuple" ∧ o.data = .seq its n ∧ its.size ≤ sizeLine ∧ Vals xs its.toList
def absV : Value → Option V
  | .none => some .non
  | .bool b => some (.bl b)
  | .int i _ => some (.int i)
  | .str x _ => some (.str x)
  | .bytes b _ => some (.byt b)
  | .float b _ => some (.flt b)
  | .ref a => some (.ref a)
  | .type n => some (.ty n)
  | _ => none
theorem RelV.abs {x : V} {u : Value} (r : RelV x u) : absV u = some x := by
  cases x with
  | non => cases r; rfl
  | bl _ => cases r; rfl
  | int _ => obtain ⟨t, rfl⟩ := r; rfl
  | str _ => obtain ⟨t, rfl⟩ := r; rfl
  | byt _ => obtain ⟨t, rfl⟩ := r; rfl
  | flt _ => obtain ⟨t, rfl⟩ := r; rfl
  | ref _ => cases r; rfl
  | ty _ => cases r; rfl
theorem RelV.inj {x y : V} {u : Value} (r : RelV x u) (q : RelV y u) : x = y := Option.some.inj (r.abs.symm.trans q.abs)
theorem Vals.inj : ∀ {xs ys : List V} {us : List Value}, Vals xs us → Vals ys us → xs = ys
  | _, _, _, .nil, .nil => rfl
  | _, _, _, .cons r t, .cons r' t' => by rw [r.inj r', Vals.inj t t']
section
variable {X : Cx} {pins : List (Addr × Obj)} {σ : St} {H : Hp} {s : Shared} {a : Addr} {xs ys : List V}
theorem SqL.of {K : PySem.W.Frag} (h : H a = some (.lst xs)) : SqL K H a xs := .inl (.inl h)
theorem SqT.of {K : PySem.W.Frag} (h : H a = some (.tup xs)) : SqT K H a xs := .inl (.inl h)
theorem Inv.list (I : Inv X pins σ H s) (h : SqL X.K H a xs) : ∃ its : List Value, Vals xs its ∧ PlainL s.heap a its.toArray ∧ xs.length ≤ sizeLine := by
  rcases h with h | ⟨o, its, n, hk, hc, hd, hs, hz, r⟩
  · obtain ⟨z, its, n, r, e⟩ := h.ok I.hok
    exact ⟨its, r, ⟨_, n, e, rfl, rfl, rfl⟩, z⟩
  · refine ⟨its.toList, r, ⟨o, n, I.kIn a o hk, hc, hd, by simpa using hs⟩, ?_⟩
    have e := r.length
    simp only [Array.length_toList] at e
    omega
theorem Inv.tuple (I : Inv X pins σ H s) (h : SqT X.K H a xs) : ∃ its : List Value, Vals xs its ∧ IsTup s.heap a its.toArray ∧ xs.length ≤ sizeLine := by
  rcases h with h | ⟨o, its, n, hk, hc, hs, hz, r⟩
  · obtain ⟨z, its, r, p⟩ := h.ok I.hok
    exact ⟨its, r, p, z⟩
  · refine ⟨its.toList, r, ⟨o, I.kIn a o hk, hc, n, by simpa using hs⟩, ?_⟩
    have e := r.length
    simp only [Array.length_toList] at e
    omega
theorem Inv.list_inj (I : Inv X pins σ H s) (h : SqL X.K H a xs) (h' : SqL X.K H a ys) : xs = ys := by
  obtain ⟨its, r, ⟨o, n, e, _, _, d⟩, _⟩ := I.list h
  obtain ⟨its', r', ⟨o', n', e', _, _, d'⟩, _⟩ := I.list h'
  rw [e] at e'; cases e'
  rw [d] at d'
  injection d' with d1 _
  have : its = its' := by simpa using congrArg Array.toList d1
  subst this
  exact r.inj r'
end

/-! ### another wish about exceptions -/
abbrev Cx.wish (X : Cx) (E : Value → Shared → Prop) : Cx := { X with xe := E }
/-- no exception leaves -/
abbrev Cx.nox (X : Cx) : Cx := X.wish fun _ _ => False
theorem Cx.Ok.wish {X : Cx} (ok : X.Ok) (E : Value → Shared → Prop) : (X.wish E).Ok :=
  ⟨ok.mod, ok.kind, ok.glob, ok.blt, ok.above, ok.inj, ok.has, ok.cab, ok.hd, ok.frames, ok.stk, ok.exf, ok.bs, ok.bsz, ok.noex, ok.exfs, ok.funs, ok.frf⟩
theorem Cx.Ok.unwish {X : Cx} {E : Value → Shared → Prop} (ok : (X.wish E).Ok) : X.Ok :=
  ⟨ok.mod, ok.kind, ok.glob, ok.blt, ok.above, ok.inj, ok.has, ok.cab, ok.hd, ok.frames, ok.stk, ok.exf, ok.bs, ok.bsz, ok.noex, ok.exfs, ok.funs, ok.frf⟩
section
variable {X : Cx} {pins : List (Addr × Obj)} {σ : St} {H : Hp} {s : Shared} {E : Value → Shared → Prop}
theorem Inv.wish (I : Inv X pins σ H s) (E : Value → Shared → Prop) : Inv (X.wish E) pins σ H s := ⟨I.ok.wish E, I.os, I.bare, I.base, I.loc, I.cell, I.free, I.freeC, I.pin, I.hok, I.len⟩
theorem Inv.unwish (I : Inv (X.wish E) pins σ H s) : Inv X pins σ H s := ⟨I.ok.unwish, I.os, I.bare, I.base, I.loc, I.cell, I.free, I.freeC, I.pin, I.hok, I.len⟩
theorem SP.unwish {D : Ends} {f : Flow} {s' : Shared} (h : SP (X.wish E) pins D f s') : SP X pins D f s' := by
  cases f with
  | next => obtain ⟨σ', H', I, q⟩ := h; exact ⟨σ', H', I.unwish, q⟩
  | brk => obtain ⟨σ', H', I, q⟩ := h; exact ⟨σ', H', I.unwish, q⟩
  | cont => obtain ⟨σ', H', I, q⟩ := h; exact ⟨σ', H', I.unwish, q⟩
  | ret u => obtain ⟨v, σ', H', I, r, q⟩ := h; exact ⟨v, σ', H', I.unwish, r, q⟩
theorem PE.nox {e : Expr} {t : TE} (h : PE X.nox e t) : PE X e t := fun pins s σ H Q I hw =>
  wpAny_mono (h pins s σ H Q (I.wish _) hw) (fun _ _ ⟨v, H', I', r, q⟩ => ⟨v, H', I'.unwish, r, q⟩) fun _ _ z => False.elim z
theorem PT.nox {e : Expr} {t : TT} (h : PT X.nox e t) : PT X e t := fun pins s σ H Q I hw =>
  wpAny_mono (h pins s σ H Q (I.wish _) hw) (fun _ _ ⟨H', I', q⟩ => ⟨H', I'.unwish, q⟩) fun _ _ z => False.elim z
theorem PSs.nox {st : List Stmt} {t : TS} (h : PSs X.nox st t) : PSs X st t := fun pins s σ H D I hw =>
  wpAny_mono (h pins s σ H D (I.wish _) hw) (fun _ _ q => q.unwish) fun _ _ z => False.elim z
end

/-! ### blocks and small statements -/
section
variable {X : Cx} {st : Stmt} {rest : List Stmt} {t u : TS} {e : Expr} {te : TE} {pos : Pos}
def tNext : TS := fun D σ H => D.nx σ H
def tSeq (t u : TS) : TS := fun D σ H => t { D with nx := u D } σ H
theorem pss_nil : PSs X [] tNext := fun _ _ σ H _ I h => wpAny_execs_nil ⟨σ, H, I, h⟩
theorem pss_cons (h1 : PS X st t) (h2 : PSs X rest u) : PSs X (st :: rest) (tSeq t u) := by
  intro pins s σ H D I h
  refine wpAny_execs_cons (thn (h1 pins s σ H { D with nx := u D } I h) fun f s1 q => ?_)
  cases f with
  | next =>
    obtain ⟨σ', H', I', q⟩ := q
    exact h2 pins s1 σ' H' D I' q
  | ret v => exact q
  | brk => exact q
  | cont => exact q
theorem pss_one (h1 : PS X st t) : PSs X [st] t := by
  intro pins s σ H D I h
  refine wpAny_execs_cons (thn (h1 pins s σ H D I h) fun f s1 q => ?_)
  cases f with
  | next => exact wpAny_execs_nil q
  | ret v => exact q
  | brk => exact q
  | cont => exact q
def tBreak : TS := fun D σ H => D.bk σ H
def tCont : TS := fun D σ H => D.ct σ H
/-- in a def's body nothing is shown -/
theorem Inv.quiet {pins : List (Addr × Obj)} {σ : St} {H : Hp} {s : Shared} (I : Inv X pins σ H s) : interactive X.env = false := by simp [interactive, I.ok.kind]
/-- an expression whose value is dropped -/
def tDrop (te : TE) : TS := fun D σ H => te σ H fun _ H1 => D.nx σ H1
theorem ps_expr (he : PE X e te) (hs : swapsWith e none pos.line X.env = pure false := by rfl) : PS X (.Expr e pos) (tDrop te) := by
  intro pins s σ H D I h
  exact wpAny_Expr_any (thn (he pins s σ H _ I h) fun v s1 ⟨x, H1, I1, r1, q1⟩ => ⟨σ, H1, I1, q1⟩) I.quiet hs
def tRet (te : TE) : TS := fun D σ H => te σ H D.rt
theorem ps_ret (he : PE X e te) : PS X (.Return (some e) pos) (tRet te) := by
  intro pins s σ H D I h
  exact wpAny_Return_some (thn (he pins s σ H _ I h) fun v s1 ⟨x, H1, I1, r1, q1⟩ => ⟨x, σ, H1, I1, r1, q1⟩)
def tRetN : TS := fun D _ H => D.rt .non H
def tIfS (c : TT) (t u : TS) : TS := fun D σ H => c σ H fun b H1 => if b = true then t D σ H1 else u D σ H1
theorem ps_if {c : Expr} {a b : List Stmt} {tc : TT} (hc : PT X c tc) (ha : PSs X a t) (hb : PSs X b u) : PS X (.If c a b pos) (tIfS tc t u) := by
  intro pins s σ H D I h
  refine wpAny_If (thn (hc pins s σ H _ I h) fun d s1 ⟨H1, I1, q1⟩ => ?_)
  cases d with
  | true => exact ha pins s1 σ H1 D I1 q1
  | false => exact hb pins s1 σ H1 D I1 q1
/-- code that the proof never comes to -/
def tNever : TS := fun _ _ _ => False
end

/-! ### targets -/
abbrev TG := V → St → Hp → (St → Hp → Prop) → Prop
abbrev TGs := List V → St → Hp → (St → Hp → Prop) → Prop
def PG (X : Cx) (target : Expr) (t : TG) : Prop :=
  ∀ (pins : List (Addr × Obj)) (s : Shared) (σ : St) (H : Hp) (v : V) (u : Value) (Q : St → Hp → Prop), Inv X pins σ H s → RelV v u → t v σ H Q →
    wpAny (model X.prog X.w) X.A (assign target X.env u) (fun _ s' => ∃ σ' H', Inv X pins σ' H' s' ∧ Q σ' H') X.xe s
/-- several targets, one after another -/
def PGs (X : Cx) (ts : List Expr) (t : TGs) : Prop :=
  ∀ (pins : List (Addr × Obj)) (s : Shared) (σ : St) (H : Hp) (vs : List V) (us : List Value) (Q : St → Hp → Prop), Inv X pins σ H s → Vals vs us → t vs σ H Q →
    wpAny (model X.prog X.w) X.A (assignInOrder ((assignEach ts X.env).map (·.2)) us) (fun _ s' => ∃ σ' H', Inv X pins σ' H' s' ∧ Q σ' H') X.xe s
/-- o[i] = v, by values -/
abbrev TSet := V → V → V → Hp → (Hp → Prop) → Prop
def PSet (X : Cx) (t : TSet) : Prop :=
  ∀ (pins : List (Addr × Obj)) (s : Shared) (σ : St) (H : Hp) (o i v : V) (ov iv u : Value) (Q : Hp → Prop), Inv X pins σ H s → RelV o ov → RelV i iv → RelV v u → t o i v H Q →
    wpAny (model X.prog X.w) X.A (setItem ov iv u) (fun _ s' => ∃ H', Inv X pins σ H' s' ∧ Q H') X.xe s
/-- a op= b, by values -/
abbrev TIp := V → V → Hp → VK → Prop
def PIp (X : Cx) (op : Operator) (t : TIp) : Prop :=
  ∀ (pins : List (Addr × Obj)) (s : Shared) (σ : St) (H : Hp) (x y : V) (v u : Value) (Q : VK), Inv X pins σ H s → RelV x v → RelV y u → t x y H Q →
    wpAny (model X.prog X.w) X.A (inplaceOp op v u) (EP X pins σ Q) X.xe s
section
variable {X : Cx} {pos : Pos}
def gName (i : Nat) : TG := fun v σ H Q => Q (σ.set i (some v)) H
theorem pg_name {i : Nat} {x : Str} (hN : X.N.Nodup) (hi : X.N[i]? = some x) (hx : Loc X.env.scope x) (hf : X.fn x = true ∨ X.env.scope.names.lookup x = some .local := by first | exact .inl rfl | exact .inr rfl | assumption) : PG X (.Name x pos) (gName i) := by
  intro pins s σ H v u Q I r h
  exact wpAny_assign_Name (store_ok I hN hi hx r (fun s' I' => ⟨_, H, I', h⟩) hf)
def gNil : TGs := fun vs σ H Q => vs = [] ∧ Q σ H
def gCons (t : TG) (u : TGs) : TGs := fun vs σ H Q => ∃ v r, vs = v :: r ∧ t v σ H fun σ' H' => u r σ' H' Q
theorem pgs_nil : PGs X [] gNil := by
  intro pins s σ H vs us Q I r h
  obtain ⟨e, h⟩ := h
  subst e
  cases r
  exact assignInOrder_nil ⟨σ, H, I, h⟩
theorem pgs_cons {e : Expr} {es : List Expr} {t : TG} {u : TGs} (h1 : PG X e t) (h2 : PGs X es u)
    (hs : (assignEach (e :: es) X.env).map (·.2) = assign e X.env :: (assignEach es X.env).map (·.2) := by rfl) : PGs X (e :: es) (gCons t u) := by
  intro pins s σ H vs us Q I r h
  obtain ⟨v, vr, e1, h⟩ := h
  subst e1
  cases r with
  | cons r rr =>
    rw [hs]
    refine assignInOrder_cons (thn (h1 pins s σ H _ _ _ I r h) fun _ s1 ⟨σ1, H1, I1, q1⟩ => ?_)
    exact h2 pins s1 σ1 H1 _ _ Q I1 rr q1
/-- (a, b, ..) = a tuple of that length -/
def gTup (K : PySem.W.Frag) (n : Nat) (t : TGs) : TG := fun v σ H Q => ∃ a xs, v = .ref a ∧ SqT K H a xs ∧ xs.length = n ∧ t xs σ H Q
theorem pg_tup {es : List Expr} {k : Nat} {t : TGs} {n : Nat} (hc : X.calm = true) (h : PGs X es t)
    (hn : (assignEach es X.env).length = n := by rfl) (hst : (assignEach es X.env).findIdx? (·.1) = none := by rfl) : PG X (.Tuple es k pos) (gTup X.K n t) := by
  intro pins s σ H v u Q I r hw
  obtain ⟨a, xs, e1, hq, hl, hw⟩ := hw
  subst e1
  cases r
  obtain ⟨its, rv, ht, hz⟩ := I.tuple hq
  refine assign_Tuple_tuple (I.ok.hd hc) ht (by simp [hn, ← hl, rv.length]) hst fun h' hx => ?_
  have I1 : Inv X pins σ H { s with heap := h' } := I.kept (t' := s.toks) fun b o e => hx b o (Nat.ne_of_lt (Heap.lt_size e)) e
  exact h pins _ σ H xs _ Q I1 (by simpa using rv) hw
/-- o[i] = .. -/
def gSub (to ti : TE) (t : TSet) : TG := fun v σ H Q => to σ H fun o H1 => ti σ H1 fun i H2 => t o i v H2 fun H3 => Q σ H3
theorem pg_sub {o i : Expr} {to ti : TE} {t : TSet} (ho : PE X o to) (hi : PE X i ti) (hs : PSet X t)
    (ha : ∀ v, assign (.Subscript o i pos) X.env v = (do
      let ov ← holding [v] (eval o X.env)
      let iv ← holding [v, ov] (eval i X.env)
      standAt pos
      holding [v, ov, iv] (setItem ov iv v)
      release [v, ov, iv] []) := by intro _; rfl) : PG X (.Subscript o i pos) (gSub to ti t) := by
  intro pins s σ H v u Q I r h
  rw [ha]
  refine wpAny_bind (wpAny_holding (thn (ho pins s σ H _ I h) fun ov s1 ⟨x, H1, I1, r1, q1⟩ => ?_))
  refine wpAny_bind (wpAny_holding (thn (hi pins s1 σ H1 _ I1 q1) fun iv s2 ⟨y, H2, I2, r2, q2⟩ => ?_))
  refine wpAny_bind (wpAny_standAt (wpAny_bind (wpAny_holding (thn (hs pins s2 σ H2 x y v ov iv u _ I2 r1 r2 r q2) fun _ s3 ⟨H3, I3, q3⟩ => ?_))))
  exact wpAny_release ⟨σ, H3, I3, q3⟩
/-- target = value -/
def tAsg (te : TE) (g : TG) : TS := fun D σ H => te σ H fun x H1 => g x σ H1 D.nx
theorem ps_asg {tg e : Expr} {te : TE} {g : TG} (he : PE X e te) (hg : PG X tg g) (hs : swapsWithSole [tg] e pos.line X.env = pure false := by rfl) (hw : swappedStores [tg] e X.env = pure none := by rfl)
    (h1 : (assignEach [tg] X.env).map (·.2) = [assign tg X.env] := by rfl) : PS X (.Assign [tg] e pos) (tAsg te g) := by
  intro pins s σ H D I h
  refine wpAny_Assign_stores (thn (he pins s σ H _ I h) fun v s1 ⟨x, H1, I1, r1, q1⟩ => ?_) hs hw
  rw [h1]
  exact thn (hg pins s1 σ H1 x v _ I1 r1 q1) fun _ s2 q => q
/-- name = value -/
theorem ps_set {i : Nat} {x : Str} {e : Expr} {te : TE} {pos' : Pos} (hN : X.N.Nodup) (hi : X.N[i]? = some x) (hx : Loc X.env.scope x) (he : PE X e te) (hs : swapsWith e (some (.Name x pos')) pos.line X.env = pure false := by rfl) (hf : X.fn x = true ∨ X.env.scope.names.lookup x = some .local := by first | exact .inl rfl | exact .inr rfl | assumption) :
    PS X (.Assign [.Name x pos'] e pos) (tAsg te (gName i)) := by
  intro pins s σ H D I h
  refine wpAny_Assign_Name (thn (he pins s σ H _ I h) fun v s1 ⟨y, H1, I1, r1, q1⟩ => ?_) hs
  exact store_ok I1 hN hi hx r1 (fun s2 I2 => ⟨_, H1, I2, q1⟩) hf
/-- a, b = x, y with plain local names: stored from the right; the pair itself is not tracked (the opening rows as in PyProof/Rows/TupAssign.lean:23) -/
def tPar (i j : Nat) (ta : TA) : TS := fun D σ H => ta σ H fun vs H1 => ∃ v w, vs = [v, w] ∧ D.nx ((σ.set i (some v)).set j (some w)) H1
/-- name op= e -/
def tAug (i : Nat) (te : TE) (ti : TIp) : TS := fun D σ H => ∃ x, σ[i]? = some (some x) ∧ te σ H fun y H1 => ti x y H1 fun z H2 => D.nx (σ.set i (some z)) H2
/-- o[i] op= e -/
def tAugS (to ti te : TE) (tget : V → V → Hp → VK → Prop) (tip : TIp) (tset : TSet) : TS := fun D σ H => to σ H fun o H1 => ti σ H1 fun i H2 => tget o i H2 fun x H3 => te σ H3 fun y H4 => tip x y H4 fun z H5 => tset o i z H5 fun H6 => D.nx σ H6
/-- o[i], by values -/
def PGet (X : Cx) (t : V → V → Hp → VK → Prop) : Prop :=
  ∀ (pins : List (Addr × Obj)) (s : Shared) (σ : St) (H : Hp) (o i : V) (ov iv : Value) (Q : VK), Inv X pins σ H s → RelV o ov → RelV i iv → t o i H Q →
    wpAny (model X.prog X.w) X.A (getItem ov iv) (EP X pins σ Q) X.xe s
/-- ints -/
def ipI (f : Int → Int → Int) : TIp := fun x y H Q => ∃ i j, x = .int i ∧ y = .int j ∧ Q (.int (f i j)) H
theorem ip_add : PIp X .Add (ipI fun i j => i + j) := by
  intro pins s σ H x y v u Q I r1 r2 h
  obtain ⟨i, j, e1, e2, q⟩ := h
  subst e1; subst e2
  obtain ⟨t, rfl⟩ := r1
  obtain ⟨t', rfl⟩ := r2
  exact iadd_int ⟨.int _, H, I.tok _, ⟨_, rfl⟩, q⟩
end

/-! ### while -/
section
variable {X : Cx} {pos : Pos}
/-- the invariant W with its measure -/
def tWhile (c : TT) (tb : TS) : TS := fun D σ H => ∃ W : Nat → St → Hp → Prop, (∃ m, W m σ H) ∧ ∀ m σ H, W m σ H →
  c σ H fun b H1 => if b = true then ∃ N : St → Hp → Prop, (∀ σ' H', N σ' H' → ∃ m', m' < m ∧ W m' σ' H') ∧ tb { D with nx := N, ct := N, bk := D.nx } σ H1 else D.nx σ H1
end

/-! ### what a loop or a comprehension walks -/
/-- at turn i: it yields x (the heap may grow), or it stops -/
structure It where
  go : Nat → Hp → Prop
  yld : Nat → Hp → V → Hp → Prop
  stop : Nat → Hp → Prop
/-- the iterator's own objects may turn: they are not the frame's, not pinned, younger than the entry (or a comprehension's own) -/
def FpOk (X : Cx) (pins : List (Addr × Obj)) (H : Hp) (b : Addr) : Prop :=
  H b = none ∧ b ≠ X.env.locals ∧ b ∉ X.fs ∧ (b ∈ X.ex ∨ X.s₀.heap.objs.size ≤ b) ∧ (∀ x c, X.env.cells.lookup x = some c → c ≠ b) ∧ ∀ p ∈ X.pn ++ pins, p.1 ≠ b
theorem Inv.fpOk {X : Cx} {pins : List (Addr × Obj)} {σ : St} {H H' : Hp} {s : Shared} {b : Addr} (I : Inv X pins σ H s) (hb : s.heap.objs.size ≤ b) (hn : H' b = none) : FpOk X pins H' b := by
  refine ⟨hn, Nat.ne_of_gt (Nat.lt_of_lt_of_le I.lt hb), I.nofs hb, .inr (Nat.le_trans I.sz hb), fun x c e z => ?_, fun p hp z => ?_⟩
  · obtain ⟨v, q⟩ := I.cell x c e
    exact absurd (Nat.lt_of_lt_of_le q.lt (by rw [z]; exact hb)) (Nat.lt_irrefl _)
  · exact absurd (Nat.lt_of_lt_of_le (Heap.lt_size (I.pin p hp).1) (by rw [z]; exact hb)) (Nat.lt_irrefl _)
structure Turn (P : Program) (w : World) (K : PySem.W.Frag) (tg : Expr) (J : It) (fp : List Addr) (it : Addr) (tn : Nat → Heap → Prop) : Prop where
  mem : it ∈ fp
  obj : ∀ i h, tn i h → ∀ b ∈ fp, ∃ o, h.get? b = some o ∧ ∀ v, o.data ≠ .cell v
  keep : ∀ i h h', tn i h → (∀ b ∈ fp, ∀ o, h.get? b = some o → h'.get? b = some o) → tn i h'
  item : ∀ (X : Cx), X.prog = P → X.w = w → X.K = K → X.calm = true → ∀ (i : Nat) (pins : List (Addr × Obj)) (s : Shared) (σ : St) (H : Hp) (E : Value → Shared → Prop), Inv X pins σ H s → (∀ b ∈ fp, FpOk X pins H b) → tn i s.heap → J.go i H →
    wpAny (model P w) X.A (pyNext (.ref it)) (fun r s1 => ∃ u, r = some u ∧
      wpAny (model P w) X.A (letOwnedTupleGo tg (.ref it) u) (fun _ s2 => ∃ x H', Inv X pins σ H' s2 ∧ RelV x u ∧ J.yld i H x H' ∧ tn (i + 1) s2.heap ∧ ∀ b ∈ fp, H' b = none) E s1) E s
  done : ∀ (X : Cx), X.prog = P → X.w = w → X.K = K → X.calm = true → ∀ (i : Nat) (pins : List (Addr × Obj)) (s : Shared) (σ : St) (H : Hp) (E : Value → Shared → Prop), Inv X pins σ H s → (∀ b ∈ fp, FpOk X pins H b) → tn i s.heap → J.stop i H →
    wpAny (model P w) X.A (pyNext (.ref it)) (fun r s1 => r = none ∧ Inv X pins σ H s1) E s
  self : ∀ (A : Around) (i : Nat) (s : Shared) (Q : Value → Shared → Prop) (E : Value → Shared → Prop), tn i s.heap → Q (.ref it) s → wpAny (model P w) A (pyIter (.ref it)) Q E s
abbrev TI := St → Hp → (It → Hp → Prop) → Prop
/-- an iterator has come -/
def PIE (X : Cx) (pins : List (Addr × Obj)) (σ : St) (tg : Expr) (R : It → Hp → Prop) (itv : Value) (s2 : Shared) : Prop :=
  ∃ (it : Addr) (fp : List Addr) (tn : Nat → Heap → Prop) (J : It) (H' : Hp), itv = .ref it ∧ Inv X pins σ H' s2 ∧ Turn X.prog X.w X.K tg J fp it tn ∧ tn 0 s2.heap ∧ (∀ b ∈ fp, FpOk X pins H' b) ∧ R J H'
def PI (X : Cx) (tg iter : Expr) (wi : TI) : Prop :=
  ∀ (pins : List (Addr × Obj)) (s : Shared) (σ : St) (H : Hp) (R : It → Hp → Prop), Inv X pins σ H s → wi σ H R →
    wpAny (model X.prog X.w) X.A (eval iter X.env) (fun v s1 => wpAny (model X.prog X.w) X.A (pyIter v) (PIE X pins σ tg R) X.xe s1) X.xe s

/-- the step ahead of the store is nothing for an iterator that keeps no tuple -/
theorem go_of {M : Model} {A : Around} {E : Value → Shared → Prop} {s : Shared} {tg : Expr} {it : Addr} {u : Value} {o : Obj} {n : String} {vs : Array Value} {Q : Unit → Shared → Prop} (ho : s.heap.get? it = some o) (hc : o.cls = .type n) (hd : o.data = .fields vs)
    (hn : ["enumerate", "zip", "dict_itemiterator", "dict_reverseitemiterator", "odict_iterator", "itertools.zip_longest", "itertools.pairwise"].contains n = false) (hQ : Q () s) : wpAny M A (letOwnedTupleGo tg (.ref it) u) Q E s := by
  unfold letOwnedTupleGo
  cases tg <;> first
    | exact wpAny_pure hQ
    | (cases u <;> first
        | exact wpAny_pure hQ
        | (refine wpAny_bind (wpAny_load ho ?_)
           rw [hc, hd]
           show wpAny M A (if (["enumerate", "zip", "dict_itemiterator", "dict_reverseitemiterator", "odict_iterator", "itertools.zip_longest", "itertools.pairwise"].contains n && vs[0]? == some (rawInt _)) = true then _ else _) Q E s
           rw [if_neg (by intro h; rw [hn, Bool.false_and] at h; cases h)]
           exact wpAny_pure hQ))

/-- the list at a, as it stands at each turn (a loop may append to it) -/
def Itl (K : PySem.W.Frag) (a : Addr) : It :=
  ⟨fun i H => ∃ xs x, SqL K H a xs ∧ xs[i]? = some x, fun i H x H' => H' = H ∧ ∀ xs, SqL K H a xs → xs[i]? = some x, fun i H => ∃ xs, SqL K H a xs ∧ xs.length ≤ i⟩
def Itt (K : PySem.W.Frag) (a : Addr) : It :=
  ⟨fun i H => ∃ xs x, SqT K H a xs ∧ xs[i]? = some x, fun i H x H' => H' = H ∧ ∀ xs, SqT K H a xs → xs[i]? = some x, fun i H => ∃ xs, SqT K H a xs ∧ xs.length ≤ i⟩
/-- lo, lo + 1, .. (n of them) -/
def Itr (lo : Int) (n : Nat) : It := ⟨fun i _ => i < n, fun i H x H' => H' = H ∧ x = .int (lo + i), fun i _ => n ≤ i⟩
theorem turn_list {P : Program} {w : World} {K : PySem.W.Frag} {tg : Expr} (a it : Addr) : Turn P w K tg (Itl K a) [it] it (fun i h => h.IsListIter it a i) where
  mem := by simp
  obj := fun i h st b hb => by
    have e : b = it := by simpa using hb
    subst e
    obtain ⟨o, e, c, d⟩ := st
    exact ⟨o, e, fun v z => by rw [d] at z; cases z⟩
  keep := fun i h h' st k => st.at fun o e => k it (by simp) o e
  item := by
    intro X hP hw hK hc i pins s σ H E I hf st hg
    subst hP hw hK
    obtain ⟨xs, x, hq, hx⟩ := hg
    obtain ⟨its, rv, p, hz⟩ := I.list hq
    obtain ⟨u, hu, ru⟩ := rv.get hx
    obtain ⟨f0, f1, f2, f3, f4, f5⟩ := hf it (by simp)
    refine wpAny_pyNext_list_item st p.isList (x := u) (by simpa using hu) fun h' st' sb => ?_
    have I1 : Inv X pins σ H { s with heap := h' } := I.turned (t' := s.toks) (fun b o hb e => (sb.2 b hb).trans e) f0 f1 f3 f4 f5
    obtain ⟨o, e, c, d⟩ := id st'
    exact ⟨u, rfl, go_of (s := { s with heap := h' }) e c d (by decide) ⟨x, H, I1, ru, ⟨rfl, fun ys hy => by rw [I.list_inj hy hq]; exact hx⟩, st', fun b hb => (hf b hb).1⟩⟩
  done := by
    intro X hP hw hK hc i pins s σ H E I hf st hg
    subst hP hw hK
    obtain ⟨xs, hq, hx⟩ := hg
    obtain ⟨its, rv, p, hz⟩ := I.list hq
    obtain ⟨f0, f1, f2, f3, f4, f5⟩ := hf it (by simp)
    have hl := rv.length
    exact wpAny_pyNext_list_end (I.ok.hd hc) st p.isList (by simp; omega) fun h' eb => ⟨rfl, I.turned (t' := s.toks) (fun b o hb e => eb b o hb e) f0 f1 f3 f4 f5⟩
  self := fun _ _ _ _ _ st h => wpAny_pyIter_listiter st h
theorem turn_range {P : Program} {w : World} {K : PySem.W.Frag} {tg : Expr} (it : Addr) (lo : Int) (n : Nat) : Turn P w K tg (Itr lo n) [it] it (fun i h => IsRangeIter h it (lo + (i : Nat) * 1) ((n : Int) - (i : Nat)) 1) where
  mem := by simp
  obj := fun i h st b hb => by
    have e : b = it := by simpa using hb
    subst e
    exact ⟨_, st, fun v z => by
      have z' : Data.fields _ = Data.cell v := z
      cases z'⟩
  keep := fun i h h' st k => k it (by simp) _ st
  item := by
    intro X hP hw hK hc i pins s σ H E I hf st hg
    subst hP hw hK
    obtain ⟨f0, f1, f2, f3, f4, f5⟩ := hf it (by simp)
    have W := Walks.range (prog := X.prog) (w := X.w) (I.ok.hd hc) it lo 1 n
    refine W.item i s _ _ hg st fun v h' tk hv st' kk => ?_
    obtain ⟨t, rfl⟩ := hv
    have I1 : Inv X pins σ H { s with heap := h', toks := tk } := I.turned (fun b o hb e => kk b o (by simpa using hb) e) f0 f1 f3 f4 f5
    refine ⟨_, rfl, go_of (s := { s with heap := h', toks := tk }) (n := "range_iterator") st' rfl rfl (by decide) ⟨.int (lo + i), H, I1, ⟨t, ?_⟩, ⟨rfl, rfl⟩, st', fun b hb => (hf b hb).1⟩⟩
    rw [Int.mul_one]
  done := by
    intro X hP hw hK hc i pins s σ H E I hf st hg
    subst hP hw hK
    obtain ⟨f0, f1, f2, f3, f4, f5⟩ := hf it (by simp)
    exact wpAny_pyNext_range_end (I.ok.hd hc) st (by have : n ≤ i := hg; omega) fun h' eb => ⟨rfl, I.turned (t' := s.toks) (fun b o hb e => eb b o hb e) f0 f1 f3 f4 f5⟩
  self := fun _ _ _ _ _ st h => wpAny_pyIter_rangeiter st h
end L2

namespace L2
open PySem PySem.Spec PyProof.Rows
section
variable {X : Cx} {tg : Expr}
def iList (K : PySem.W.Frag) (tl : TE) : TI := fun σ H R => tl σ H fun x H1 => ∃ a, x = .ref a ∧ (∃ xs, SqL K H1 a xs) ∧ R (Itl K a) H1
def iTup (K : PySem.W.Frag) (tl : TE) : TI := fun σ H R => tl σ H fun x H1 => ∃ a, x = .ref a ∧ (∃ xs, SqT K H1 a xs) ∧ R (Itt K a) H1
theorem pi_list {l : Expr} {tl : TE} (hl : PE X l tl) : PI X tg l (iList X.K tl) := by
  intro pins s σ H R I h
  refine thn (hl pins s σ H _ I h) fun v s1 ⟨x, H1, I1, r1, q1⟩ => ?_
  obtain ⟨a, e, ⟨xs, hq⟩, q⟩ := q1
  subst e
  cases r1
  obtain ⟨its, rv, p, hz⟩ := I1.list hq
  refine wpAny_pyIter_list p.isList ?_
  refine ⟨s1.heap.objs.size, [s1.heap.objs.size], _, _, H1, rfl, I1.kept (t' := s1.toks) fun b o e => Heap.get?_push_of_some _ e, turn_list a _, ⟨_, Heap.get?_push_size _ rfl, rfl, rfl⟩, fun b hb => ?_, q⟩
  have e : b = s1.heap.objs.size := by simpa using hb
  subst e
  exact I1.fpOk (Nat.le_refl _) (I1.hok.fresh (Nat.le_refl _))
/-- a range object just made, walked -/
theorem range_it {pins : List (Addr × Obj)} {σ : St} {H : Hp} {s : Shared} {R : It → Hp → Prop} {E : Value → Shared → Prop} {lo hi : Int} {t u v : Tok} {tk : Nat} (I : Inv X pins σ H s) (h1 : -(2 ^ 62) ≤ lo) (h2 : lo < 2 ^ 62) (h3 : -(2 ^ 62) ≤ hi) (h4 : hi < 2 ^ 62)
    (q : R (Itr lo (hi - lo).toNat) H) : wpAny (model X.prog X.w) X.A (pyIter (.ref s.heap.objs.size)) (PIE X pins σ tg R) E { s with heap := s.heap.push { cls := .type "range", data := .fields #[.int lo t, .int hi u, .int 1 v] }, toks := tk } := by
  refine wpAny_pyIter_range (IsRange.new ..) (small_one h1 h2 h3 h4) ?_
  have I1 : Inv X pins σ H { s with heap := s.heap.push { cls := .type "range", data := .fields #[.int lo t, .int hi u, .int 1 v] }, toks := tk } := I.kept fun b o e => Heap.get?_push_of_some _ e
  refine ⟨(s.heap.push { cls := .type "range", data := .fields #[.int lo t, .int hi u, .int 1 v] }).objs.size, [(s.heap.push { cls := .type "range", data := .fields #[.int lo t, .int hi u, .int 1 v] }).objs.size], _, _, H, rfl,
    I1.kept (t' := tk) fun b o e => Heap.get?_push_of_some _ e, turn_range _ lo (hi - lo).toNat, ?_, fun b hb => ?_, q⟩
  · have e1 : lo + ((0 : Nat) : Int) * 1 = lo := by simp
    have e2 : (((hi - lo).toNat : Nat) : Int) - ((0 : Nat) : Int) = Builtin.Range.rangeSize lo hi 1 := by rw [rangeSize_one]; split <;> omega
    show IsRangeIter _ _ (lo + ((0 : Nat) : Int) * 1) ((((hi - lo).toNat : Nat) : Int) - ((0 : Nat) : Int)) 1
    rw [e1, e2]
    exact Heap.get?_push_size _ rfl
  · have e : b = (s.heap.push { cls := .type "range", data := .fields #[.int lo t, .int hi u, .int 1 v] }).objs.size := by simpa using hb
    subst e
    exact I1.fpOk (Nat.le_refl _) (I1.hok.fresh (Nat.le_refl _))
def iRng1 (ta : TA) : TI := fun σ H R => ta σ H fun vs H1 => ∃ j : Int, vs = [.int j] ∧ -(2 ^ 62) ≤ j ∧ j < 2 ^ 62 ∧ R (Itr 0 j.toNat) H1
def iRng2 (ta : TA) : TI := fun σ H R => ta σ H fun vs H1 => ∃ i j : Int, vs = [.int i, .int j] ∧ (-(2 ^ 62) ≤ i ∧ i < 2 ^ 62 ∧ -(2 ^ 62) ≤ j ∧ j < 2 ^ 62) ∧ R (Itr i (j - i).toNat) H1
theorem pi_range1 {a : Expr} {ta : TA} {p pos : Pos} (hg : Gl X "range") (hm : X.mg "range" = none) (ha : PA X [a] ta) (hs : starEach [a] X.env = [(false, eval a X.env)] := by rfl) : PI X tg (.Call (.Name "range" p) [a] [] pos) (iRng1 ta) := by
  intro pins s σ H R I h
  refine Call_ (ld_blt I hg hm boot_range (PyProof.Rows.callWith_type1 (thn (ha pos pins s σ H _ I h) fun us s1 ⟨vs, H1, I1, r1, q1⟩ => ?_) hs rfl))
  obtain ⟨j, e, q1, q2, q⟩ := q1
  subst e
  cases r1 with
  | cons r rr =>
    cases rr
    obtain ⟨t, rfl⟩ := r
    exact call_range_1 (range_it I1 (by omega) (by omega) q1 q2 (by simpa using q))
/-! ### for -/
/-- W: the invariant by the turn and a measure; N: what the body is to reach -/
def tFor (wi : TI) (g : TG) (tb : TS) : TS := fun D σ H => wi σ H fun J H1 => ∃ W : Nat → Nat → St → Hp → Prop, (∃ m, W 0 m σ H1) ∧ ∀ i m σ H, W i m σ H →
  (J.stop i H ∧ D.nx σ H) ∨ (J.go i H ∧ ∃ N : St → Hp → Prop, (∀ σ' H', N σ' H' → ∃ m', m' < m ∧ W (i + 1) m' σ' H') ∧ ∀ x H', J.yld i H x H' → g x σ H' fun σ2 H2 => tb { D with nx := N, ct := N, bk := D.nx } σ2 H2)
/-- the records at fp as they stand -/
def pinsAt (fp : List Addr) (h : Heap) : List (Addr × Obj) := fp.filterMap fun b => (h.get? b).map fun o => (b, o)
theorem mem_pinsAt {fp : List Addr} {h : Heap} {b : Addr} {o : Obj} (hb : b ∈ fp) (e : h.get? b = some o) : (b, o) ∈ pinsAt fp h := List.mem_filterMap.mpr ⟨b, hb, by rw [e]; rfl⟩
theorem of_pinsAt {fp : List Addr} {h : Heap} {p : Addr × Obj} (hp : p ∈ pinsAt fp h) : p.1 ∈ fp ∧ h.get? p.1 = some p.2 := by
  obtain ⟨b, hb, e⟩ := List.mem_filterMap.mp hp
  cases q : h.get? b with
  | none => rw [q] at e; cases e
  | some o =>
    rw [q] at e
    have e' : (b, o) = p := Option.some.inj e
    subst e'
    exact ⟨hb, q⟩
theorem Inv.pinned {pins : List (Addr × Obj)} {σ : St} {H : Hp} {s : Shared} {fp : List Addr} (I : Inv X pins σ H s) (hf : ∀ b ∈ fp, FpOk X pins H b) (ho : ∀ b ∈ fp, ∃ o, s.heap.get? b = some o ∧ ∀ v, o.data ≠ .cell v) : Inv X (pins ++ pinsAt fp s.heap) σ H s :=
  I.pins_of fun p hp => (List.mem_append.mp hp).elim (fun z => I.pin p (List.mem_append_right _ z)) fun z => by
    obtain ⟨hb, e⟩ := of_pinsAt z
    obtain ⟨f0, f1, f2, _⟩ := hf p.1 hb
    obtain ⟨o, e', d⟩ := ho p.1 hb
    rw [e] at e'; cases e'
    exact ⟨e, f0, f1, f2, d⟩
theorem Inv.unpinned {pins pl : List (Addr × Obj)} {σ : St} {H : Hp} {s : Shared} (I : Inv X (pins ++ pl) σ H s) : Inv X pins σ H s := I.pins_of fun p hp => I.pin p (List.mem_append_right _ (List.mem_append_left _ hp))
theorem ps_for {iter : Expr} {body : List Stmt} {wi : TI} {g : TG} {tb : TS} {pos : Pos} (hp : PassesOwn (model X.prog X.w) X.A X.env X.xe) (hc : X.calm = true) (hi : PI X tg iter wi) (hg : PG X tg g) (hb : PSs X body tb)
    (hs : ∀ x, foldedSetIterable iter X.env x = pure x := by intro _; rfl) : PS X (.For tg iter body [] pos) (tFor wi g tb) := by
  intro pins s σ H D I h
  refine wpAny_For (thn (hi pins s σ H _ I h) fun v s1 h1 => thn h1 fun itv s2 h2 => ?_) hs
  obtain ⟨it, fp, tn, J, H2, e, I2, T, st2, f2, W, ⟨m0, w0⟩, turn⟩ := h2
  subst e
  -- what stays true of the iterator's objects through the loop
  have stat : ∀ {H' : Hp}, (∀ b ∈ fp, H' b = none) → ∀ b ∈ fp, FpOk X pins H' b := fun hn b hb => ⟨hn b hb, (f2 b hb).2⟩
  refine codeAny_forLoop_any (fun n s' => ∃ i σ' H', Inv X pins σ' H' s' ∧ tn i s'.heap ∧ (∀ b ∈ fp, H' b = none) ∧ W i n σ' H') ?_ m0 ⟨0, σ, H2, I2, st2, fun b hb => (f2 b hb).1, w0⟩
  rintro n s3 ⟨i, σ3, H3, I3, st3, fr3, w3⟩
  rcases turn i n σ3 H3 w3 with ⟨stop, qn⟩ | ⟨go, N, hN, step⟩
  · refine wpAny_passesOwn hp (thn (T.done X rfl rfl rfl hc i pins s3 σ3 H3 X.xe I3 (stat fr3) st3 stop) fun r s4 ⟨hr, I4⟩ => ?_)
    subst hr
    exact wpAny_execs_nil ⟨σ3, H3, I4, qn⟩
  · refine wpAny_passesOwn hp (thn (T.item X rfl rfl rfl hc i pins s3 σ3 H3 X.xe I3 (stat fr3) st3 go) fun r s4 ⟨u, hr, h4⟩ => ?_)
    subst hr
    refine wpAny_passesOwn hp (thn h4 fun _ s5 ⟨x, H5, I5, r5, y5, st5, fr5⟩ => ?_)
    have I5' := I5.pinned (stat fr5) (T.obj _ _ st5)
    refine wpAny_passesOwn hp (thn (hg _ s5 σ3 H5 x u _ I5' r5 (step x H5 y5)) fun _ s6 ⟨σ6, H6, I6, q6⟩ => ?_)
    refine wpAny_passesOwn hp (thn (hb _ s6 σ6 H6 _ I6 q6) fun f s7 q7 => ?_)
    have again : ∀ {σ7 : St} {H7 : Hp}, Inv X (pins ++ pinsAt fp s5.heap) σ7 H7 s7 → N σ7 H7 → ∃ m, m < n ∧ ∃ i σ' H', Inv X pins σ' H' s7 ∧ tn i s7.heap ∧ (∀ b ∈ fp, H' b = none) ∧ W i m σ' H' := fun {σ7 H7} I7 n7 => by
      obtain ⟨m', hm, w7⟩ := hN σ7 H7 n7
      refine ⟨m', hm, i + 1, σ7, H7, I7.unpinned, T.keep _ _ _ st5 fun b hb o e => (I7.pin (b, o) (List.mem_append_right _ (List.mem_append_right _ (mem_pinsAt hb e)))).1, fun b hb => ?_, w7⟩
      obtain ⟨o, e, d⟩ := T.obj _ _ st5 b hb
      exact (I7.pin (b, o) (List.mem_append_right _ (List.mem_append_right _ (mem_pinsAt hb e)))).2.1
    cases f with
    | next => obtain ⟨σ7, H7, I7, n7⟩ := q7; exact again I7 n7
    | cont => obtain ⟨σ7, H7, I7, n7⟩ := q7; exact again I7 n7
    | brk => obtain ⟨σ7, H7, I7, q7⟩ := q7; exact ⟨σ7, H7, I7.unpinned, q7⟩
    | ret v => obtain ⟨x7, σ7, H7, I7, r7, q7⟩ := q7; exact ⟨x7, σ7, H7, I7.unpinned, r7, q7⟩
end

/-! ### the forms one uses -/
theorem for_range {lo : Int} {n : Nat} {g : TG} {tb : TS} {D : Ends} {σ : St} {H : Hp} (Pv : Nat → St → Hp → Prop) (h0 : Pv 0 σ H)
    (hs : ∀ i σ H, i < n → Pv i σ H → g (.int (lo + i)) σ H fun σ2 H2 => tb { D with nx := Pv (i + 1), ct := Pv (i + 1), bk := D.nx } σ2 H2) (hd : ∀ σ H, Pv n σ H → D.nx σ H) :
    ∃ W : Nat → Nat → St → Hp → Prop, (∃ m, W 0 m σ H) ∧ ∀ i m σ H, W i m σ H →
      ((Itr lo n).stop i H ∧ D.nx σ H) ∨ ((Itr lo n).go i H ∧ ∃ N : St → Hp → Prop, (∀ σ' H', N σ' H' → ∃ m', m' < m ∧ W (i + 1) m' σ' H') ∧ ∀ x H', (Itr lo n).yld i H x H' → g x σ H' fun σ2 H2 => tb { D with nx := N, ct := N, bk := D.nx } σ2 H2) := by
  refine ⟨fun i m σ H => m = n - i ∧ i ≤ n ∧ Pv i σ H, ⟨n, by simp, Nat.zero_le _, h0⟩, ?_⟩
  rintro i m σ H ⟨rfl, hi, p⟩
  by_cases hlt : i < n
  · refine .inr ⟨hlt, Pv (i + 1), fun σ' H' p' => ⟨n - (i + 1), by omega, rfl, hlt, p'⟩, fun x H' y => ?_⟩
    obtain ⟨e, y⟩ := y
    subst e y
    exact hs i σ _ hlt p
  · have e : i = n := by omega
    subst e
    exact .inl ⟨Nat.le_refl _, hd σ H p⟩
end L2

namespace L2
open PySem PySem.Spec PyProof.Rows

abbrev R2 := V → V → Hp → VK → Prop
/-- a two-place operation on values: f is binaryOp op, inplaceOp op or compareOp op -/
def OpR (X : Cx) (f : Value → Value → Sem Value) (r : R2) : Prop :=
  ∀ (pins : List (Addr × Obj)) (s : Shared) (σ : St) (H : Hp) (x y : V) (v u : Value) (Q : VK), Inv X pins σ H s → RelV x v → RelV y u → r x y H Q →
    wpAny (model X.prog X.w) X.A (f v u) (EP X pins σ Q) X.xe s
/-- a one-place operation -/
def UnR (X : Cx) (f : Value → Sem Value) (r : V → Hp → VK → Prop) : Prop :=
  ∀ (pins : List (Addr × Obj)) (s : Shared) (σ : St) (H : Hp) (x : V) (v : Value) (Q : VK), Inv X pins σ H s → RelV x v → r x H Q →
    wpAny (model X.prog X.w) X.A (f v) (EP X pins σ Q) X.xe s
/-- a call of a value that is known (a builtin, a type) with values -/
def CallR (X : Cx) (f : Value) (r : List V → Hp → VK → Prop) : Prop :=
  ∀ (pins : List (Addr × Obj)) (s : Shared) (σ : St) (H : Hp) (xs : List V) (us : List Value) (Q : VK), Inv X pins σ H s → Vals xs us → r xs H Q →
    wpAny (model X.prog X.w) X.A (call f us) (EP X pins σ Q) X.xe s
/-- a value's truth -/
def TruR (X : Cx) (r : V → Hp → (Bool → Hp → Prop) → Prop) : Prop :=
  ∀ (pins : List (Addr × Obj)) (s : Shared) (σ : St) (H : Hp) (x : V) (v : Value) (Q : Bool → Hp → Prop), Inv X pins σ H s → RelV x v → r x H Q →
    wpAny (model X.prog X.w) X.A (truthy v) (TP X pins σ Q) X.xe s

def tOp (r : R2) (ta tb : TE) : TE := fun σ H Q => ta σ H fun x H1 => tb σ H1 fun y H2 => r x y H2 Q
def tUn (r : V → Hp → VK → Prop) (ta : TE) : TE := fun σ H Q => ta σ H fun x H1 => r x H1 Q
/-- ints in, under C, and a value out -/
def rI (C : Int → Int → Prop) (g : Int → Int → V) : R2 := fun x y H Q => ∃ i j, x = .int i ∧ y = .int j ∧ C i j ∧ Q (g i j) H
def rI0 (g : Int → Int → V) : R2 := fun x y H Q => ∃ i j, x = .int i ∧ y = .int j ∧ Q (g i j) H
def rU (g : Int → V) : V → Hp → VK → Prop := fun x H Q => ∃ i, x = .int i ∧ Q (g i) H

section
variable {X : Cx} {a b c : Expr} {ta tb tc : TE} {pos : Pos}

theorem binT (ha : PE X a ta) (hb : PE X b tb) {pins : List (Addr × Obj)} {s : Shared} {σ : St} {H : Hp} {R : V → V → Hp → Prop} (I : Inv X pins σ H s)
    (h : ta σ H fun x H1 => tb σ H1 fun y H2 => R x y H2) {Q : Value → Shared → Prop} {f : Value → Value → Sem Value}
    (hf : ∀ v u s2 x y H2, Inv X pins σ H2 s2 → RelV x v → RelV y u → R x y H2 → wpAny (model X.prog X.w) X.A (f v u) Q X.xe s2) :
    wpAny (model X.prog X.w) X.A (eval a X.env) (fun v s₁ => wpAny (model X.prog X.w) X.A (eval b X.env) (fun u s₂ => wpAny (model X.prog X.w) X.A (f v u) Q X.xe s₂) X.xe s₁) X.xe s := by
  refine thn (ha pins s σ H _ I h) fun v s1 ⟨x, H1, I1, r1, q1⟩ => ?_
  refine thn (hb pins s1 σ H1 _ I1 q1) fun u s2 ⟨y, H2, I2, r2, q2⟩ => ?_
  exact hf v u s2 x y H2 I2 r1 r2 q2

theorem pe_op {op : Operator} {r : R2} (ho : OpR X (binaryOp op) r) (ha : PE X a ta) (hb : PE X b tb) : PE X (.BinOp a op b pos) (tOp r ta tb) := by
  intro pins s σ H Q I h
  exact wpAny_BinOp (binT ha hb I h fun v u s2 x y H2 I2 rx ry q => ho pins s2 σ H2 x y v u Q I2 rx ry q)
theorem pe_un {op : UnaryOp} {r : V → Hp → VK → Prop} (ho : UnR X (unaryOp op) r) (ha : PE X a ta) : PE X (.UnaryOp op a pos) (tUn r ta) := by
  intro pins s σ H Q I h
  exact UnaryOp_ (thn (ha pins s σ H _ I h) fun v s1 ⟨x, H1, I1, r1, q1⟩ => ho pins s1 σ H1 x v Q I1 r1 q1)
/-! ### ints -/
theorem opI {f : Value → Value → Sem Value} {C : Int → Int → Prop} {g : Int → Int → Int}
    (rule : ∀ (i j : Int) (t u : Tok) (s : Shared) (Q : Value → Shared → Prop) (E : Value → Shared → Prop), C i j → Q (.int (g i j) s.toks) { s with toks := s.toks + 1 } → wpAny (model X.prog X.w) X.A (f (.int i t) (.int j u)) Q E s) :
    OpR X f (rI C fun i j => .int (g i j)) := by
  intro pins s σ H x y v u Q I rx ry h
  obtain ⟨i, j, rfl, rfl, hc, q⟩ := h
  obtain ⟨t, rfl⟩ := rx
  obtain ⟨t', rfl⟩ := ry
  exact rule i j t t' s _ _ hc ⟨.int (g i j), H, I.tok _, ⟨_, rfl⟩, q⟩
theorem opI0 {f : Value → Value → Sem Value} {g : Int → Int → Int}
    (rule : ∀ (i j : Int) (t u : Tok) (s : Shared) (Q : Value → Shared → Prop) (E : Value → Shared → Prop), Q (.int (g i j) s.toks) { s with toks := s.toks + 1 } → wpAny (model X.prog X.w) X.A (f (.int i t) (.int j u)) Q E s) :
    OpR X f (rI0 fun i j => .int (g i j)) := by
  intro pins s σ H x y v u Q I rx ry h
  obtain ⟨i, j, rfl, rfl, q⟩ := h
  obtain ⟨t, rfl⟩ := rx
  obtain ⟨t', rfl⟩ := ry
  exact rule i j t t' s _ _ ⟨.int (g i j), H, I.tok _, ⟨_, rfl⟩, q⟩
theorem opB0 {f : Value → Value → Sem Value} {g : Int → Int → Bool}
    (rule : ∀ (i j : Int) (t u : Tok) (s : Shared) (Q : Value → Shared → Prop) (E : Value → Shared → Prop), Q (.bool (g i j)) s → wpAny (model X.prog X.w) X.A (f (.int i t) (.int j u)) Q E s) :
    OpR X f (rI0 fun i j => .bl (g i j)) := by
  intro pins s σ H x y v u Q I rx ry h
  obtain ⟨i, j, rfl, rfl, q⟩ := h
  obtain ⟨t, rfl⟩ := rx
  obtain ⟨t', rfl⟩ := ry
  exact rule i j t t' s _ _ ⟨.bl (g i j), H, I, rfl, q⟩

def CDiv (i j : Int) : Prop := 0 < j ∧ j < 1073741824
def CDivN (i j : Int) : Prop := j ≠ 0 ∧ j.natAbs < 1073741824
def CPow (i j : Int) : Prop := 0 ≤ j ∧ j ≤ 1000000 ∧ i.natAbs < 2 ^ 64
def CMul (i j : Int) : Prop := (-(2 ^ 64) < i ∧ i < 2 ^ 64) ∨ (-(2 ^ 64) < j ∧ j < 2 ^ 64)
theorem CMul.ok {i j : Int} (h : CMul i j) : IntMulOk i j := by
  rcases h with ⟨h1, h2⟩ | ⟨h1, h2⟩
  · exact .of_left (intBits_le_64 h1 h2)
  · exact .of_right (intBits_le_64 h1 h2)
theorem op_add : OpR X (binaryOp .Add) (rI0 fun i j => .int (i + j)) := opI0 fun _ _ _ _ _ _ _ q => add_int q
theorem op_sub : OpR X (binaryOp .Sub) (rI0 fun i j => .int (i - j)) := opI0 fun _ _ _ _ _ _ _ q => sub_int q
theorem op_mul : OpR X (binaryOp .Mult) (rI CMul fun i j => .int (i * j)) := opI fun _ _ _ _ _ _ _ hc q => mul_int q hc.ok
/-- // by a positive divisor -/
theorem op_fdiv : OpR X (binaryOp .FloorDiv) (rI CDiv fun i j => .int (i / j)) := opI fun i j _ _ _ _ _ hc q => by
  have h1 : (0 : Int) < j := hc.1
  have h2 : j < 1073741824 := hc.2
  exact floordiv_int (by omega) (by rw [Int.fdiv_eq_ediv_of_nonneg i (by omega)]; exact q) (.inl (PyProof.noPylong_small (by omega)))
/-- % by a positive divisor of any size -/
theorem op_mod : OpR X (binaryOp .Mod) (rI (fun _ j => 0 < j) fun i j => .int (i % j)) := opI fun i j _ _ _ _ _ hc q => by
  have h1 : (0 : Int) < j := hc
  exact mod_int' (by omega) (by rw [Int.fmod_eq_emod_of_nonneg i (by omega)]; exact q)
theorem op_pow : OpR X (binaryOp .Pow) (rI CPow fun i j => .int (i ^ j.toNat)) := opI fun _ _ _ _ _ _ _ hc q => pow_int_small hc.1 hc.2.1 hc.2.2 q
theorem unI {f : Value → Sem Value} {g : Int → Int}
    (rule : ∀ (i : Int) (t : Tok) (s : Shared) (Q : Value → Shared → Prop) (E : Value → Shared → Prop), Q (.int (g i) s.toks) { s with toks := s.toks + 1 } → wpAny (model X.prog X.w) X.A (f (.int i t)) Q E s) :
    UnR X f (rU fun i => .int (g i)) := by
  intro pins s σ H x v Q I rx h
  obtain ⟨i, rfl, q⟩ := h
  obtain ⟨t, rfl⟩ := rx
  exact rule i t s _ _ ⟨.int (g i), H, I.tok _, ⟨_, rfl⟩, q⟩
theorem un_neg : UnR X (unaryOp .USub) (rU fun i => .int (-i)) := unI fun _ _ _ _ _ q => neg_int q
/-! ### bools among ints: n += (a < b) -/
end

/-! ### comparisons -/
/-- the scalars that == tells apart as data does -/
def scal : V → V → Bool
  | .non, .non => true | .non, .int _ => true | .int _, .non => true | .non, .bl _ => true | .bl _, .non => true | .non, .str _ => true | .str _, .non => true
  | .int _, .int _ => true | .bl _, .bl _ => true | .str _, .str _ => true | .byt _, .byt _ => true
  | .int _, .str _ => true | .str _, .int _ => true | .bl _, .str _ => true | .str _, .bl _ => true
  | _, _ => false
def rEq : R2 := fun x y H Q => scal x y = true ∧ Q (.bl (decide (x = y))) H
def rNe : R2 := fun x y H Q => scal x y = true ∧ Q (.bl (!decide (x = y))) H

theorem dec_int {i j : Int} : decide (V.int i = V.int j) = (i == j) := by
  rw [Bool.eq_iff_iff]
  simp
theorem dec_bl {i j : Bool} : decide (V.bl i = V.bl j) = (i == j) := by
  rw [Bool.eq_iff_iff]
  simp
theorem dec_str {i j : Str} : decide (V.str i = V.str j) = (i == j) := by
  rw [Bool.eq_iff_iff]
  simp
theorem dec_byt {i j : Array UInt8} : decide (V.byt i = V.byt j) = (i.toList == j.toList) := by
  rw [Bool.eq_iff_iff]
  cases i
  cases j
  simp

section
variable {X : Cx} {a b c : Expr} {ta tb tc : TE} {pos : Pos}
theorem fin_bl {pins : List (Addr × Obj)} {σ : St} {H : Hp} {s : Shared} {Q : VK} {k k' : Bool} (I : Inv X pins σ H s) (q : Q (.bl k) H) (e : k = k') : EP X pins σ Q (.bool k') s := by
  subst e
  exact ⟨.bl k, H, I, rfl, q⟩
theorem op_eq : OpR X (compareOp .Eq) rEq := by
  intro pins s σ H x y v u Q I rx ry h
  obtain ⟨hs, q⟩ := h
  cases x with
  | non =>
    cases rx
    cases y with
    | non => cases ry; exact PySem.EqNone.eq_none_none (fin_bl I q (by simp))
    | bl j => cases ry; exact PySem.EqNone.eq_none_bool (fin_bl I q (by simp))
    | int j => obtain ⟨t', rfl⟩ := ry; exact PySem.EqNone.eq_none_int (fin_bl I q (by simp))
    | str j => obtain ⟨t', rfl⟩ := ry; exact PySem.EqNone.eq_none_str (fin_bl I q (by simp))
    | _ => exact absurd (show false = true from hs) Bool.false_ne_true
  | bl i =>
    cases rx
    cases y with
    | non => cases ry; exact PySem.EqNone.eq_bool_none (fin_bl I q (by simp))
    | bl j => cases ry; exact eq_bool (fin_bl I q dec_bl)
    | str j => obtain ⟨t', rfl⟩ := ry; exact PySem.EqMixed.eq_bool_str (fin_bl I q (by simp))
    | _ => exact absurd (show false = true from hs) Bool.false_ne_true
  | int i =>
    obtain ⟨t, rfl⟩ := rx
    cases y with
    | non => cases ry; exact PySem.EqNone.eq_int_none (fin_bl I q (by simp))
    | int j => obtain ⟨t', rfl⟩ := ry; exact eq_int (fin_bl I q dec_int)
    | str j => obtain ⟨t', rfl⟩ := ry; exact PySem.EqMixed.eq_int_str (fin_bl I q (by simp))
    | _ => exact absurd (show false = true from hs) Bool.false_ne_true
  | str i =>
    obtain ⟨t, rfl⟩ := rx
    cases y with
    | non => cases ry; exact PySem.EqNone.eq_str_none (fin_bl I q (by simp))
    | bl j => cases ry; exact PySem.EqMixed.eq_str_bool (fin_bl I q (by simp))
    | int j => obtain ⟨t', rfl⟩ := ry; exact PySem.EqMixed.eq_str_int (fin_bl I q (by simp))
    | str j => obtain ⟨t', rfl⟩ := ry; exact eq_str (fin_bl I q dec_str)
    | _ => exact absurd (show false = true from hs) Bool.false_ne_true
  | byt i =>
    obtain ⟨t, rfl⟩ := rx
    cases y with
    | byt j => obtain ⟨t', rfl⟩ := ry; exact PySem.W.eq_bytes (fin_bl I q dec_byt)
    | _ => exact absurd (show false = true from hs) Bool.false_ne_true
  | _ => cases y <;> exact absurd (show false = true from hs) Bool.false_ne_true
theorem op_ne : OpR X (compareOp .NotEq) rNe := by
  intro pins s σ H x y v u Q I rx ry h
  obtain ⟨hs, q⟩ := h
  cases x with
  | non =>
    cases rx
    cases y with
    | non => cases ry; exact PySem.EqNone.ne_none_none (fin_bl I q (by simp))
    | bl j => cases ry; exact PySem.EqNone.ne_none_bool (fin_bl I q (by simp))
    | int j => obtain ⟨t', rfl⟩ := ry; exact PySem.EqNone.ne_none_int (fin_bl I q (by simp))
    | str j => obtain ⟨t', rfl⟩ := ry; exact PySem.EqNone.ne_none_str (fin_bl I q (by simp))
    | _ => exact absurd (show false = true from hs) Bool.false_ne_true
  | bl i =>
    cases rx
    cases y with
    | non => cases ry; exact PySem.EqNone.ne_bool_none (fin_bl I q (by simp))
    | bl j => cases ry; exact ne_bool (fin_bl I q (congrArg not dec_bl))
    | str j => obtain ⟨t', rfl⟩ := ry; exact PySem.EqMixed.ne_bool_str (fin_bl I q (by simp))
    | _ => exact absurd (show false = true from hs) Bool.false_ne_true
  | int i =>
    obtain ⟨t, rfl⟩ := rx
    cases y with
    | non => cases ry; exact PySem.EqNone.ne_int_none (fin_bl I q (by simp))
    | int j => obtain ⟨t', rfl⟩ := ry; exact ne_int (fin_bl I q (congrArg not dec_int))
    | str j => obtain ⟨t', rfl⟩ := ry; exact PySem.EqMixed.ne_int_str (fin_bl I q (by simp))
    | _ => exact absurd (show false = true from hs) Bool.false_ne_true
  | str i =>
    obtain ⟨t, rfl⟩ := rx
    cases y with
    | non => cases ry; exact PySem.EqNone.ne_str_none (fin_bl I q (by simp))
    | bl j => cases ry; exact PySem.EqMixed.ne_str_bool (fin_bl I q (by simp))
    | int j => obtain ⟨t', rfl⟩ := ry; exact PySem.EqMixed.ne_str_int (fin_bl I q (by simp))
    | str j => obtain ⟨t', rfl⟩ := ry; exact ne_str (fin_bl I q (congrArg not dec_str))
    | _ => exact absurd (show false = true from hs) Bool.false_ne_true
  | byt i =>
    obtain ⟨t, rfl⟩ := rx
    cases y with
    | byt j => obtain ⟨t', rfl⟩ := ry; exact PySem.W.ne_bytes (fin_bl I q (congrArg not dec_byt))
    | _ => exact absurd (show false = true from hs) Bool.false_ne_true
  | _ => cases y <;> exact absurd (show false = true from hs) Bool.false_ne_true

theorem op_lt : OpR X (compareOp .Lt) (rI0 fun i j => .bl (decide (i < j))) := opB0 fun _ _ _ _ _ _ _ q => lt_int q
theorem op_le : OpR X (compareOp .LtE) (rI0 fun i j => .bl (decide (i ≤ j))) := opB0 fun _ _ _ _ _ _ _ q => le_int q
theorem op_gt : OpR X (compareOp .Gt) (rI0 fun i j => .bl (decide (j < i))) := opB0 fun _ _ _ _ _ _ _ q => gt_int q
theorem op_ge : OpR X (compareOp .GtE) (rI0 fun i j => .bl (decide (j ≤ i))) := opB0 fun _ _ _ _ _ _ _ q => ge_int q
/-- is None, is not None: the right side a value none -/
theorem op_isN : OpR X (compareOp .Is) (fun x y H Q => y = .non ∧ Q (.bl (decide (x = .non))) H) := by
  intro pins s σ H x y v u Q I rx ry h
  obtain ⟨rfl, q⟩ := h
  cases ry
  refine is_none_gen (fin_bl I q ?_)
  cases x <;> first
    | (cases rx; rfl)
    | (obtain ⟨t, rfl⟩ := rx; rfl)
theorem op_notN : OpR X (compareOp .IsNot) (fun x y H Q => y = .non ∧ Q (.bl (!decide (x = .non))) H) := by
  intro pins s σ H x y v u Q I rx ry h
  obtain ⟨rfl, q⟩ := h
  cases ry
  refine isnot_none_gen (fin_bl I q ?_)
  cases x <;> first
    | (cases rx; rfl)
    | (obtain ⟨t, rfl⟩ := rx; rfl)

/-- is, is not of two objects that are tracked lists or instances -/
def isObj : HO → Bool
  | .lst _ => true
  | .ins _ _ _ => true
  | _ => false
/-- two rules for one operation: by cases -/
theorem OpR.or {f : Value → Value → Sem Value} {r r' : R2} (h : OpR X f r) (h' : OpR X f r') : OpR X f (fun x y H Q => r x y H Q ∨ r' x y H Q) := by
  intro pins s σ H x y v u Q I rx ry q
  rcases q with q | q
  · exact h pins s σ H x y v u Q I rx ry q
  · exact h' pins s σ H x y v u Q I rx ry q

theorem nomark (b : Expr) {op : CmpOp} (h : op ≠ .In := by decide) (h2 : op ≠ .NotIn := by decide) : behindInMarks op b = false := by
  have e1 : (op == CmpOp.In) = false := by cases op <;> first | rfl | exact absurd rfl h
  have e2 : (op == CmpOp.NotIn) = false := by cases op <;> first | rfl | exact absurd rfl h2
  cases b <;> simp [behindInMarks, e1, e2]
/-- a comparison as a value; hm: nomark b, or (for in, not in) by with_unfolding_all rfl -/
theorem pe_cmpR {op : CmpOp} {r : R2} (ho : OpR X (compareOp op) r) (ha : PE X a ta) (hb : PE X b tb) (hm : behindInMarks op b = false) : PE X (.Compare a [op] [b] pos) (tOp r ta tb) := by
  intro pins s σ H Q I h
  exact wpAny_Compare1 (binT ha hb I h fun v u s2 x y H2 I2 rx ry q => ho pins s2 σ H2 x y v u Q I2 rx ry q) hm
/-- a reading of a value as a test -/
def tTest (t : TE) : TT := fun σ H Q => t σ H fun x H' => ∃ k, x = .bl k ∧ Q k H'
theorem pt_cmpR {op : CmpOp} {r : R2} (ho : OpR X (compareOp op) r) (ha : PE X a ta) (hb : PE X b tb) (hm : behindInMarks op b = false) : PT X (.Compare a [op] [b] pos) (tTest (tOp r ta tb)) := by
  intro pins s σ H Q I h
  refine wpAny_isTrue_Compare1 (thn (ha pins s σ H _ I h) fun v s1 ⟨x, H1, I1, r1, q1⟩ => thn (hb pins s1 σ H1 _ I1 q1) fun u s2 ⟨y, H2, I2, r2, q2⟩ =>
    thn (ho pins s2 σ H2 x y v u _ I2 r1 r2 q2) fun c s3 ⟨z, H3, I3, r3, k, e, q3⟩ => ?_) hm
  subst e
  cases r3
  exact wpAny_truthy_bool ⟨H3, I3, q3⟩
/-- a op1 b op2 c -/
def tChain (r r' : R2) (ta tb tc : TE) : TE := fun σ H Q => ta σ H fun x H1 => tb σ H1 fun y H2 => r x y H2 fun z H3 => ∃ k, z = .bl k ∧
  (if k = true then tc σ H3 fun w' H4 => r' y w' H4 Q else Q (.bl false) H3)
/-! ### truth -/
/-- a value's truth by the abstract heap -/
def TruV (K : PySem.W.Frag) (x : V) (H : Hp) (k : Bool) : Prop :=
  match x with
  | .non => k = false
  | .bl b => k = b
  | .int i => k = (i != 0)
  | .str y => y.length ≤ sizeLine ∧ k = ((y.length : Int) != 0)
  | .byt y => y.size ≤ sizeLine ∧ k = ((y.size : Int) != 0)
  | .ref p => (∃ xs, SqL K H p xs ∧ k = !xs.isEmpty) ∨ (∃ xs, SqT K H p xs ∧ k = !xs.isEmpty) ∨ ∃ kvs, H p = some (.dK kvs) ∧ k = !kvs.isEmpty
  | _ => False
theorem isEmpty_kv {κ : Type} {kvs : List (κ × V)} {vs : List (κ × Value)} (r : KV kvs vs) : (!vs.isEmpty) = !kvs.isEmpty := by
  cases r <;> rfl
theorem isEmpty_of {xs : List V} {its : List Value} (r : Vals xs its) : (!its.toArray.isEmpty) = !xs.isEmpty := by
  cases r <;> simp
theorem line63 : (sizeLine : Nat) < 2 ^ 63 := by rw [sizeLine_eq]; decide
theorem tru_ok : TruR X (fun x H Q => ∃ k, TruV X.K x H k ∧ Q k H) := by
  intro pins s σ H x v Q I rx h
  obtain ⟨k, e, q⟩ := h
  have hl := line63
  have hs : sizeLine = 16777216 := sizeLine_eq
  cases x with
  | non =>
    cases rx
    have e' : k = false := e
    subst e'
    exact truthy_none ⟨H, I, q⟩
  | bl b =>
    cases rx
    have e' : k = b := e
    subst e'
    exact wpAny_truthy_bool ⟨H, I, q⟩
  | int i =>
    obtain ⟨t, rfl⟩ := rx
    have e' : k = (i != 0) := e
    subst e'
    exact PySem.P.truthy_int ⟨H, I, q⟩
  | str y =>
    obtain ⟨t, rfl⟩ := rx
    obtain ⟨hy, e'⟩ : y.length ≤ sizeLine ∧ k = ((y.length : Int) != 0) := e
    subst e'
    exact PySem.P.truthy_str (by omega) ⟨H, I.tok _, q⟩
  | byt y =>
    obtain ⟨t, rfl⟩ := rx
    obtain ⟨hy, e'⟩ : y.size ≤ sizeLine ∧ k = ((y.size : Int) != 0) := e
    subst e'
    exact PySem.W.truthy_bytes (by omega) ⟨H, I.tok _, q⟩
  | ref p =>
    cases rx
    have e' : (∃ xs, SqL X.K H p xs ∧ k = !xs.isEmpty) ∨ (∃ xs, SqT X.K H p xs ∧ k = !xs.isEmpty) ∨ ∃ kvs, H p = some (.dK kvs) ∧ k = !kvs.isEmpty := e
    rcases e' with ⟨xs, hx, e'⟩ | ⟨xs, hx, e'⟩ | ⟨kvs, hx, e'⟩
    · subst e'
      obtain ⟨its, r, pl, hz⟩ := I.list hx
      have hlen := r.length
      exact wpAny_truthy_list pl.isList (by simp only [List.size_toArray]; omega) ⟨H, I.tok _, by rw [isEmpty_of r]; exact q⟩
    · subst e'
      obtain ⟨its, r, pl, hz⟩ := I.tuple hx
      have hlen := r.length
      exact truthy_tuple pl (by simp only [List.size_toArray]; omega) ⟨H, I.tok _, by rw [isEmpty_of r]; exact q⟩
    · subst e'
      obtain ⟨hz, hS, vs, r, m⟩ : kvs.length ≤ sizeLine ∧ (p == sysModules) = false ∧ ∃ vs, KV kvs vs ∧ s.heap.DictOf (mixKind X.prog X.w) p vs := I.hok p _ hx
      have hlen : kvs.length = vs.length := Paired.length r
      exact wpAny_truthy_dict hS m (by omega) ⟨H, I.tok _, by rw [isEmpty_kv r]; exact q⟩
  | _ => exact (show False from e).elim
/-- any expression whose test is its value's truth (a name, a call, a subscript, a field ..: he by fun _ => rfl) -/
theorem pt_truth (ha : PE X a ta) (he : ∀ whole, isTrue a X.env whole = (do let v ← whole; standAt a.pos; holding [v] (truthy v))) :
    PT X a (fun σ H Q => ta σ H fun x H' => ∃ k, TruV X.K x H' k ∧ Q k H') := by
  intro pins s σ H Q I h
  exact isTrue_plain (thn (ha pins s σ H _ I h) fun v s1 ⟨x, H1, I1, r1, q1⟩ => tru_ok pins s1 σ H1 x v Q I1 r1 q1) (he _)

/-! ### strs and bytes -/
theorem op_add_str : OpR X (binaryOp .Add) (fun x y H Q => ∃ i j, x = .str i ∧ y = .str j ∧ i.length + j.length ≤ sizeLine ∧ Q (.str (i ++ j)) H) := by
  intro pins s σ H x y v u Q I rx ry h
  obtain ⟨i, j, rfl, rfl, hz, q⟩ := h
  obtain ⟨t, rfl⟩ := rx
  obtain ⟨t', rfl⟩ := ry
  exact add_str (fun t' tk => ⟨.str (i ++ j), H, I.tok _, ⟨_, rfl⟩, q⟩) hz
def PlainIxT (b : Expr) : Prop := ∀ o i, subscripted b false o i = operate [o, i] (getItem o i)
/-! ### scalar builtins, by CallR -/
theorem vals1 {x : V} {us : List Value} (r : Vals [x] us) : ∃ u, us = [u] ∧ RelV x u := by
  cases r with
  | cons r1 r2 => cases r2; exact ⟨_, rfl, r1⟩
theorem vals2 {x y : V} {us : List Value} (r : Vals [x, y] us) : ∃ u w', us = [u, w'] ∧ RelV x u ∧ RelV y w' := by
  cases r with
  | cons r1 r2 =>
    cases r2 with
    | cons r3 r4 => cases r4; exact ⟨_, _, rfl, r1, r3⟩
theorem call_int1 : CallR X (.type "int") (fun xs H Q => (∃ i, xs = [.int i] ∧ Q (.int i) H) ∨ ∃ k, xs = [.bl k] ∧ Q (.int (if k then 1 else 0)) H) := by
  intro pins s σ H xs us Q I r h
  rcases h with ⟨i, rfl, q⟩ | ⟨k, rfl, q⟩
  · obtain ⟨u, rfl, t, rfl⟩ := vals1 r
    exact call_int_int ⟨.int i, H, I, ⟨_, rfl⟩, q⟩
  · obtain ⟨u, rfl, r1⟩ := vals1 r
    cases r1
    exact call_int_bool ⟨.int (if k then 1 else 0), H, I.tok _, ⟨_, rfl⟩, q⟩
/-- len of a str, a bytes, a list, a tuple -/
def LenV (K : PySem.W.Frag) (x : V) (H : Hp) (n : Nat) : Prop :=
  match x with
  | .str y => y.length ≤ sizeLine ∧ n = y.length
  | .byt y => y.size ≤ sizeLine ∧ n = y.size
  | .ref p => (∃ xs, SqL K H p xs ∧ n = xs.length) ∨ ∃ xs, SqT K H p xs ∧ n = xs.length
  | _ => False
end
end L2

namespace L2
open PySem PySem.Spec PyProof.Rows

/-! ### an instance, its attributes a map -/
structure ObjM (h : Heap) (x dx C : Addr) (mA : Str → Option Value) : Prop where
  obj : h.get? x = some (PySem.W.instObj C dx)
  ns : h.Ns1 dx mA
  ne : dx ≠ x

theorem lookIn_ns {h : Heap} {dx : Addr} {mA : Str → Option Value} (n : h.Ns1 dx mA) : ∃ od, h.get? dx = some od ∧ ∀ name, PySem.W.lookIn name od = some (mA name) := by
  obtain ⟨o, es, ep, ho, hd, hk, _, hm⟩ := n
  refine ⟨o, ho, fun name => ?_⟩
  have e := hm name
  unfold nsFind findBy at e
  rw [← Array.find?_toList] at e
  unfold PySem.W.lookIn
  rw [hd]
  dsimp only
  split
  · rename_i y q
    rw [q] at e
    exact congrArg some e
  · rename_i q
    rw [q] at e
    have a : es.toList.any (·.refKey) = false := by
      rw [List.any_eq_false]
      intro y hy
      obtain ⟨z, t, hkey⟩ := hk y (Array.mem_toList_iff.mp hy)
      simp [DictEntry.refKey, hkey]
    have a' : ¬ es.toList.any (·.refKey) = true := by rw [a]; exact Bool.false_ne_true
    rw [if_neg a']
    exact congrArg some e

theorem ObjM.look {h : Heap} {x dx C : Addr} {mA : Str → Option Value} (I : ObjM h x dx C mA) : ∃ od, PySem.W.InstAt h x (PySem.W.instObj C dx) C (some od) ∧ ∀ name, PySem.W.lookIn name od = some (mA name) :=
  let ⟨od, ho, hl⟩ := lookIn_ns I.ns
  ⟨od, ⟨I.obj, rfl, rfl, ho⟩, hl⟩

section
variable {prog : Program} {w : World} {A : Around} {E : Value → Shared → Prop} {s : Shared} {K : PySem.W.Frag} {x dx C f : Addr} {mA : Str → Option Value} {name : Str} {v : Value}

theorem get_map {expr : Bool} {Q : Value → Shared → Prop} (X : K.In s.heap) (I : ObjM s.heap x dx C mA) (hg : PySem.W.plainGet K C name = true) (hh : PySem.W.hasDictIn K C = true)
    (ha : PySem.W.findIn K (.ref C) name = some none) (hv : mA name = some v) (hv' : PySem.W.handedIn v = true) (h : Q v { s with toks := s.toks + 1 }) :
    wpAny (model prog w) A (getAttr (.ref x) name expr) Q E s := by
  obtain ⟨od, J, hl⟩ := I.look
  exact PySem.W.get_value X J (PySem.W.plainGet_of hg).1 (PySem.W.findObj_own hh ha rfl (by rw [hl, hv])) hv' h

theorem get_meth {pl : Sem Bool} {Q : Value × List Value → Shared → Prop} (X : K.In s.heap) (I : ObjM s.heap x dx C mA) (hg : PySem.W.plainGet K C name = true)
    (hf : PySem.W.findIn K (.ref C) name = some (some (.ref f))) (ht : PySem.W.isFn K (.ref f) = true) (hv : mA name = none) (h : Q (.ref f, [.ref x]) s) :
    wpAny (model prog w) A (getMethod (.ref x) name pl) Q E s := by
  obtain ⟨od, J, hl⟩ := I.look
  exact PySem.W.method_fn X J (PySem.W.plainGet_of hg).1 (PySem.W.plainGet_of hg).2 hf (beq_iff_eq.mp ht) (by show (PySem.W.lookIn name od).map (·.isSome) = some false; rw [hl, hv]; rfl) h

theorem set_map {ns : List Str} {Q : Unit → Shared → Prop} (X : K.In s.heap) (I : ObjM s.heap x dx C mA)
    (hs : PySem.W.findIn K (.ref C) "__setattr__" = some (some (.builtin "object.__setattr__"))) (hp : PySem.W.plainOver K C = true) (ht : PySem.W.takerIn K C name = some none) (hh : PySem.W.hasDictIn K C = true)
    (hw : PySem.Within mA ns) (hsz : ns.length ≤ sizeLine)
    (h : ∀ h', ObjM h' x dx C (fun y => if y = name then some v else mA y) → Heap.SameBut dx s.heap h' → Q () { s with heap := h', toks := s.toks + 2 }) :
    wpAny (model prog w) A (setAttr (.ref x) name v) Q E s := by
  obtain ⟨od, J, hl⟩ := I.look
  refine PySem.W.set_plain X J hs (PySem.W.osa_open (s := { s with toks := s.toks + 1 }) (r := none) X J hp ht fun b => ?_)
  obtain ⟨cd, hc, hd'⟩ := PySem.W.any_some hh
  have hx : s.heap.get? x = some ⟨.ref C, some dx, .plain, #[]⟩ := I.obj
  refine wpAny_bind (wpAny_pure (wpAny_bind (wpAny_bind (wpAny_loadPart hx (wpAny_bind (PySem.W.Looks.here (s := { s with toks := s.toks + 1 }) (PySem.W.looks_clsIn X hc) ?_))))))
  rw [hd']
  refine wpAny_pure (a := some dx) (wpAny_bind (wpAny_pure (wpAny_bind ?_)))
  refine wpAny_nsSet1 (s := { s with toks := s.toks + 1 }) I.ns fun h' hn2 hs2 => ?_
  obtain ⟨oD, esD, epD, hoD, hdD, hcD⟩ := hn2.count (PySem.Within.cons name v hw)
  refine wpAny_bind (wpAny_lookBehind hoD (by rw [hdD]; exact pastItsLine_dict (Nat.le_trans hcD (by rw [List.length_cons]; omega))) ?_)
  exact wpAny_pure (h _ ⟨(hs2.2 _ (Ne.symm I.ne)).trans I.obj, hn2, I.ne⟩ hs2)

/-- C(..): the dict at the heap's end, the instance behind it; then its __init__ -/
theorem make_map {R : Result → Shared → Prop} {vs : List Value} {kw : List (Str × Value)} (X : K.In s.heap) (hm : PySem.W.makesIn K C = true)
    (hi : PySem.W.findIn K (.ref C) "__init__" = some (some (.ref f))) (hf : PySem.W.typeIn K (.ref f) = some (.type "function"))
    (h : codeAny (model prog w) (A.under (.builtin "type.__call__" ⟨.ref C :: vs, kw⟩)) (.call (.ref f) ⟨.ref (s.heap.objs.size + 1) :: vs, kw⟩) (PySem.W.InitBack (s.heap.objs.size + 1) R)
      { s with heap := (s.heap.push PySem.W.emptyDict).push (PySem.W.instObj C s.heap.objs.size) }) :
    codeAny (model prog w) A (.call (.ref C) ⟨vs, kw⟩) R s := by
  obtain ⟨hh, g, d, t, os⟩ := s
  exact PySem.W.make_core (PySem.W.makes_of X hm) (PySem.W.looks_findIn X hi) (fun self => PySem.W.bind_fn X self hf) (.inl rfl) h
end

/-! ### the attributes as a list of pairs -/
def putF (f : Str) (v : V) : List (Str × V) → List (Str × V)
  | [] => [(f, v)]
  | (g, x) :: r => if g = f then (g, v) :: r else (g, x) :: putF f v r
theorem lookup_putF (f g : Str) (v : V) : ∀ fs : List (Str × V), (putF f v fs).lookup g = if g = f then some v else fs.lookup g
  | [] => by
    show List.lookup g [(f, v)] = _
    by_cases h : g = f
    · have hb : (g == f) = true := beq_iff_eq.mpr h
      simp only [List.lookup, hb, if_pos h]
    · have hb : (g == f) = false := beq_eq_false_iff_ne.mpr h
      simp only [List.lookup, hb, if_neg h]
  | (k, x) :: r => by
    have ih := lookup_putF f g v r
    rw [show putF f v ((k, x) :: r) = (if k = f then (k, v) :: r else (k, x) :: putF f v r) from rfl]
    by_cases hk : k = f
    · rw [if_pos hk]
      by_cases h : g = k
      · have hb : (g == k) = true := beq_iff_eq.mpr h
        simp only [List.lookup, hb, if_pos (h.trans hk)]
      · have hb : (g == k) = false := beq_eq_false_iff_ne.mpr h
        simp only [List.lookup, hb, if_neg (fun e : g = f => h (e.trans hk.symm))]
    · rw [if_neg hk]
      by_cases h : g = k
      · have hb : (g == k) = true := beq_iff_eq.mpr h
        simp only [List.lookup, hb, if_neg (fun e : g = f => hk (h.symm.trans e))]
      · have hb : (g == k) = false := beq_eq_false_iff_ne.mpr h
        simp only [List.lookup, hb]
        exact ih
theorem keys_putF (f : Str) (v : V) : ∀ fs : List (Str × V), f ∈ (putF f v fs).map (·.1) ∧ ∀ g, g ∈ fs.map (·.1) → g ∈ (putF f v fs).map (·.1)
  | [] => ⟨by simp [putF], fun g h => by simp at h⟩
  | (k, x) :: r => by
    obtain ⟨i1, i2⟩ := keys_putF f v r
    rw [show putF f v ((k, x) :: r) = (if k = f then (k, v) :: r else (k, x) :: putF f v r) from rfl]
    by_cases hk : k = f
    · rw [if_pos hk]
      subst hk
      exact ⟨by simp, fun g h => by simpa using h⟩
    · rw [if_neg hk]
      refine ⟨?_, fun g h => ?_⟩
      · rw [List.map_cons]
        exact List.mem_cons_of_mem _ i1
      · rw [List.map_cons] at h ⊢
        rcases List.mem_cons.mp h with e | e
        · exact List.mem_cons.mpr (.inl e)
        · exact List.mem_cons_of_mem _ (i2 g e)
theorem length_putF (f : Str) (v : V) : ∀ fs : List (Str × V), (putF f v fs).length ≤ fs.length + 1
  | [] => by simp [putF]
  | (k, x) :: r => by
    have ih := length_putF f v r
    rw [show putF f v ((k, x) :: r) = (if k = f then (k, v) :: r else (k, x) :: putF f v r) from rfl]
    by_cases hk : k = f
    · rw [if_pos hk, List.length_cons, List.length_cons]; omega
    · rw [if_neg hk, List.length_cons, List.length_cons]; omega

theorem RelO.some_of {v : V} {o : Option Value} (r : RelO (some v) o) : ∃ u, o = some u ∧ RelV v u := by
  cases o with
  | none => exact (show False from r).elim
  | some u => exact ⟨u, rfl, r⟩
theorem RelO.none_of {o : Option Value} (r : RelO none o) : o = none := by
  cases o with
  | none => rfl
  | some u => exact (show False from r).elim
theorem handed_of {v : V} {u : Value} (r : RelV v u) : PySem.W.handedIn u = true := by
  cases v with
  | non => cases (show u = Value.none from r); rfl
  | bl b => cases (show u = Value.bool b from r); rfl
  | int i => obtain ⟨t, e⟩ := (show ∃ t, u = Value.int i t from r); cases e; rfl
  | str x => obtain ⟨t, e⟩ := (show ∃ t, u = Value.str x t from r); cases e; rfl
  | byt b => obtain ⟨t, e⟩ := (show ∃ t, u = Value.bytes b t from r); cases e; rfl
  | flt b => obtain ⟨t, e⟩ := (show ∃ t, u = Value.float b t from r); cases e; rfl
  | ref a => cases (show u = Value.ref a from r); rfl
  | ty n => cases (show u = Value.type n from r); rfl

section
variable {P : Program} {w : World} {H H' : Hp} {h h' : Heap} {a C dx : Addr} {fs fs' : List (Str × V)}
theorem ins_get (hok : HOk P w H h) (e : H a = some (.ins C dx fs)) : ∃ mA, ObjM h a dx C mA ∧ (∀ f, RelO (fs.lookup f) (mA f)) ∧ PySem.Within mA (fs.map (·.1)) ∧ fs.length ≤ 1000 ∧ H dx = some (.own a) := by
  obtain ⟨d, z, ne, ob, mA, n, r, q⟩ := (show ObjOk P w H h a (.ins C dx fs) from hok a _ e)
  exact ⟨mA, ⟨ob, n, ne⟩, r, q, z, d⟩
end

/-! ### what of the text a class must have -/
structure Cls (K : PySem.W.Frag) (C : Addr) : Prop where
  pg : PySem.W.plainGet K C Str.empty = true
  hd : PySem.W.hasDictIn K C = true
  po : PySem.W.plainOver K C = true
  sa : PySem.W.findIn K (.ref C) "__setattr__" = some (some (.builtin "object.__setattr__"))
theorem Cls.get {K : PySem.W.Frag} {C : Addr} (c : Cls K C) (f : Str) : PySem.W.plainGet K C f = true := c.pg
/-- no class of it has the name -/
def NoAttr (K : PySem.W.Frag) (C : Addr) (f : Str) : Prop := PySem.W.findIn K (.ref C) f = some none
theorem NoAttr.taker {K : PySem.W.Frag} {C : Addr} {f : Str} (n : NoAttr K C f) : PySem.W.takerIn K C f = some none := by
  unfold PySem.W.takerIn
  rw [show PySem.W.findIn K (.ref C) f = some none from n]
  rfl
/-- a constant of the class -/
structure Con (K : PySem.W.Frag) (C : Addr) (f : Str) (v : V) (u : Value) : Prop where
  at_ : PySem.W.findIn K (.ref C) f = some (some u)
  rel : RelV v u
  get : PySem.W.specialIn K u "__get__" = some none
  cp : PySem.W.copiedNames.contains f = false
/-- a method: a plain def of the class or of one above it -/
structure Meth (K : PySem.W.Frag) (C : Addr) (m : Str) (f : Addr) : Prop where
  at_ : PySem.W.findIn K (.ref C) m = some (some (.ref f))
  fn : PySem.W.isFn K (.ref f) = true
  kp : PySem.W.keepIn K (.ref f) = true

section
variable {X : Cx} {pins : List (Addr × Obj)} {σ : St} {H : Hp} {s : Shared} {a C dx : Addr} {fs : List (Str × V)} {f : Str} {v : V} {A : Around} {E : Value → Shared → Prop}

theorem getattr_ok {b : Bool} {Q : Value → Shared → Prop} (I : Inv X pins σ H s) (e : H a = some (.ins C dx fs)) (c : Cls X.K C) (n : NoAttr X.K C f) (l : fs.lookup f = some v)
    (h : ∀ u s', Inv X pins σ H s' → RelV v u → Q u s') : wpAny (model X.prog X.w) A (getAttr (.ref a) f b) Q E s := by
  obtain ⟨mA, O, r, _, _, _⟩ := ins_get I.hok e
  obtain ⟨u, hu, ru⟩ := RelO.some_of (v := v) (o := mA f) (by rw [← l]; exact r f)
  exact get_map I.kIn O (c.get f) c.hd n hu (handed_of ru) (h u _ (I.tok _) ru)

theorem getmeth_ok {m : Str} {g : Addr} {pl : Sem Bool} {Q : Value × List Value → Shared → Prop} (I : Inv X pins σ H s) (e : H a = some (.ins C dx fs)) (c : Cls X.K C) (k : Meth X.K C m g) (l : fs.lookup m = none)
    (h : Q (.ref g, [.ref a]) s) : wpAny (model X.prog X.w) A (getMethod (.ref a) m pl) Q E s := by
  obtain ⟨mA, O, r, _, _, _⟩ := ins_get I.hok e
  have hn : mA m = none := RelO.none_of (by rw [← l]; exact r m)
  exact get_meth I.kIn O (c.get m) k.at_ k.fn hn h

theorem setattr_ok {y : V} {u : Value} {Q : Unit → Shared → Prop} (I : Inv X pins σ H s) (e : H a = some (.ins C dx fs)) (c : Cls X.K C) (n : NoAttr X.K C f) (hl : fs.length < 1000) (ry : RelV y u)
    (h : ∀ s', Inv X pins σ (upd H a (.ins C dx (putF f y fs))) s' → Q () s') : wpAny (model X.prog X.w) A (setAttr (.ref a) f u) Q E s := by
  obtain ⟨mA, O, r, wi, _, ho⟩ := ins_get I.hok e
  have hz : (fs.map (·.1)).length ≤ sizeLine := by rw [List.length_map, sizeLine_eq]; omega
  refine set_map I.kIn O c.sa c.po n.taker c.hd wi hz fun h' O' sb => h _ ?_
  have hd : ∃ o, h'.get? dx = some o := let ⟨o, _, _, e', _⟩ := O'.ns; ⟨o, e'⟩
  refine I.write (x := a) (e := dx) (by rw [e]; exact True.intro) (.inr ho) (fun b q hb z => (sb.2 b hb).trans z) hd ?_
  refine ⟨by rw [upd_ne O.ne]; exact ho, ?_, O.ne, O'.obj, _, O'.ns, fun g => ?_, fun g hg => ?_⟩
  · have := length_putF f y fs; omega
  · show RelO ((putF f y fs).lookup g) (if g = f then some u else mA g)
    rw [lookup_putF]
    by_cases q : g = f
    · rw [if_pos q, if_pos q]; exact ry
    · rw [if_neg q, if_neg q]; exact r g
  · by_cases q : g = f
    · rw [q]; exact (keys_putF f y fs).1
    · refine (keys_putF f y fs).2 g (wi g fun z => hg ?_)
      show (if g = f then some u else mA g) = none
      rw [if_neg q]; exact z

/-- a new instance, tracked, without attributes -/
theorem Inv.made (I : Inv X pins σ H s) : Inv X pins σ (upd (upd H s.heap.objs.size (.own (s.heap.objs.size + 1))) (s.heap.objs.size + 1) (.ins C s.heap.objs.size []))
    { s with heap := (s.heap.push PySem.W.emptyDict).push (PySem.W.instObj C s.heap.objs.size) } := by
  have e1 : (s.heap.push PySem.W.emptyDict).get? s.heap.objs.size = some PySem.W.emptyDict := Heap.get?_push_size s.heap rfl
  have e2 : ((s.heap.push PySem.W.emptyDict).push (PySem.W.instObj C s.heap.objs.size)).get? (s.heap.objs.size + 1) = some (PySem.W.instObj C s.heap.objs.size) := by
    have := Heap.get?_push_size (s.heap.push PySem.W.emptyDict) (o := PySem.W.instObj C s.heap.objs.size) rfl
    rwa [Heap.size_push] at this
  have e3 : (s.heap.push PySem.W.emptyDict).Ns s.heap.objs.size (fun _ => none) := ⟨PySem.W.emptyDict, #[], _, e1, rfl, (fun e he => absurd he (by simp)), fun _ => rfl⟩
  have I1 := I.laid (a := s.heap.objs.size) (o := .own (s.heap.objs.size + 1)) (h' := s.heap.push PySem.W.emptyDict) (t' := s.toks) (fun b u q => Heap.get?_push_of_some _ q) (Nat.le_refl _) ⟨_, e1⟩
  refine I1.laid (a := s.heap.objs.size + 1) (o := .ins C s.heap.objs.size []) (t' := s.toks) (fun b u q => Heap.get?_push_of_some _ q) (Nat.le_of_eq (Heap.size_push _ _)) ?_
  have ne : s.heap.objs.size ≠ s.heap.objs.size + 1 := Nat.ne_of_lt (Nat.lt_succ_self _)
  refine ⟨by rw [upd_ne ne, upd_same], Nat.zero_le _, ne, e2, fun _ => none, (Heap.Ns1.of_empty e3).at fun o q => Heap.get?_push_of_some _ q, fun _ => True.intro, fun y hy => absurd rfl hy⟩

/-- e.f where nothing but the object is asked: through attributeBase (super) and the last hold -/
theorem attr_of {prog : Program} {w : World} {env : Env} {e : Expr} {f : Str} {pos : Pos} {s : Shared} {Q : Value → Shared → Prop} (hb : attributeBase e f env (eval e env) = eval e env)
    (h : wpAny (model prog w) A (eval e env) (fun o s₁ => wpAny (model prog w) A (getAttr o f true) Q E s₁) E s) : wpAny (model prog w) A (eval (.Attribute e f pos) env) Q E s :=
  Attribute_any_ h (by rw [arm_eval_Attribute, hb])
end

/-! ### readings and rules -/
/-- e.f, an attribute of the instance -/
def tFld (K : PySem.W.Frag) (ta : TE) (f : Str) : TE := fun σ H Q => ta σ H fun x H1 => ∃ a C dx fs v, x = .ref a ∧ H1 a = some (.ins C dx fs) ∧ Cls K C ∧ NoAttr K C f ∧ fs.lookup f = some v ∧ Q v H1
/-- e.f, a constant of the class -/
def tCon (K : PySem.W.Frag) (ta : TE) (f : Str) : TE := fun σ H Q => ta σ H fun x H1 => ∃ a C dx fs v u, x = .ref a ∧ H1 a = some (.ins C dx fs) ∧ Cls K C ∧ Con K C f v u ∧ fs.lookup f = none ∧ Q v H1
/-- e.f = value -/
def sFld (K : PySem.W.Frag) (ta tv : TE) (f : Str) : TS := fun D σ H => tv σ H fun y H1 => ta σ H1 fun x H2 => ∃ a C dx fs, x = .ref a ∧ H2 a = some (.ins C dx fs) ∧ Cls K C ∧ NoAttr K C f ∧ fs.length < 1000 ∧
  D.nx σ (upd H2 a (.ins C dx (putF f y fs)))
/-- an augmented operator on two values -/
def InOp (X : Cx) (op : Operator) (rd : V → V → Hp → VK → Prop) : Prop :=
  ∀ (pins : List (Addr × Obj)) (s : Shared) (σ : St) (H : Hp) (x y : V) (u v : Value) (Q : VK), Inv X pins σ H s → RelV x u → RelV y v → rd x y H Q → wpAny (model X.prog X.w) X.A (inplaceOp op u v) (EP X pins σ Q) X.xe s
/-- e.f op= value -/
def sFldAug (K : PySem.W.Frag) (ta tv : TE) (rd : V → V → Hp → VK → Prop) (f : Str) : TS := fun D σ H => ta σ H fun x H1 => ∃ a C dx fs v, x = .ref a ∧ H1 a = some (.ins C dx fs) ∧ Cls K C ∧ NoAttr K C f ∧ fs.lookup f = some v ∧
  tv σ H1 fun y H2 => rd v y H2 fun z H3 => ∃ dx' fs', H3 a = some (.ins C dx' fs') ∧ fs'.length < 1000 ∧ D.nx σ (upd H3 a (.ins C dx' (putF f z fs')))

section
variable {X : Cx} {o e value : Expr} {f : Str} {pos pos' tpos : Pos} {ta tv : TE}
theorem pe_fld (he : PE X e ta) (hb : attributeBase e f X.env (eval e X.env) = eval e X.env) : PE X (.Attribute e f pos) (tFld X.K ta f) := by
  intro pins s σ H Q I h
  refine attr_of hb (thn (he pins s σ H _ I h) fun u s1 ⟨x, H1, I1, rx, a, C, dx, fs, v, ex, ea, c, n, l, q⟩ => ?_)
  subst ex
  obtain rfl : u = Value.ref a := rx
  exact getattr_ok I1 ea c n l fun u' s2 I2 ru => ⟨v, H1, I2, ru, q⟩
theorem ps_fld (ha : PE X o ta) (hv : PE X value tv) (hs : swapsWith value (some (.Attribute o f pos')) pos.line X.env = pure false) : PS X (.Assign [.Attribute o f pos'] value pos) (sFld X.K ta tv f) := by
  intro pins s σ H D I h
  refine plainObj_wpAny_Assign_Attribute (thn (hv pins s σ H _ I h) fun u s1 ⟨y, H1, I1, ry, q⟩ => thn (ha pins s1 σ H1 _ I1 q) fun ov s2 ⟨x, H2, I2, rx, a, C, dx, fs, ex, ea, c, n, l, q2⟩ => ?_) hs
  subst ex
  obtain rfl : ov = Value.ref a := rx
  exact setattr_ok I2 ea c n l ry fun s3 I3 => ⟨σ, _, I3, q2⟩
theorem ps_fldaug {op : Operator} {rd : V → V → Hp → VK → Prop} (ha : PE X o ta) (hv : PE X value tv) (hop : InOp X op rd) : PS X (.AugAssign (.Attribute o f tpos) op value pos) (sFldAug X.K ta tv rd f) := by
  intro pins s σ H D I h
  refine wpAny_AugAssign_AttributeAny (thn (ha pins s σ H _ I h) fun ov s1 ⟨x, H1, I1, rx, a, C, dx, fs, v, ex, ea, c, n, l, q⟩ => ?_)
  subst ex
  obtain rfl : ov = Value.ref a := rx
  refine getattr_ok I1 ea c n l fun u s2 I2 ru => thn (hv pins s2 σ H1 _ I2 q) fun w3 s3 ⟨y, H2, I3, ry, q3⟩ => thn (hop pins s3 σ H2 v y u w3 _ I3 ru ry q3) fun w4 s4 ⟨z, H3, I4, rz, dx', fs', ea', l', q4⟩ => ?_
  exact setattr_ok I4 ea' c n l' rz fun s5 I5 => ⟨σ, _, I5, q4⟩
def rAdd : V → V → Hp → VK → Prop := fun x y H Q => ∃ i j, x = .int i ∧ y = .int j ∧ Q (.int (i + j)) H
def rSub : V → V → Hp → VK → Prop := fun x y H Q => ∃ i j, x = .int i ∧ y = .int j ∧ Q (.int (i - j)) H
theorem in_sub : InOp X .Sub rSub := by
  rintro pins s σ H x y u v Q I rx ry ⟨i, j, rfl, rfl, q⟩
  obtain ⟨t, rfl⟩ := (show ∃ t, u = Value.int i t from rx)
  obtain ⟨t', rfl⟩ := (show ∃ t', v = Value.int j t' from ry)
  exact PyProof.Rows.isub_int ⟨.int (i - j), H, I.tok _, ⟨_, rfl⟩, q⟩

end

/-! ### isinstance -/
section
variable {X : Cx} {pins : List (Addr × Obj)} {σ : St} {H : Hp} {s : Shared} {A : Around} {E : Value → Shared → Prop} {Q : Value → Shared → Prop} {c : Value} {b : Bool}
/-- the type of a value, as the fragment's deciders take it; for an instance its class -/
inductive TyOf (K : PySem.W.Frag) (H : Hp) : V → Value → Prop where
  | non : TyOf K H .non (.type "NoneType")
  | bl (x : Bool) : TyOf K H (.bl x) (.type "bool")
  | int (i : Int) : TyOf K H (.int i) (.type "int")
  | str (x : Str) : TyOf K H (.str x) (.type "str")
  | flt (x : UInt64) : TyOf K H (.flt x) (.type "float")
  | lst {a : Addr} {xs : List V} (e : H a = some (.lst xs)) : TyOf K H (.ref a) (.type "list")
  | frz {a : Addr} {o : Obj} {xs : List V} (e : H a = some (.frz o (.lst xs))) : TyOf K H (.ref a) (.type "list")
  | tup {a : Addr} {xs : List V} (e : H a = some (.tup xs)) : TyOf K H (.ref a) (.type "tuple")
  | dK {a : Addr} {kvs : List (Key × V)} (e : H a = some (.dK kvs)) : TyOf K H (.ref a) (.type "dict")
  | dT {a : Addr} {kvs : List (List Key × V)} (e : H a = some (.dT kvs)) : TyOf K H (.ref a) (.type "dict")
  | ins {a C dx : Addr} {fs : List (Str × V)} (e : H a = some (.ins C dx fs)) (cl : Cls K C) (ha : PySem.W.findIn K (.ref C) "__class__" = some (some (.builtin "object.__class__")))
      (hn : PySem.W.specialIn K (.builtin "object.__class__") "__get__" = some (some (.builtin "getset_descriptor.__get__"))) (htk : PySem.W.takesIn K (.builtin "object.__class__") = some true)
      (hm : PySem.W.mroIn K C (.type "object") = some true) : TyOf K H (.ref a) (.ref C)
/-- isinstance(x, c) for one class c, a built-in or an own one: kitOne's answer -/
theorem isinst_ok {x : V} {u t : Value} (I : Inv X pins σ H s) (rx : RelV x u) (ty : TyOf X.K H x t) (e : PySem.W.kitOne X.K t c = some b) (h : ∀ tk, Q (.bool b) { s with toks := tk }) :
    wpAny (model X.prog X.w) A (call (.builtin "isinstance") [u, c]) Q E s := by
  cases ty with
  | non => cases (show u = Value.none from rx); exact PySem.W.kia_one PySem.W.kitx_none I.kIn True.intro e (fun z => nomatch z) h
  | bl y => cases (show u = Value.bool y from rx); exact PySem.W.kia_one PySem.W.kitx_bool I.kIn True.intro e (fun z => nomatch z) h
  | int i => obtain ⟨t, q⟩ := (show ∃ t, u = Value.int i t from rx); cases q; exact PySem.W.kia_one PySem.W.kitx_int I.kIn True.intro e (fun z => nomatch z) h
  | str y => obtain ⟨t, q⟩ := (show ∃ t, u = Value.str y t from rx); cases q; exact PySem.W.kia_one PySem.W.kitx_str I.kIn True.intro e (fun z => nomatch z) h
  | flt y => obtain ⟨t, q⟩ := (show ∃ t, u = Value.float y t from rx); cases q; exact PySem.W.kia_one PySem.W.kitx_float I.kIn True.intro e (fun z => nomatch z) h
  | @lst a xs ea =>
    cases (show u = Value.ref a from rx)
    obtain ⟨_, _, n, _, h1⟩ := (show ObjOk X.prog X.w H s.heap a (.lst xs) from I.hok a _ ea)
    exact PySem.W.kia_one PySem.W.kitx_list I.kIn ⟨_, h1, rfl⟩ e (fun z => nomatch z) h
  | @frz a ob xs ea =>
    cases (show u = Value.ref a from rx)
    obtain ⟨_, _, _, n, _, h1⟩ := (show ObjOk X.prog X.w H s.heap a (.frz ob (.lst xs)) from I.hok a _ ea)
    exact PySem.W.kia_one PySem.W.kitx_list I.kIn ⟨_, h1, rfl⟩ e (fun z => nomatch z) h
  | @tup a xs ea =>
    cases (show u = Value.ref a from rx)
    obtain ⟨_, _, _, p⟩ := (show ObjOk X.prog X.w H s.heap a (.tup xs) from I.hok a _ ea)
    obtain ⟨o, h1, h2, _⟩ := p
    exact PySem.W.kia_one PySem.W.kitx_tuple I.kIn ⟨o, h1, h2⟩ e (fun z => nomatch z) h
  | @dK a kvs ea =>
    cases (show u = Value.ref a from rx)
    obtain ⟨_, _, vs, _, p⟩ := (show ObjOk X.prog X.w H s.heap a (.dK kvs) from I.hok a _ ea)
    obtain ⟨o, es, ep, h1, h2, _⟩ := p
    exact PySem.W.kia_one PySem.W.kitx_dict I.kIn ⟨o, h1, h2.1⟩ e (fun z => nomatch z) h
  | @dT a kvs ea =>
    cases (show u = Value.ref a from rx)
    obtain ⟨_, _, xs, _, o, es, ep, h1, h2, _⟩ := (show ObjOk X.prog X.w H s.heap a (.dT kvs) from I.hok a _ ea)
    exact PySem.W.kia_one PySem.W.kitx_dict I.kIn ⟨o, h1, h2.1⟩ e (fun z => nomatch z) h
  | @ins a C dx fs ea cl ha hn htk hm =>
    cases (show u = Value.ref a from rx)
    obtain ⟨mA, O, _⟩ := ins_get I.hok ea
    obtain ⟨od, J, _⟩ := O.look
    exact PySem.W.kia_one (PySem.W.kitx_own (cl.get _) cl.hd ha hn htk hm) I.kIn J e (fun z => nomatch z) h
end
end L2

namespace L2
open PySem PySem.Spec PyProof.Rows

/-! ### room -/
structure Room (k : Nat) (A : Around) : Prop where
  hd : A.handled = none
  dp : A.depth + 3 * k + 5 < recursionLimit
  un : A.units + 16 * k + 200 < cLine
theorem Room.mono {j k : Nat} {A : Around} (r : Room k A) (h : j ≤ k) : Room j A := ⟨r.hd, by have := r.dp; omega, by have := r.un; omega⟩
theorem Room.deeper {k : Nat} {A : Around} (r : Room (k + 1) A) (env : Env) : Room k (A.deeper env) :=
  ⟨r.hd, by have := r.dp; show A.depth + 1 + 3 * k + 5 < _; omega, by have := r.un; show A.units + 3 + 16 * k + 200 < _; omega⟩
theorem Room.in1 {k : Nat} {A : Around} (r : Room (k + 1) A) : Room k A.in1 :=
  ⟨r.hd, by have := r.dp; show A.depth + 3 * k + 5 < _; omega, by have := r.un; show A.units + 1 + 16 * k + 200 < _; omega⟩
theorem make_depth {A : Around} {C : Addr} {us : List Value} {kw : List (Str × Value)} : (A.under (.builtin "type.__call__" ⟨.ref C :: us, kw⟩)).depth = A.depth + 1 := by
  first | rfl | simp [Around.under, Code.weight, Code.isCreation, Code.isGuard, Code.isCaller, Code.frames, Code.isFrame, guardIds]
theorem make_units {A : Around} {C : Addr} {us : List Value} {kw : List (Str × Value)} : (A.under (.builtin "type.__call__" ⟨.ref C :: us, kw⟩)).units = A.units + 1 := by
  first | rfl | simp [Around.under, Code.cUnits, Code.frames, Code.isFrame]
theorem Room.make {k : Nat} {A : Around} (r : Room (k + 1) A) (C : Addr) (us : List Value) (kw : List (Str × Value)) : Room k (A.under (.builtin "type.__call__" ⟨.ref C :: us, kw⟩)) :=
  ⟨r.hd, by have := r.dp; rw [make_depth]; omega, by have := r.un; rw [make_units]; omega⟩
theorem Room.depth {k : Nat} {A : Around} (r : Room k A) : A.depth < recursionLimit := by have := r.dp; omega
theorem Room.units {k : Nat} {A : Around} (r : Room k A) : A.units + 64 < cLine := by have := r.un; omega
/-! ### argument lists and displays -/
def tNil : TA := fun _ H Q => Q [] H
def tCons (ta : TE) (tr : TA) : TA := fun σ H Q => ta σ H fun x H1 => tr σ H1 fun xs H2 => Q (x :: xs) H2
section
variable {X : Cx} {e : Expr} {es : List Expr} {te : TE} {t : TA} {pos : Pos}
theorem pa_nil : PA X [] tNil := fun _ _ _ _ H Q I h => Calls.spliced_nil ⟨[], H, I, .nil, h⟩
theorem pa_cons (ha : PE X e te) (hr : PA X es t) (hs : starEach (e :: es) X.env = (false, eval e X.env) :: starEach es X.env := by rfl) : PA X (e :: es) (tCons te t) := by
  intro pos pins s σ H Q I h
  rw [hs]
  show wpAny _ _ (spliced ((false, eval e X.env) :: backTo pos (starEach es X.env))) _ _ s
  refine Calls.spliced_cons (thn (ha pins s σ H _ I h) fun u s1 ⟨x, H1, I1, r1, q1⟩ => ?_)
  exact thn (hr pos pins s1 σ H1 _ I1 q1) fun us s2 ⟨xs, H2, I2, r2, q2⟩ => ⟨x :: xs, H2, I2, .cons r1 r2, q2⟩

/-- a tuple, a list of written items -/
def tTup (t : TA) : TE := fun σ H Q => t σ H fun xs H1 => xs.length ≤ sizeLine ∧ ∀ p, H1 p = none → Q (.ref p) (upd H1 p (.tup xs))
def tLst (t : TA) : TE := fun σ H Q => t σ H fun xs H1 => xs.length ≤ sizeLine ∧ ∀ p, H1 p = none → Q (.ref p) (upd H1 p (.lst xs))
theorem pe_tup {x1} (h : PA X es t) : PE X (.Tuple es x1 pos) (tTup t) := by
  intro pins s σ H Q I hq
  refine wpAny_Tuple_spliced (thn (h pos pins s σ H _ I hq) fun us s1 ⟨xs, H1, I1, r, z, q⟩ => ⟨by rw [← r.length]; exact z, ?_⟩)
  have hf : H1 s1.heap.objs.size = none := I1.hok.fresh (Nat.le_refl _)
  refine ⟨.ref s1.heap.objs.size, upd H1 s1.heap.objs.size (.tup xs), I1.laid (t' := s1.toks) (fun b u e => Heap.get?_push_of_some _ e) (Nat.le_refl _) ?_, rfl, q _ hf⟩
  exact ⟨z, us, r, ⟨_, Heap.get?_push_size _ rfl, rfl, _, rfl⟩⟩
theorem pe_lst (h : PA X es t) : PE X (.List es pos) (tLst t) := by
  intro pins s σ H Q I hq
  refine wpAny_List_spliced (thn (h pos pins s σ H _ I hq) fun us s1 ⟨xs, H1, I1, r, z, q⟩ => ⟨by rw [← r.length]; exact z, ?_⟩)
  have hf : H1 s1.heap.objs.size = none := I1.hok.fresh (Nat.le_refl _)
  refine ⟨.ref s1.heap.objs.size, upd H1 s1.heap.objs.size (.lst xs), I1.laid (t' := s1.toks) (fun b u e => Heap.get?_push_of_some _ e) (Nat.le_refl _) ?_, rfl, q _ hf⟩
  exact ⟨z, us, 0, r, Heap.get?_push_size _ rfl⟩
end

/-! ### what a def promises -/
/-- a def's promise: the bound arguments in the parameters' order, the heap, the wanted end, the wanted exception -/
abbrev Sp := List V → Hp → VK → XK → Prop
/-- how an exception lies behind a call (file 08 gives it): the callers' frames, abstract heap and state ahead of the call, the wish, the exception, the state -/
abbrev CXT := List Env → Hp → Shared → XK → Value → Shared → Prop

/-- the state at a call -/
structure Env0 (P : Program) (w : World) (K : PySem.W.Frag) (mg : Str → Option Value) (base : Heap) (A : Around) (outer : List Env) (s : Shared) (H : Hp) : Prop where
  frames : A.frames = some outer
  mod : Mod K mg base
  bs : ∀ b o, base.get? b = some o → s.heap.get? b = some o ∧ H b = none
  bsz : base.objs.size ≤ s.heap.objs.size
  funs : s.heap.FunFrames base outer
  frf : ∀ b ∈ frs outer, H b = none
  hok : HOk P w H s.heap
  bare : AllBare s.gens
/-- a call's end -/
def CE (outer : List Env) (P : Program) (w : World) (H : Hp) (s : Shared) (Q : VK) (u : Value) (s' : Shared) : Prop :=
  ∃ v H', s'.os = s.os ∧ AllBare s'.gens ∧ Un (frs outer) [] H H' s.heap s'.heap ∧ HOk P w H' s'.heap ∧ RelV v u ∧ Q v H'
def CR (CX : CXT) (outer : List Env) (P : Program) (w : World) (H : Hp) (s : Shared) (Q : VK) (E : XK) (r : Result) (s' : Shared) : Prop :=
  match r with
  | .ok (.ret u) => CE outer P w H s Q u s'
  | .ok _ => False
  | .error e => CX outer H s E e s'
structure FnOk (P : Program) (w : World) (K : PySem.W.Frag) (mg : Str → Option Value) (base : Heap) (CX : CXT) (k : Nat) (f : Addr) (fd : FuncData) (ps : List Str) (sp : Sp) : Prop where
  len : ∀ vs H Q E, sp vs H Q E → vs.length = ps.length
  run : ∀ (A : Around) (outer : List Env) (s : Shared) (H : Hp) (args : Args) (us : List Value) (vs : List V) (Q : VK) (E : XK), Room k A → Env0 P w K mg base A outer s H → BindsTo s fd args (ps.zip us) → Vals vs us → sp vs H Q E →
    codeAny (model P w) A (.call (.ref f) args) (CR CX outer P w H s Q E) s
theorem FnOk.mono {P : Program} {w : World} {K : PySem.W.Frag} {mg : Str → Option Value} {base : Heap} {CX : CXT} {j k : Nat} {f : Addr} {fd : FuncData} {ps : List Str} {sp : Sp} (F : FnOk P w K mg base CX j f fd ps sp) (h : j ≤ k) :
    FnOk P w K mg base CX k f fd ps sp := ⟨F.len, fun A outer s H args us vs Q E hr => F.run A outer s H args us vs Q E (hr.mono h)⟩
/-- a weaker promise -/
theorem FnOk.imp {P : Program} {w : World} {K : PySem.W.Frag} {mg : Str → Option Value} {base : Heap} {CX : CXT} {k : Nat} {f : Addr} {fd : FuncData} {ps : List Str} {sp sp' : Sp} (F : FnOk P w K mg base CX k f fd ps sp)
    (h : ∀ vs H Q E, sp' vs H Q E → sp vs H Q E) : FnOk P w K mg base CX k f fd ps sp' :=
  ⟨fun vs H Q E q => F.len vs H Q E (h _ _ _ _ q), fun A outer s H args us vs Q E hr he hb hv hs => F.run A outer s H args us vs Q E hr he hb hv (h _ _ _ _ hs)⟩

theorem Env0.make {P : Program} {w : World} {K : PySem.W.Frag} {mg : Str → Option Value} {base : Heap} {A : Around} {outer : List Env} {s : Shared} {H : Hp} (e : Env0 P w K mg base A outer s H) (C : Addr) (us : List Value) (kw : List (Str × Value)) :
    Env0 P w K mg base (A.under (.builtin "type.__call__" ⟨.ref C :: us, kw⟩)) outer s H := ⟨by first | exact e.frames | (simpa [Around.under, Code.envs, Code.isFrame, pushEnvs] using e.frames), e.mod, e.bs, e.bsz, e.funs, e.frf, e.hok, e.bare⟩
theorem Env0.in1 {P : Program} {w : World} {K : PySem.W.Frag} {mg : Str → Option Value} {base : Heap} {A : Around} {outer : List Env} {s : Shared} {H : Hp} (e : Env0 P w K mg base A outer s H) :
    Env0 P w K mg base A.in1 outer s H := ⟨e.frames, e.mod, e.bs, e.bsz, e.funs, e.frf, e.hok, e.bare⟩

section
variable {X : Cx} {pins : List (Addr × Obj)} {σ : St} {H : Hp} {s s' : Shared}
/-- from a body: what a callee wants -/
theorem Inv.env0 (I : Inv X pins σ H s) : Env0 X.prog X.w X.K X.mg X.base X.A X.stack s H :=
  ⟨I.ok.frames, I.ok.mod, I.bs, Nat.le_trans I.ok.bsz I.sz, I.stack, I.stkFree, I.hok, I.bare⟩
/-- behind a call -/
theorem Inv.after {Q : VK} {u : Value} (I : Inv X pins σ H s) (h : CE X.stack X.prog X.w H s Q u s') : EP X pins σ Q u s' := by
  obtain ⟨v, H', os, bare, un, hok, r, q⟩ := h
  obtain ⟨hh, g, d, t, os'⟩ := s'
  obtain rfl : os' = s.os := os
  exact ⟨v, H', I.call (h' := hh) (g' := g) (d' := d) (t' := t) (ch := []) un hok bare (fun b z => absurd z (by simp)), r, q⟩
end

/-! ### calls -/
/-- f(..): the written arguments, then the defaults dvs; E: what is wanted of an exception -/
def tCall (sp : Sp) (dvs : List V) (E : XK) (t : TA) : TE := fun σ H Q => t σ H fun vs H1 => sp (vs ++ dvs) H1 Q E
/-- o.m(..) of an instance of the class at C -/
def tMeth (C : Addr) (m : Str) (sp : Sp) (dvs : List V) (E : XK) (ta : TE) (t : TA) : TE := fun σ H Q => ta σ H fun x H1 => ∃ a dx fs, x = .ref a ∧ H1 a = some (.ins C dx fs) ∧ fs.lookup m = none ∧
  t σ H1 fun vs H2 => sp (x :: (vs ++ dvs)) H2 Q E
/-- C(..): a new instance and its dict, then __init__ -/
def tMake (C : Addr) (sp : Sp) (dvs : List V) (E : XK) (t : TA) : TE := fun σ H Q => t σ H fun vs H1 => ∀ x dx, H1 x = none → H1 dx = none → dx ≠ x →
  sp (.ref x :: (vs ++ dvs)) (upd (upd H1 dx (.own x)) x (.ins C dx [])) (fun v H2 => v = .non ∧ Q (.ref x) H2) E

/-- how the parameters are bound: us the positional arguments, kw the keywords' values by name, ds the defaults that fill up -/
def Binds (K : PySem.W.Frag) (fd : FuncData) (ps : List Str) (ds : List Value) : Prop :=
  ∀ (s : Shared) (us : List Value), K.In s.heap → (us ++ ds).length = ps.length → BindsTo s fd ⟨us, []⟩ (ps.zip (us ++ ds))
/-- every parameter is given -/
theorem Binds.all {K : PySem.W.Frag} {fd : FuncData} {ps : List Str} (h : ∀ us : List Value, us.length = ps.length → bindArgs fd ⟨us, []⟩ = pure (ps.zip us)) : Binds K fd ps [] := fun s us _ hl => by
  rw [List.append_nil] at hl ⊢
  exact .of_eq (h us hl)

/-- an exception of a callee reaches what this body wants of exceptions -/
def Passes (CX : CXT) (X : Cx) (E : XK) : Prop := ∀ (pins : List (Addr × Obj)) (σ : St) (H : Hp) (s : Shared) (e : Value) (s' : Shared), Inv X pins σ H s → CX X.stack H s E e s' → X.xe e s'

section
variable {X : Cx} {CX : CXT} {k : Nat} {f C : Addr} {fd : FuncData} {ps : List Str} {sp : Sp} {dvs : List V} {ds : List Value} {E : XK} {x m : Str} {p pos apos : Pos} {e o : Expr} {es : List Expr} {ta : TE} {t : TA}

/-- the callee runs -/
theorem run_fn {pins : List (Addr × Obj)} {σ : St} {H : Hp} {s : Shared} {Q : VK} {us : List Value} {vs : List V} (F : FnOk X.prog X.w X.K X.mg X.base CX k f fd ps sp) (hr : Room k X.A) (hb : Binds X.K fd ps ds) (hd : Vals dvs ds) (hx : Passes CX X E)
    (I : Inv X pins σ H s) (r : Vals vs us) (h : sp (vs ++ dvs) H Q E) : wpAny (model X.prog X.w) X.A (call (.ref f) us) (EP X pins σ Q) X.xe s := by
  have r2 : Vals (vs ++ dvs) (us ++ ds) := r.append hd
  have hl : (us ++ ds).length = ps.length := by rw [← r2.length]; exact F.len _ _ _ _ h
  refine wpAny_call (codeAny_mono (F.run X.A X.stack s H ⟨us, []⟩ (us ++ ds) (vs ++ dvs) Q E hr I.env0 (hb s us I.kIn hl) r2 h) fun r s' hq => ?_)
  cases r with
  | error e => exact hx pins σ H s e s' I hq
  | ok fl =>
    cases fl with
    | ret u => exact I.after hq
    | next => exact False.elim hq
    | brk => exact False.elim hq
    | cont => exact False.elim hq

theorem pe_call (F : FnOk X.prog X.w X.K X.mg X.base CX k f fd ps sp) (hr : Room k X.A) (hg : Gl X x) (hm : X.mg x = some (.ref f)) (hk : PySem.W.keepIn X.K (.ref f) = true) (hb : Binds X.K fd ps ds) (hd : Vals dvs ds) (hx : Passes CX X E)
    (ha : PA X (e :: es) t) (hdb : (x == ("__debug__" : Str)) = false := by decide) (he : starEach (e :: es) X.env = (false, eval e X.env) :: starEach es X.env := by rfl) (hpl : (backTo pos (starEach es X.env)).any (·.1) = false := by rfl) :
    PE X (.Call (.Name x p) (e :: es) [] pos) (tCall sp dvs E t) := by
  intro pins s σ H Q I h
  refine wpAny_Call_Name_kw (ld_glob I hg hm ?_ hdb)
  refine PySem.W.callWith_K (h₀ := X.base) I.ok.mod.kin hk (thn (ha pos pins s σ H _ I h) fun us s1 ⟨vs, H1, I1, r, q⟩ => ⟨I1.kIn, ?_⟩) he hpl
  exact run_fn F hr hb hd hx I1 r q
/-- what a class must have to be made -/
structure Mk (K : PySem.W.Frag) (C f : Addr) : Prop where
  makes : PySem.W.makesIn K C = true
  init : PySem.W.findIn K (.ref C) "__init__" = some (some (.ref f))
  fn : PySem.W.isFn K (.ref f) = true
  kp : PySem.W.keepIn K (.ref C) = true

theorem run_make {pins : List (Addr × Obj)} {σ : St} {H : Hp} {s : Shared} {Q : VK} {us : List Value} {vs : List V} (M : Mk X.K C f) (F : FnOk X.prog X.w X.K X.mg X.base CX k f fd ps sp) (hr : Room (k + 1) X.A) (hb : Binds X.K fd ps ds) (hd : Vals dvs ds)
    (hx : Passes CX X E) (I : Inv X pins σ H s) (r : Vals vs us)
    (h : ∀ x dx, H x = none → H dx = none → dx ≠ x → sp (.ref x :: (vs ++ dvs)) (upd (upd H dx (.own x)) x (.ins C dx [])) (fun v H2 => v = .non ∧ Q (.ref x) H2) E) :
    wpAny (model X.prog X.w) X.A (call (.ref C) us) (EP X pins σ Q) X.xe s := by
  have hq := h (s.heap.objs.size + 1) s.heap.objs.size (I.hok.fresh (Nat.le_succ _)) (I.hok.fresh (Nat.le_refl _)) (Nat.ne_of_lt (Nat.lt_succ_self _))
  have I2 := Inv.made (C := C) I
  have r2 : Vals (V.ref (s.heap.objs.size + 1) :: (vs ++ dvs)) (Value.ref (s.heap.objs.size + 1) :: (us ++ ds)) := .cons rfl (r.append hd)
  have hl : (Value.ref (s.heap.objs.size + 1) :: us ++ ds).length = ps.length := by
    have e := r2.length
    rw [F.len _ _ _ _ hq] at e
    exact e.symm
  refine wpAny_call (make_map (f := f) I.kIn M.makes M.init (beq_iff_eq.mp M.fn) (codeAny_mono (F.run _ X.stack _ _ ⟨Value.ref (s.heap.objs.size + 1) :: us, []⟩ (Value.ref (s.heap.objs.size + 1) :: (us ++ ds)) _ _ E (hr.make C us [])
    (I2.env0.make C us []) (hb _ (Value.ref (s.heap.objs.size + 1) :: us) I2.kIn hl) r2 hq) fun r s' hq' => ?_))
  cases r with
  | error e => exact hx pins σ _ _ e s' I2 hq'
  | ok fl =>
    cases fl with
    | ret u =>
      obtain ⟨v, H', I3, rv, ev, q3⟩ := I2.after hq'
      subst ev
      exact ⟨rv, ⟨V.ref (s.heap.objs.size + 1), H', I3, rfl, q3⟩⟩
    | next => exact False.elim hq'
    | brk => exact False.elim hq'
    | cont => exact False.elim hq'
theorem pe_make0 (M : Mk X.K C f) (F : FnOk X.prog X.w X.K X.mg X.base CX k f fd ps sp) (hr : Room (k + 1) X.A) (hg : Gl X x) (hm : X.mg x = some (.ref C)) (hb : Binds X.K fd ps ds) (hd : Vals dvs ds) (hx : Passes CX X E)
    (hdb : (x == ("__debug__" : Str)) = false := by decide) : PE X (.Call (.Name x p) [] [] pos) (tMake C sp dvs E tNil) := by
  intro pins s σ H Q I h
  refine wpAny_Call_Name_kw (ld_glob I hg hm ?_ hdb)
  exact PySem.W.callWith_K0 I.kIn M.kp (run_make (us := []) M F hr hb hd hx I .nil h)
end

/-! ### keywords -/
/-- the values of the keywords, from the left -/
def PK (X : Cx) (kws : List Keyword) (t : TA) : Prop :=
  ∀ (pos : Pos) (pins : List (Addr × Obj)) (s : Shared) (σ : St) (H : Hp) (Q : List V → Hp → Prop), Inv X pins σ H s → t σ H Q → wpAny (model X.prog X.w) X.A (evalAll ((backToKw pos (keywordEach kws X.env)).map (·.2))) (AP X pins σ Q) X.xe s
section
variable {X : Cx} {CX : CXT} {k : Nat} {f C : Addr} {fd : FuncData} {ps ks : List Str} {sp : Sp} {E : XK} {x m : Str} {p pos apos kpos : Pos} {e o : Expr} {es : List Expr} {kws : List Keyword} {te ta : TE} {t tk : TA} {nm : Option Str}
/-- how a call with keywords binds: g puts the positional values us and the keywords' values ws (names ks) in the parameters' order, defaults among them -/
structure KBinds (K : PySem.W.Frag) (fd : FuncData) (ps ks : List Str) (g : List Value → List Value → List Value) (gV : List V → List V → List V) : Prop where
  to : ∀ (s : Shared) (us ws : List Value), K.In s.heap → (g us ws).length = ps.length → BindsTo s fd ⟨us, ks.zip ws⟩ (ps.zip (g us ws))
  rel : ∀ {vs : List V} {us : List Value} {zs : List V} {ws : List Value}, Vals vs us → Vals zs ws → Vals (gV vs zs) (g us ws)
def tCallK (sp : Sp) (gV : List V → List V → List V) (E : XK) (t tk : TA) : TE := fun σ H Q => t σ H fun vs H1 => tk σ H1 fun zs H2 => sp (gV vs zs) H2 Q E
variable {g : List Value → List Value → List Value} {gV : List V → List V → List V}
end

/-! ### a def's body keeps its promise -/
/-- names: the parameters first -/
structure FnScope (N P : List Str) (sc : Scope) : Prop where
  kind : sc.kind = .function
  co : sc.isCoroutine = false
  gen : sc.isGenerator = false
  nd : N.Nodup
  pre : N.take P.length = P
  par : ∀ x ∈ P, sc.names.lookup x = some .local ∨ sc.names.lookup x = some .cell
  nofree : ∀ y ∈ sc.names, y.2 ≠ .free

theorem bindL_out {kindOf : Str → Option NameKind} {x : Str} : ∀ {binds : List (Str × Value)} {m : Str → Option Value}, (∀ v, (x, v) ∉ binds) → bindL kindOf binds m x = m x
  | [], _, _ => rfl
  | (n, v) :: r, m, h => by
    unfold bindL
    rw [bindL_out fun w hw => h w (List.mem_cons_of_mem _ hw)]
    split
    · have : x ≠ n := by rintro rfl; exact h v List.mem_cons_self
      simp [this]
    · rfl
theorem bindC_out {kindOf : Str → Option NameKind} {x : Str} : ∀ {binds : List (Str × Value)} {m : Str → Option Value}, (∀ v, (x, v) ∉ binds) → bindC kindOf binds m x = m x
  | [], _, _ => rfl
  | (n, v) :: r, m, h => by
    unfold bindC
    rw [bindC_out fun w hw => h w (List.mem_cons_of_mem _ hw)]
    split
    · rfl
    · have : x ≠ n := by rintro rfl; exact h v List.mem_cons_self
      simp [this]
theorem bindL_get {kindOf : Str → Option NameKind} {x : Str} {v : Value} : ∀ {P : List Str} {vs : List Value} {i : Nat} {m : Str → Option Value}, P.Nodup → P[i]? = some x → vs[i]? = some v → kindOf x = some .local →
    bindL kindOf (P.zip vs) m x = some v
  | [], _, _, _, _, h, _, _ => by simp at h
  | _ :: _, [], _, _, _, _, h, _ => by simp at h
  | p :: P, w :: vs, 0, m, nd, h1, h2, hk => by
    simp at h1 h2; subst h1; subst h2
    show bindL kindOf ((p, w) :: P.zip vs) m p = _
    unfold bindL
    rw [bindL_out fun v hv => (List.nodup_cons.mp nd).1 (List.of_mem_zip hv).1, if_pos hk]
    simp
  | p :: P, w :: vs, i + 1, m, nd, h1, h2, hk => by
    show bindL kindOf ((p, w) :: P.zip vs) m x = _
    unfold bindL
    exact bindL_get (i := i) (List.nodup_cons.mp nd).2 (by simpa using h1) (by simpa using h2) hk
theorem bindC_get {kindOf : Str → Option NameKind} {x : Str} {v : Value} : ∀ {P : List Str} {vs : List Value} {i : Nat} {m : Str → Option Value}, P.Nodup → P[i]? = some x → vs[i]? = some v → kindOf x ≠ some .local →
    bindC kindOf (P.zip vs) m x = some v
  | [], _, _, _, _, h, _, _ => by simp at h
  | _ :: _, [], _, _, _, _, h, _ => by simp at h
  | p :: P, w :: vs, 0, m, nd, h1, h2, hk => by
    simp at h1 h2; subst h1; subst h2
    show bindC kindOf ((p, w) :: P.zip vs) m p = _
    unfold bindC
    rw [bindC_out fun v hv => (List.nodup_cons.mp nd).1 (List.of_mem_zip hv).1, if_neg hk]
    simp
  | p :: P, w :: vs, i + 1, m, nd, h1, h2, hk => by
    show bindC kindOf ((p, w) :: P.zip vs) m x = _
    unfold bindC
    exact bindC_get (i := i) (List.nodup_cons.mp nd).2 (by simpa using h1) (by simpa using h2) hk

/-- the names' values at the entry -/
def start (N : List Str) (vs : List V) : St := vs.map some ++ List.replicate (N.length - vs.length) none

/-- the context of a def's body, at its entry; an exception leaves the frame, then lies as CX says -/
def cxOf (CX : CXT) (P : Program) (w : World) (K : PySem.W.Frag) (mg : Str → Option Value) (base : Heap) (N : List Str) (qual : Str) (scope : Scope) (f : Addr) (cd : Value) (A : Around) (outer : List Env) (s : Shared) (H : Hp) (E : XK) : Cx where
  prog := P
  w := w
  K := K
  mg := mg
  base := base
  A := A.deeper (envOfC qual scope s.heap.objs.size f cd)
  N := N
  s₀ := s
  H₀ := H
  env := envOfC qual scope s.heap.objs.size f cd
  outer := outer
  stack := envOfC qual scope s.heap.objs.size f cd :: outer
  ex := []
  calm := true
  fn := fun _ => true
  pn := []
  xe := fun e s' => wpAny (model P w) (A.deeper (envOfC qual scope s.heap.objs.size f cd)) (leaving (envOfC qual scope s.heap.objs.size f cd) e) (fun _ s'' => CX outer H s E e s'') (fun e' s'' => CX outer H s E e' s'') s'

theorem cell_has {sc : Scope} {n : Nat} {x : Str} (h : sc.names.lookup x = some .cell) : ∃ c, (cellsFrom n sc.names []).lookup x = some c := by
  have q := PySem.W.cellsFrom_some sc.names n [] (.inl h)
  exact Option.isSome_iff_exists.mp q

theorem inv_start {CX : CXT} {P : Program} {w : World} {K : PySem.W.Frag} {mg : Str → Option Value} {base : Heap} {N ps : List Str} {qual : Str} {scope : Scope} {f : Addr} {cd : Value} {A : Around} {outer : List Env} {s s1 : Shared} {H : Hp} {E : XK} {us : List Value} {vs : List V}
    (S : FnScope N ps scope) (hd : A.handled = none) (e0 : Env0 P w K mg base A outer s H) (hl : vs.length = ps.length) (r : Vals vs us)
    (x : InCallC s s.heap.objs.size (bindL (envOfC qual scope s.heap.objs.size f cd).kindOf (ps.zip us) fun _ => none) (cellsFrom (s.heap.objs.size + 1) scope.names []) (bindC (envOfC qual scope s.heap.objs.size f cd).kindOf (ps.zip us) fun _ => none) s1) :
    Inv (cxOf CX P w K mg base N qual scope f cd A outer s H E) [] (start N vs) H s1 := by
  have hpl : ps.length ≤ N.length := by have := congrArg List.length S.pre; rw [List.length_take] at this; omega
  obtain ⟨h1, tk, rfl, hk⟩ := x.done
  have noA : ∀ b : Addr, b ∉ (cxOf CX P w K mg base N qual scope f cd A outer s H E).ex := fun b z => absurd (show b ∈ ([] : List Addr) from z) (by simp)
  refine ⟨⟨e0.mod, S.kind, rfl, rfl, Nat.le_refl _, fun y z c h1 h2 => ?_, fun y hy => ?_, fun y c _ h => ?_, fun _ => hd, Around.frames_deeper e0.frames, .inr ⟨rfl, rfl⟩, fun b z => absurd z (noA b), e0.bs, e0.bsz, fun b _ _ => noA b, fun b z => absurd z (noA b), e0.funs, e0.frf⟩,
    rfl, e0.bare, Un.kept hk, ⟨_, x.toInCall.ns, fun i y v h1 h2 h3 => ?_⟩, fun y c h => ⟨_, x.cell y c h⟩, e0.hok.fresh (Nat.le_refl _), fun y c h => ?_, fun p hp => absurd (show p ∈ ([] : List (Addr × Obj)) from hp) (by simp), e0.hok.kept hk, ?_⟩
  · exact name_of_addr x.apart (PySem.mem_of_lookup h1) (PySem.mem_of_lookup h2)
  · have hy : scope.names.lookup y = some .cell ∨ scope.names.lookup y = some .free := hy
    rcases hy with hy | hy
    · exact cell_has hy
    · exact absurd rfl (S.nofree _ (PySem.mem_of_lookup hy))
  · exact Nat.le_of_lt (x.above y c (PySem.mem_of_lookup h))
  · have hi : i < vs.length := by
      unfold start at h2
      by_cases hi : i < vs.length
      · exact hi
      · rw [List.getElem?_append_right (by simpa using hi)] at h2
        rw [List.getElem?_replicate] at h2
        split at h2 <;> cases h2
    have ha : vs[i]? = some v := by
      unfold start at h2
      rw [List.getElem?_append_left (by simpa using hi), List.getElem?_map] at h2
      cases e : vs[i]? with
      | none => rw [e] at h2; cases h2
      | some a => rw [e] at h2; cases h2; rfl
    obtain ⟨u, hu, rv⟩ := r.get ha
    have hp : ps[i]? = some y := by
      rw [← S.pre, List.getElem?_take_of_lt (by omega)]; exact h1
    have ndP : ps.Nodup := by rw [← S.pre]; exact S.nd.sublist (List.take_sublist _ _)
    refine ⟨u, rv, ?_⟩
    rcases S.par y (List.mem_of_getElem? hp) with k | k
    · exact .inl ⟨k, bindL_get ndP hp hu k⟩
    · obtain ⟨c, e⟩ := cell_has (n := s.heap.objs.size + 1) k
      refine .inr ⟨.inl k, c, e, ?_⟩
      have q := x.cell y c e
      rw [bindC_get ndP hp hu (by show scope.names.lookup y ≠ _; rw [k]; decide)] at q
      exact q
  · exact e0.hok.fresh (Nat.le_of_lt (x.above y c (PySem.mem_of_lookup h)))
  · unfold start
    show _ = N.length
    rw [List.length_append, List.length_map, List.length_replicate]
    omega

/-- THE RULE: a def (or a method) of the text, by its body. The body's reading t is chosen for each entry; it is run at the parameters' values -/
theorem fn_of {CX : CXT} {P : Program} {w : World} {K : PySem.W.Frag} {mg : Str → Option Value} {base : Heap} {k : Nat} {f : Addr} {name qual : Str} {params : Arguments} {body : List Stmt} {scope : Scope} {dV kV doc pm cdv ct oc : Value} {an od : Option Addr}
    {osl : Array (Option Value)} {N ps : List Str} {sp : Sp} (lk : K.lookup f = some ⟨oc, od, .func (PySem.W.fnOf name qual params body scope dV kV doc pm an cdv ct), osl⟩) (hcd : PySem.W.codeIn K cdv qual = true) (S : FnScope N ps scope)
    (len : ∀ vs H Q E, sp vs H Q E → vs.length = ps.length)
    (hbody : ∀ (A : Around) (outer : List Env) (s : Shared) (H : Hp) (vs : List V) (Q : VK) (E : XK), Room k (A.deeper (envOfC qual scope s.heap.objs.size f cdv)) → sp vs H Q E →
      ∃ t, PSs (cxOf CX P w K mg base N qual scope f cdv A outer s H E) body t ∧ t { nx := fun _ H' => Q .non H', rt := Q } (start N vs) H) :
    FnOk P w K mg base CX (k + 1) f (PySem.W.fnOf name qual params body scope dV kV doc pm an cdv ct) ps sp := by
  refine ⟨len, fun A outer s H args us vs Q E hr e0 hb r hsp => ?_⟩
  have hl := len _ _ _ _ hsp
  have KX : K.In s.heap := e0.mod.kin.keeps fun b o e => (e0.bs b o e).1
  have lim : s.heap.NoLimit := e0.mod.nolimit.keeps fun b o e => (e0.bs b o e).1
  have hkind : ∀ y ∈ ps.zip us, scope.names.lookup y.1 = some .local ∨ (scope.names.lookup y.1 = some .cell ∧ ((cellsFrom (s.heap.objs.size + 1) scope.names []).lookup y.1).isSome = true) := fun ⟨n, v⟩ hy => by
    rcases S.par n (List.of_mem_zip hy).1 with q | q
    · exact .inl q
    · exact .inr ⟨q, PySem.W.cellsFrom_some _ _ _ (.inl q)⟩
  refine codeAny_call_function hr.depth (KX _ _ lk) rfl S.co S.gen rfl (PySem.W.codeRec_of KX hcd) (hb _ _ _ _ ?_)
  refine wpAny_newFunctionEnv_cells S.kind hkind fun env he s1 x => ?_
  subst he
  refine ⟨lim.keeps x.toInCall.keep, codeAny_func ?_⟩
  obtain ⟨t, ht, hq⟩ := hbody A outer s H vs Q E (hr.deeper _) hsp
  have I : Inv (cxOf CX P w K mg base N qual scope f cdv A outer s H E) [] (start N vs) H s1 := inv_start S hr.hd e0 hl r x
  refine wpAny_mono (ht [] s1 (start N vs) H _ I hq) (fun fl s' hs => ?_) fun e s' hs => hs
  have fin : ∀ {σ' : St} {H' : Hp} {v : V} {u : Value}, Inv (cxOf CX P w K mg base N qual scope f cdv A outer s H E) [] σ' H' s' → RelV v u → Q v H' → CE outer P w H s Q u s' :=
    fun {σ' H' v u} J rv q => ⟨v, H', J.os, J.bare, J.base, J.hok, rv, q⟩
  cases fl with
  | ret u =>
    obtain ⟨v, σ', H', J, rv, q⟩ := hs
    exact fin J rv q
  | next =>
    obtain ⟨σ', H', J, q⟩ := hs
    exact fin (v := V.non) (u := Value.none) J rfl q
  | brk =>
    obtain ⟨_, _, _, q⟩ := hs
    exact False.elim q
  | cont =>
    obtain ⟨_, _, _, q⟩ := hs
    exact False.elim q
end L2

namespace L2
open PySem PySem.Spec PyProof.Rows
section
variable {X : Cx} {x : Str} {p pos : Pos} {e : Expr} {es : List Expr} {t : TA} {id T : String} {r : List V → Hp → VK → Prop}

def tCB (r : List V → Hp → VK → Prop) (t : TA) : TE := fun σ H Q => t σ H fun vs H1 => r vs H1 Q
/-- f(e, ..), f a built-in function -/
theorem pe_callB (hc : CallR X (.builtin id) r) (hg : Gl X x) (hm : X.mg x = none) (hv : bootBuiltins x = some (.builtin id)) (ha : PA X (e :: es) t) (hn : x ≠ "__name__" := by decide) (hdb : (x == ("__debug__" : Str)) = false := by decide)
    (he : starEach (e :: es) X.env = (false, eval e X.env) :: starEach es X.env := by rfl) (hpl : (backTo pos (starEach es X.env)).any (·.1) = false := by rfl) : PE X (.Call (.Name x p) (e :: es) [] pos) (tCB r t) := by
  intro pins s σ H Q I h
  refine wpAny_Call_Name_kw (ld_blt I hg hm hv ?_ hn hdb)
  exact PyProof.Rows.callWith_builtin1 (thn (ha pos pins s σ H _ I h) fun us s1 ⟨vs, H1, I1, r1, q1⟩ => hc pins s1 σ H1 vs us Q I1 r1 q1) he hpl
/-- T(e, ..), T a built-in type -/
theorem pe_callTy (hc : CallR X (.type T) r) (hg : Gl X x) (hm : X.mg x = none) (hv : bootBuiltins x = some (.type T)) (ha : PA X (e :: es) t) (hn : x ≠ "__name__" := by decide) (hdb : (x == ("__debug__" : Str)) = false := by decide)
    (he : starEach (e :: es) X.env = (false, eval e X.env) :: starEach es X.env := by rfl) (hpl : (backTo pos (starEach es X.env)).any (·.1) = false := by rfl) : PE X (.Call (.Name x p) (e :: es) [] pos) (tCB r t) := by
  intro pins s σ H Q I h
  refine wpAny_Call_Name_kw (ld_blt I hg hm hv ?_ hn hdb)
  exact PyProof.Rows.callWith_type1 (thn (ha pos pins s σ H _ I h) fun us s1 ⟨vs, H1, I1, r1, q1⟩ => hc pins s1 σ H1 vs us Q I1 r1 q1) he hpl
end
end L2

namespace HT
open PySem PyProof.Rows

/-- t < u of tuples of ints -/
def lexLt : List Int → List Int → Bool
  | [], [] => false
  | [], _ :: _ => true
  | _ :: _, [] => false
  | x :: xs, y :: ys => if x = y then lexLt xs ys else decide (x < y)
section
open PySem.SeqAt
open PySem.AutoSeq1 (wpAny_loadPart')
open PySem.MeetsSeq PySem.MeetsSeq2 PySem.MeetsSeq3

end

section
variable {prog : Program} {w : World} {A : Around} {E : Value → Shared → Prop} {s : Shared}

/-- t + u, t not empty -/
theorem cat_tup {t b : Addr} {vs ws : List Value} {Q : Value → Shared → Prop} (ht : IsTup s.heap t vs.toArray) (hb : IsTup s.heap b ws.toArray) (hv : vs ≠ [])
    (h1 : ws = [] → Q (.ref t) s) (h2 : ws ≠ [] → Q (.ref s.heap.objs.size) { s with heap := s.heap.push { cls := .type "tuple", data := .seq (vs ++ ws).toArray } })
    (hsz : vs.length + ws.length ≤ sizeLine) : wpAny (model prog w) A (binaryOp .Add (.ref t) (.ref b)) Q E s := by
  obtain ⟨⟨cls, dd, data, sl⟩, ho, hc, n, hd⟩ := id ht
  obtain ⟨⟨cls2, dd2, data2, sl2⟩, ho2, hc2, n2, hd2⟩ := id hb
  simp only at hc hd hc2 hd2
  subst hc hd hc2 hd2
  have e : vs.toArray ++ ws.toArray = (vs ++ ws).toArray := by simp
  by_cases hw : ws = []
  · exact concat_meets ⟨_, ho, rfl⟩ ⟨_, ho2, rfl⟩ noFill_tuple_add seq_tuple_add PySem.F.slot_tuple_add PySem.F.entry_tuple_add (PySem.F.args_tuple_add_2 _ _)
      (tuple_addW1 t b vs.toArray ws.toArray n n2 dd dd2 sl sl2 (by simpa using hv) (by simp [hw])) ⟨ho, ho2, h1 hw⟩
  · refine concat_meets ⟨_, ho, rfl⟩ ⟨_, ho2, rfl⟩ noFill_tuple_add seq_tuple_add PySem.F.slot_tuple_add PySem.F.entry_tuple_add (PySem.F.args_tuple_add_2 _ _)
      (tuple_addW2 t b vs.toArray ws.toArray n n2 dd dd2 sl sl2 (by simpa using hv) (by simpa using hw) (by rw [List.size_toArray, List.size_toArray]; exact hsz)) ⟨ho, ho2, ?_⟩
    rw [e]
    exact h2 hw

/-! ### t[a:b], not the whole -/
/-- a slice's bound as a place among n (d where it is left out) -/
def sIx (n d : Nat) : Option Int → Nat
  | none => d
  | some v => if v < 0 then (v + (n : Int)).toNat else min v.toNat n
theorem sIx_none (n d : Nat) : sIx n d none = d := rfl
theorem sIx_nat (n d k : Nat) : sIx n d (some (k : Int)) = min k n := by
  show (if (k : Int) < 0 then ((k : Int) + (n : Int)).toNat else min (k : Int).toNat n) = min k n
  rw [if_neg (by omega), Int.toNat_natCast]
theorem sIx_le (n d : Nat) (hd : d ≤ n) (o : Option Int) : sIx n d o ≤ n := by
  cases o with
  | none => exact hd
  | some v =>
    show (if v < 0 then (v + (n : Int)).toNat else min v.toNat n) ≤ n
    by_cases hv : v < 0
    · rw [if_pos hv]; omega
    · rw [if_neg hv]; exact Nat.min_le_right _ _
theorem clip_eq (v : Int) (n d : Nat) : (if v < 0 then max (v + (n : Int)) 0 else min v (n : Int)) = ((sIx n d (some v) : Nat) : Int) := by
  show (if v < 0 then max (v + (n : Int)) 0 else min v (n : Int)) = (((if v < 0 then (v + (n : Int)).toNat else min v.toNat n) : Nat) : Int)
  by_cases hv : v < 0
  · simp only [if_pos hv]; omega
  · simp only [if_neg hv]; omega
theorem adjust_gen (lo hi : Option Int) (n : Nat) : Builtin.Slice.sliceAdjust lo hi 1 (n : Int) = (((sIx n 0 lo : Nat) : Int), ((sIx n n hi : Nat) : Int)) := by
  have h1 : ¬ ((1 : Int) < 0) := by omega
  unfold Builtin.Slice.sliceAdjust
  simp only [h1, if_false]
  refine Prod.ext ?_ ?_
  · cases lo with
    | none => rfl
    | some v => exact clip_eq v n 0
  · cases hi with
    | none => rfl
    | some v => exact clip_eq v n n
theorem places_gen (i j : Nat) : Builtin.Slice.slicePlaces (i : Int) (j : Int) 1 = j - i := by
  unfold Builtin.Slice.slicePlaces
  have h1 : (1 : Int) > 0 := by omega
  simp only [h1, if_true, Int.ediv_one]
  split <;> omega
theorem slicePart_ {v : Value} {o : Option Int} {Q : Option Int → Shared → Prop} (p : IsPart v o) (h : Q o s) : wpAny (model prog w) A (Builtin.Slice.slicePartIndex v) Q E s := by
  cases p with
  | none => exact slicePart_none h
  | int i t => exact slicePart_int h
theorem sliceApplied_gen {sl : Addr} {vl vu : Value} {lo hi : Option Int} {n : Nat} {Q : Int × Int × Nat → Shared → Prop} (hs : s.heap.IsSliceOf sl vl vu .none) (pl : IsPart vl lo) (pu : IsPart vu hi)
    (h : Q (((sIx n 0 lo : Nat) : Int), 1, sIx n n hi - sIx n 0 lo) s) : wpAny (model prog w) A (Builtin.Slice.sliceApplied (.ref sl) (pure (n : Int))) Q E s := by
  obtain ⟨os, hos, hcs, hds⟩ := id hs
  unfold Builtin.Slice.sliceApplied Builtin.Slice.sliceFields
  refine wpAny_bind (wpAny_bind (wpAny_field hos hds (x := vl) rfl (wpAny_bind (wpAny_field hos hds (x := vu) rfl (wpAny_bind (wpAny_field hos hds (x := .none) rfl (wpAny_pure ?_)))))))
  refine wpAny_bind (slicePart_none ?_)
  show wpAny _ _ (if ((1 : Int) == 0) = true then _ else _) _ _ s
  rw [if_neg (by decide)]
  refine wpAny_bind (slicePart_ pl (wpAny_bind (slicePart_ pu (wpAny_bind (wpAny_pure ?_)))))
  show wpAny _ _ (match Builtin.Slice.sliceAdjust lo hi 1 (n : Int) with | (lo, hi) => pure (lo, (1 : Int), Builtin.Slice.slicePlaces lo hi 1)) _ _ s
  rw [adjust_gen lo hi n]
  show wpAny _ _ (pure (((sIx n 0 lo : Nat) : Int), (1 : Int), Builtin.Slice.slicePlaces ((sIx n 0 lo : Nat) : Int) ((sIx n n hi : Nat) : Int) 1)) _ _ s
  rw [places_gen]
  exact wpAny_pure h
theorem pick_gen (xs : Array Value) (i k : Nat) : ((List.range k).filterMap fun (m : Nat) => xs[((i : Int) + (m : Int) * 1).toNat]?).toArray = ((xs.toList.drop i).take k).toArray := by
  have e : (fun (m : Nat) => xs[((i : Int) + (m : Int) * 1).toNat]?) = fun m => xs[i + m]? := by
    funext m
    have : ((i : Int) + (m : Int) * 1).toNat = i + m := by omega
    rw [this]
  rw [e]
  have := pick_run xs i k
  rw [List.filterMap_map] at this
  have e2 : ((fun x => xs[x]?) ∘ fun x => i + x) = fun m => xs[i + m]? := rfl
  rw [e2] at this
  rw [this]

theorem getItem_tuple_cut {t sl : Addr} {items : Array Value} {vl vu : Value} {lo hi : Option Int} {Q : Value → Shared → Prop} (ht : IsTup s.heap t items) (hs : s.heap.IsSliceOf sl vl vu .none) (pl : IsPart vl lo) (pu : IsPart vu hi)
    (hw : ¬ (sIx items.size 0 lo = 0 ∧ sIx items.size items.size hi = items.size))
    (h : Q (.ref s.heap.objs.size) { s with heap := s.heap.push { cls := .type "tuple", data := .seq ((items.toList.drop (sIx items.size 0 lo)).take (sIx items.size items.size hi - sIx items.size 0 lo)).toArray } })
    (hsz : items.size ≤ sizeLine) : wpAny (model prog w) A (getItem (.ref t) (.ref sl)) Q E s := by
  have htake : sizeOk (.seq ((items.toList.drop (sIx items.size 0 lo)).take (sIx items.size items.size hi - sIx items.size 0 lo)).toArray) := by
    show ((items.toList.drop (sIx items.size 0 lo)).take (sIx items.size items.size hi - sIx items.size 0 lo)).toArray.size ≤ sizeLine
    rw [List.size_toArray, List.length_take, List.length_drop, Array.length_toList]
    omega
  have hj : sIx items.size items.size hi ≤ items.size := sIx_le _ _ (Nat.le_refl _) hi
  obtain ⟨os, hos, hcs, hds⟩ := id hs
  have hTs : s.TypeIs (.ref sl) "slice" := ⟨os, hos, hcs⟩
  unfold getItem
  try with_reducible refine wpAny_holding ?_
  first | refine wpAny_bind (wpAny_pure ?_) | skip
  refine wpAny_bind (wpAny_sequenceKey ht.typeIs (by decide) ?_)
  refine wpAny_bind (wpAny_callSpecial?_slot (name := Str.ofString "__getitem__") ht.typeIs PyProof.Rows.slot_tuple_getitem
    (wpAny_call_entry PyProof.Rows.slot_tuple_getitem ht.typeIs entry_tuple_getitem ?_ (args_tuple_getitem _ _)))
  show wpAny _ _ (Builtin.Tuple.tupleItemsOf (.ref t) >>= _) _ _ s
  refine wpAny_bind (tupleItemsOf_ ht ?_)
  refine wpAny_bind (wpAny_typeOf hTs ?_)
  rw [if_pos (by decide)]
  refine wpAny_bind (sliceApplied_gen hs pl pu ?_)
  have hno : ¬ ((((sIx items.size 0 lo : Nat) : Int) == 0 && (1 : Int) == 1 && (sIx items.size items.size hi - sIx items.size 0 lo) == items.size) = true) := by
    intro q
    rw [Bool.and_eq_true, Bool.and_eq_true] at q
    have q1 : ((sIx items.size 0 lo : Nat) : Int) = 0 := eq_of_beq q.1.1
    have q2 : sIx items.size items.size hi - sIx items.size 0 lo = items.size := eq_of_beq q.2
    exact hw ⟨by omega, by omega⟩
  show wpAny _ _ (if (((sIx items.size 0 lo : Nat) : Int) == 0 && (1 : Int) == 1 && (sIx items.size items.size hi - sIx items.size 0 lo) == items.size) = true then _ else _) _ _ s
  rw [if_neg hno, pick_gen]
  first
    | exact wpAny_bind (m := Builtin.Tuple.tupleExact _) (wpAny_newObj_type (wpAny_pure ⟨_, rfl, wpAny_pure h⟩) htake)
    | exact wpAny_bind (m := Builtin.Tuple.tupleExact _) (wpAny_newObj_type (wpAny_bind (wpAny_pure (wpAny_pure ⟨_, rfl, wpAny_pure h⟩))) htake)
    | exact wpAny_bind (wpAny_bind (m := Builtin.Tuple.tupleExact _) (wpAny_newObj_type (wpAny_pure (wpAny_pure ⟨_, rfl, wpAny_pure h⟩)) htake))
    | exact wpAny_bind (wpAny_bind (m := Builtin.Tuple.tupleExact _) (wpAny_newObj_type (wpAny_pure ⟨_, rfl, wpAny_pure h⟩) htake))
end
end HT

namespace L2
open PySem PySem.Spec PyProof.Rows

/-! ### the parts of a slice -/
abbrev TO := St → Hp → (Option Int → Hp → Prop) → Prop
/-- a slice's part (left out, or an int) -/
def PO (X : Cx) (e : Option Expr) (t : TO) : Prop :=
  ∀ (pins : List (Addr × Obj)) (s : Shared) (σ : St) (H : Hp) (Q : Option Int → Hp → Prop), Inv X pins σ H s → t σ H Q →
    wpAny (model X.prog X.w) X.A (evalPart e X.env) (fun u s' => ∃ o H', Inv X pins σ H' s' ∧ IsPart u o ∧ Q o H') X.xe s
def tNoPart : TO := fun _ H Q => Q none H
def tPart (t : TE) : TO := fun σ H Q => t σ H fun x H1 => ∃ i, x = .int i ∧ Q (some i) H1

section
variable {X : Cx} {e : Expr} {te : TE} {lo hi : Option Expr} {tl th : TO} {pos p2 : Pos}

theorem po_none : PO X none tNoPart := by
  intro pins s σ H Q I h
  rw [evalPart_none]
  exact wpAny_pure ⟨none, H, I, .none, h⟩
theorem po_some (h : PE X e te) : PO X (some e) (tPart te) := by
  intro pins s σ H Q I hw
  rw [evalPart_some]
  refine thn (h pins s σ H _ I hw) fun u s1 ⟨x, H1, I1, r1, q1⟩ => ?_
  obtain ⟨i, rfl, q⟩ := q1
  obtain ⟨t, rfl⟩ := r1
  exact ⟨some i, H1, I1, .int i t, q⟩

/-- what a slice of a value is, by values: the slice object stands at sl -/
def SlR (X : Cx) (r : V → Option Int → Option Int → Hp → VK → Prop) : Prop :=
  ∀ (pins : List (Addr × Obj)) (s : Shared) (σ : St) (H : Hp) (x : V) (v vl vu : Value) (lo hi : Option Int) (sl : Addr) (Q : VK), Inv X pins σ H s → RelV x v → s.heap.IsSliceOf sl vl vu .none → IsPart vl lo → IsPart vu hi → r x lo hi H Q →
    ∃ T id, typeLookup (.type T) "__getitem__" = pure (some (.builtin id)) ∧ s.TypeIs v T ∧ wpAny (model X.prog X.w) X.A (getItem v (.ref sl)) (EP X pins σ Q) X.xe s
theorem SlR.or {r r' : V → Option Int → Option Int → Hp → VK → Prop} (h : SlR X r) (h' : SlR X r') : SlR X (fun x lo hi H Q => r x lo hi H Q ∨ r' x lo hi H Q) := by
  intro pins s σ H x v vl vu lo hi sl Q I rx hs pl pu q
  rcases q with q | q
  · exact h pins s σ H x v vl vu lo hi sl Q I rx hs pl pu q
  · exact h' pins s σ H x v vl vu lo hi sl Q I rx hs pl pu q
def tSl (r : V → Option Int → Option Int → Hp → VK → Prop) (te : TE) (tl th : TO) : TE := fun σ H Q => te σ H fun x H1 => tl σ H1 fun l H2 => th σ H2 fun u H3 => r x l u H3 Q
/-- a[lo:hi], any a -/
theorem pe_slice {r : V → Option Int → Option Int → Hp → VK → Prop} (hr : SlR X r) (he : PE X e te) (hl : PO X lo tl) (hu : PO X hi th) : PE X (.Subscript e (.Slice lo hi none p2) pos) (tSl r te tl th) := by
  intro pins s σ H Q I h
  refine Subscript_ (thn (he pins s σ H _ I h) fun v s1 ⟨x, H1, I1, r1, q1⟩ => ?_)
  refine wpAny_Slice (thn (hl pins s1 σ H1 _ I1 q1) fun vl s2 ⟨l, H2, I2, pl, q2⟩ => thn (hu pins s2 σ H2 _ I2 q2) fun vu s3 ⟨u, H3, I3, pu, q3⟩ => ?_)
  rw [evalPart_none]
  refine wpAny_pure ?_
  have I4 : Inv X pins σ H3 { s3 with heap := s3.heap.push { cls := .type "slice", data := .fields #[vl, vu, .none] } } := I3.kept (t' := s3.toks) fun b ob q => Heap.get?_push_of_some _ q
  obtain ⟨T, id, hT, ht, hg⟩ := hr pins { s3 with heap := s3.heap.push { cls := .type "slice", data := .fields #[vl, vu, .none] } } σ H3 x v vl vu l u s3.heap.objs.size Q I4 r1 (Heap.IsSliceOf.new ..) pl pu q3
  show wpAny (model X.prog X.w) X.A (subscriptTail e (.Slice lo hi none p2) v (.ref s3.heap.objs.size)) (EP X pins σ Q) X.xe { s3 with heap := s3.heap.push { cls := .type "slice", data := .fields #[vl, vu, .none] } }
  exact tail_any (ops := [.ref s3.heap.objs.size, v]) ht hT hg (by with_unfolding_all rfl)

/-- the items of xs[lo:hi] -/
def cutV (xs : List V) (lo hi : Option Int) : List V := (xs.drop (HT.sIx xs.length 0 lo)).take (HT.sIx xs.length xs.length hi - HT.sIx xs.length 0 lo)
theorem cutV_length (xs : List V) (lo hi : Option Int) : (cutV xs lo hi).length ≤ xs.length := by
  unfold cutV
  rw [List.length_take, List.length_drop]
  omega
/-- t[lo:hi], not the whole of it (the whole would be t itself) -/
def rSlT (K : PySem.W.Frag) : V → Option Int → Option Int → Hp → VK → Prop := fun x lo hi H Q => ∃ a xs, x = .ref a ∧ SqT K H a xs ∧
  ¬ (HT.sIx xs.length 0 lo = 0 ∧ HT.sIx xs.length xs.length hi = xs.length) ∧ ∀ p, H p = none → Q (.ref p) (upd H p (.tup (cutV xs lo hi)))
theorem sl_tup : SlR X (rSlT X.K) := by
  intro pins s σ H x v vl vu lo hi sl Q I rx hs pl pu h
  obtain ⟨a, xs, rfl, hx, hw, q⟩ := h
  cases rx
  obtain ⟨its, r, ht, hz⟩ := I.tuple hx
  have hlen : its.toArray.size = xs.length := by rw [List.size_toArray]; exact r.length.symm
  refine ⟨"tuple", _, PyProof.Rows.slot_tuple_getitem.lookup, ht.typeIs, ?_⟩
  refine HT.getItem_tuple_cut ht hs pl pu (by rw [hlen]; exact hw) ?_ (by rw [hlen]; exact hz)
  rw [hlen]
  refine ⟨.ref s.heap.objs.size, _, I.laid (t' := s.toks) (o := .tup (cutV xs lo hi)) (fun b ob q => Heap.get?_push_of_some _ q) (Nat.le_refl _) ?_, rfl, q _ (I.hok.fresh (Nat.le_refl _))⟩
  exact ⟨Nat.le_trans (cutV_length xs lo hi) hz, _, (r.drop (HT.sIx xs.length 0 lo)).take (HT.sIx xs.length xs.length hi - HT.sIx xs.length 0 lo), IsTup.new _ _⟩

/-! ### t < u, t + u -/
def rLtT (K : PySem.W.Frag) : R2 := fun x y H Q => ∃ a b ns ms, x = .ref a ∧ y = .ref b ∧ SqT K H a (ns.map V.int) ∧ SqT K H b (ms.map V.int) ∧ Q (.bl (HT.lexLt ns ms)) H
/-- t + u, t not empty: u empty gives t itself -/
def rCatT (K : PySem.W.Frag) : R2 := fun x y H Q => ∃ a b xs ys, x = .ref a ∧ y = .ref b ∧ SqT K H a xs ∧ SqT K H b ys ∧ xs ≠ [] ∧ xs.length + ys.length ≤ sizeLine ∧
  (ys = [] → Q (.ref a) H) ∧ (ys ≠ [] → ∀ p, H p = none → Q (.ref p) (upd H p (.tup (xs ++ ys))))
theorem Vals.nil_iff {xs : List V} {us : List Value} (r : Vals xs us) : us = [] ↔ xs = [] := by
  cases r with
  | nil => simp
  | cons _ _ => simp
theorem op_catT : OpR X (binaryOp .Add) (rCatT X.K) := by
  intro pins s σ H x y v u Q I rx ry h
  obtain ⟨a, b, xs, ys, rfl, rfl, ha, hb, hx, hz, q1, q2⟩ := h
  cases rx
  cases ry
  obtain ⟨its, r1, p1, _⟩ := I.tuple ha
  obtain ⟨its2, r2, p2, _⟩ := I.tuple hb
  refine HT.cat_tup p1 p2 (fun z => hx (r1.nil_iff.mp z)) (fun z => ⟨.ref a, H, I, rfl, q1 (r2.nil_iff.mp z)⟩) (fun z => ?_) (by rw [← r1.length, ← r2.length]; exact hz)
  refine ⟨.ref s.heap.objs.size, _, I.laid (t' := s.toks) (o := .tup (xs ++ ys)) (fun b ob q => Heap.get?_push_of_some _ q) (Nat.le_refl _) ?_, rfl, q2 (fun w => z (r2.nil_iff.mpr w)) _ (I.hok.fresh (Nat.le_refl _))⟩
  exact ⟨by rw [List.length_append]; exact hz, _, r1.append r2, IsTup.new _ _⟩
end
end L2

namespace L2
open PySem PySem.Spec PyProof.Rows

/-! ### places -/
/-- the place that an index of any sign means -/
def ixN (n : Nat) (i : Int) : Option Nat := if 0 ≤ i then (if i < n then some i.toNat else none) else if -(n : Int) ≤ i then some (i + n).toNat else none
def atI {α : Type} (xs : List α) (i : Int) : Option α := (ixN xs.length i).bind fun j => xs[j]?
theorem ixN_seq {n : Nat} {i : Int} {j : Nat} (h : ixN n i = some j) : seqIndex? i n = some j ∧ j < n ∧ -(n : Int) ≤ i ∧ i < n := by
  unfold ixN at h
  by_cases h0 : 0 ≤ i
  · rw [if_pos h0] at h
    by_cases h1 : i < n
    · rw [if_pos h1] at h
      have e : i.toNat = j := Option.some.inj h
      exact ⟨by rw [seqIndex_of h0 h1, e], by omega, by omega, h1⟩
    · rw [if_neg h1] at h; cases h
  · rw [if_neg h0] at h
    by_cases h1 : -(n : Int) ≤ i
    · rw [if_pos h1] at h
      have e : (i + n).toNat = j := Option.some.inj h
      exact ⟨by rw [seqIndex_neg (by omega) h1, e], by omega, h1, by omega⟩
    · rw [if_neg h1] at h; cases h
theorem atI_get {α : Type} {xs : List α} {i : Int} {v : α} (h : atI xs i = some v) : ∃ j, seqIndex? i xs.length = some j ∧ xs[j]? = some v ∧ j < xs.length ∧ -(xs.length : Int) ≤ i ∧ i < xs.length := by
  unfold atI at h
  cases e : ixN xs.length i with
  | none => rw [e] at h; cases h
  | some j =>
    rw [e] at h
    obtain ⟨h1, h2, h3, h4⟩ := ixN_seq e
    exact ⟨j, h1, h, h2, h3, h4⟩
theorem atI_nat {α : Type} {xs : List α} {j : Nat} {v : α} (h : xs[j]? = some v) : atI xs (j : Int) = some v := by
  have hj : j < xs.length := (List.getElem?_eq_some_iff.mp h).1
  have e : ixN xs.length (j : Int) = some j := by
    unfold ixN
    rw [if_pos (by omega), if_pos (by omega)]; simp
  unfold atI; rw [e]; exact h
/-! ### what may be subscripted -/
/-- what stands as an index of a plain subscript -/
def PlainIx (b : Expr) : Prop := ∀ o i, subscripted b false o i = operate [o, i] (getItem o i)
/-- a subscript by values -/
def IxR (X : Cx) (r : R2) : Prop :=
  ∀ (value slice : Expr) (pins : List (Addr × Obj)) (s : Shared) (σ : St) (H : Hp) (x y : V) (v u : Value) (Q : VK), Inv X pins σ H s → RelV x v → RelV y u → r x y H Q →
    subscripted slice false v u = operate [v, u] (getItem v u) → wpAny (model X.prog X.w) X.A (subscriptTail value slice v u) (EP X pins σ Q) X.xe s
/-- a call of a builtin's method by values: the receiver, the arguments -/
def MtR (X : Cx) (id : String) (r : V → List V → Hp → VK → Prop) : Prop :=
  ∀ (pins : List (Addr × Obj)) (s : Shared) (σ : St) (H : Hp) (x : V) (xs : List V) (v : Value) (us : List Value) (Q : VK), Inv X pins σ H s → RelV x v → Vals xs us → r x xs H Q →
    wpAny (model X.prog X.w) X.A (call (.builtin id) (v :: us)) (EP X pins σ Q) X.xe s
section
variable {X : Cx} {a b : Expr} {ta tb : TE} {pos : Pos}
theorem IxR.or {r r' : R2} (h : IxR X r) (h' : IxR X r') : IxR X (fun x y H Q => r x y H Q ∨ r' x y H Q) := by
  intro value slice pins s σ H x y v u Q I rx ry q hs
  rcases q with q | q
  · exact h value slice pins s σ H x y v u Q I rx ry q hs
  · exact h' value slice pins s σ H x y v u Q I rx ry q hs
theorem MtR.or {id : String} {r r' : V → List V → Hp → VK → Prop} (h : MtR X id r) (h' : MtR X id r') : MtR X id (fun x xs H Q => r x xs H Q ∨ r' x xs H Q) := by
  intro pins s σ H x xs v us Q I rx rs q
  rcases q with q | q
  · exact h pins s σ H x xs v us Q I rx rs q
  · exact h' pins s σ H x xs v us Q I rx rs q
/-- a[b] -/
theorem pe_ix {r : R2} (hr : IxR X r) (ha : PE X a ta) (hb : PE X b tb) (hs : PlainIx b) : PE X (.Subscript a b pos) (tOp r ta tb) := by
  intro pins s σ H Q I h
  exact Subscript_ (binT ha hb I h fun v u s2 x y H2 I2 rx ry q => hr a b pins s2 σ H2 x y v u Q I2 rx ry q (hs _ _))

def rIxL (K : PySem.W.Frag) : R2 := fun x y H Q => ∃ p xs i v, x = .ref p ∧ y = .int i ∧ SqL K H p xs ∧ atI xs i = some v ∧ Q v H
def rIxT (K : PySem.W.Frag) : R2 := fun x y H Q => ∃ p xs i v, x = .ref p ∧ y = .int i ∧ SqT K H p xs ∧ atI xs i = some v ∧ Q v H
def rIxS : R2 := fun x y H Q => ∃ z i c, x = .str z ∧ y = .int i ∧ z.length ≤ sizeLine ∧ atI z.cps.toList i = some c ∧ Q (.str ⟨#[c]⟩) H
theorem ix_list : IxR X (rIxL X.K) := by
  intro value slice pins s σ H x y v u Q I rx ry h hs
  obtain ⟨p, xs, i, z, rfl, rfl, hq, he, q⟩ := h
  cases rx
  obtain ⟨t, rfl⟩ := ry
  obtain ⟨its, r, pl, hz⟩ := I.list hq
  obtain ⟨j, h1, h2, h3, h4, h5⟩ := atI_get he
  obtain ⟨w, ew, rw'⟩ := r.get h2
  have hl := r.length
  have hn := line63
  have fin : EP X pins σ Q w s := ⟨z, H, I, rw', q⟩
  by_cases h0 : 0 ≤ i
  · have hj : i.toNat = j := by
      rw [seqIndex_of h0 h5] at h1
      exact Option.some.inj h1
    exact item_listR pl.isList h0 (by omega) (by rw [hj]; simpa using ew) fin hs
  · have hj : (i + (its.toArray.size : Int)).toNat = j := by
      rw [seqIndex_neg (by omega) h4] at h1
      rw [List.size_toArray, ← hl]
      exact Option.some.inj h1
    exact subscriptTail_builtinR (x := w) pl.isList.typeIs slot_list_getitem.lookup
      (wpAny_getItem_list_neg (Q := fun r s' => r = w ∧ EP X pins σ Q r s') pl.isList (by omega) (by rw [List.size_toArray] <;> omega) (by omega) (by rw [hj]; simpa using ew) ⟨rfl, fin⟩) hs
theorem ix_tup : IxR X (rIxT X.K) := by
  intro value slice pins s σ H x y v u Q I rx ry h hs
  obtain ⟨p, xs, i, z, rfl, rfl, hq, he, q⟩ := h
  cases rx
  obtain ⟨t, rfl⟩ := ry
  obtain ⟨its, r, pl, hz⟩ := I.tuple hq
  obtain ⟨j, h1, h2, h3, h4, h5⟩ := atI_get he
  obtain ⟨w, ew, rw'⟩ := r.get h2
  have hl := r.length
  have hn := line63
  have fin : EP X pins σ Q w s := ⟨z, H, I, rw', q⟩
  exact subscriptTail_builtinR (x := w) pl.typeIs slot_tuple_getitem.lookup
    (getItem_tuple (j := j) (Q := fun r s' => r = w ∧ EP X pins σ Q r s') pl (by omega) (by omega) (by rw [List.size_toArray, ← hl]; exact h1) (by simpa using ew) ⟨rfl, fin⟩) hs
theorem ix_str : IxR X rIxS := by
  intro value slice pins s σ H x y v u Q I rx ry h hs
  obtain ⟨z, i, c, rfl, rfl, hz, he, q⟩ := h
  obtain ⟨t, rfl⟩ := rx
  obtain ⟨t', rfl⟩ := ry
  obtain ⟨j, h1, h2, h3, h4, h5⟩ := atI_get he
  have hl : z.cps.toList.length = z.length := by simp [Str.length]
  rw [hl] at h1 h4 h5
  have hn := line63
  exact tail_any (typeIs_str s z t) slot_str_getitem.lookup (getItem_str (c := c) (by
    have e1 : decide (i < -(2 ^ 63 : Int)) = false := decide_eq_false (by omega)
    have e2 : decide (i ≥ 2 ^ 63) = false := decide_eq_false (by omega)
    rw [e1, e2, Bool.or_false]) (by rw [h1]; simpa using h2) ⟨.str ⟨#[c]⟩, H, I.tok _, ⟨_, rfl⟩, q⟩) hs
/-- list, tuple or str -/
def rIx (K : PySem.W.Frag) : R2 := fun x y H Q => rIxL K x y H Q ∨ rIxT K x y H Q ∨ rIxS x y H Q
/-! ### xs[i] = v, any sign -/
/-- the list's object behind a store -/
theorem mapSeq_set (its : List Value) (n j : Nat) (u : Value) : Obj.mapSeq (·.setIfInBounds j u) { cls := .type "list", data := .seq its.toArray n } = { cls := .type "list", data := .seq (its.set j u).toArray n } := by
  simp [Obj.mapSeq]
theorem Inv.lst {pins : List (Addr × Obj)} {σ : St} {H : Hp} {s : Shared} {p : Addr} {xs : List V} (I : Inv X pins σ H s) (h : H p = some (.lst xs)) :
    ∃ (its : List Value) (n : Nat), Vals xs its ∧ s.heap.get? p = some { cls := .type "list", data := .seq its.toArray n } ∧ xs.length ≤ sizeLine := by
  obtain ⟨z, its, n, r, e⟩ := I.hok p _ h
  exact ⟨its, n, r, e, z⟩
/-- the list at p is written by an update of its object -/
theorem Inv.lstUpd {pins : List (Addr × Obj)} {σ : St} {H : Hp} {s : Shared} {p : Addr} {xs ys : List V} {its its' : List Value} {n n' : Nat} {f : Obj → Obj} (I : Inv X pins σ H s) (h : H p = some (.lst xs))
    (ho : s.heap.get? p = some { cls := .type "list", data := .seq its.toArray n }) (hf : f { cls := .type "list", data := .seq its.toArray n } = { cls := .type "list", data := .seq its'.toArray n' }) (r : Vals ys its') (hz : ys.length ≤ sizeLine) (t : Nat) :
    Inv X pins σ (upd H p (.lst ys)) { s with heap := s.heap.update p f, toks := t } := by
  have e : (s.heap.update p f).get? p = some { cls := .type "list", data := .seq its'.toArray n' } := by
    rw [Heap.get?_update_self f ho (by rw [hf] <;> rfl), hf]
  refine I.write (x := p) (e := p) (by rw [h]; trivial) (.inl rfl) (fun b u hb q => (Heap.get?_update_other _ _ (Ne.symm hb)).trans q) ⟨_, e⟩ ?_
  exact ⟨hz, its', n', r, e⟩
def rSetL : V → V → V → Hp → (Hp → Prop) → Prop := fun o i v H Q => ∃ p xs k j, o = .ref p ∧ i = .int k ∧ H p = some (.lst xs) ∧ ixN xs.length k = some j ∧ Q (upd H p (.lst (xs.set j v)))
theorem set_list : PSet X rSetL := by
  intro pins s σ H o i v ov iv u Q I ro ri rv h
  obtain ⟨p, xs, k, j, rfl, rfl, hp, hj, q⟩ := h
  cases ro
  obtain ⟨t, rfl⟩ := ri
  obtain ⟨its, n, r, ho, hz⟩ := I.lst hp
  obtain ⟨h1, h2, h3, h4⟩ := ixN_seq hj
  have hl := r.length
  have hn := line63
  have I' : Inv X pins σ (upd H p (.lst (xs.set j v))) { s with heap := s.heap.update p (Obj.mapSeq (·.setIfInBounds j u)) } :=
    I.lstUpd hp ho (mapSeq_set its n j u) (r.set rv j) (by rw [List.length_set]; exact hz) s.toks
  by_cases h0 : 0 ≤ k
  · have hk : k.toNat = j := by
      rw [seqIndex_of h0 h4] at h1
      exact Option.some.inj h1
    exact PySem.W.ki_setAt ho h0 (by omega) (by rw [List.size_toArray, ← hl]; exact h4) (by rw [hk]; exact ⟨_, I', q⟩)
  · have hk : (k + (its.toArray.size : Int)).toNat = j := by
      rw [seqIndex_neg (by omega) h3] at h1
      rw [List.size_toArray, ← hl]
      exact Option.some.inj h1
    exact PySem.W.ki_setBack ho (by omega) (by rw [List.size_toArray, ← hl]; exact h3) (by omega) (by rw [hk]; exact ⟨_, I', q⟩)

/-! ### slices -/
theorem slice_bounds (lo hi : Option Int) (n : Nat) : (sliceBounds lo hi none n).1 = ((HT.sIx n 0 lo : Nat) : Int) ∧ (sliceBounds lo hi none n).2.1 = ((HT.sIx n n hi : Nat) : Int) ∧ (sliceBounds lo hi none n).2.2 = 1 := by
  refine ⟨?_, ?_, rfl⟩
  · cases lo with
    | none => simp [sliceBounds, HT.sIx]
    | some i =>
      simp only [sliceBounds, HT.sIx, Option.getD_none, show (1 : Int) > 0 by decide, if_true]
      by_cases h : i < 0
      · simp only [h, if_true] <;> omega
      · simp only [h, if_false] <;> omega
  · cases hi with
    | none => simp [sliceBounds, HT.sIx]
    | some i =>
      simp only [sliceBounds, HT.sIx, Option.getD_none, show (1 : Int) > 0 by decide, if_true]
      by_cases h : i < 0
      · simp only [h, if_true] <;> omega
      · simp only [h, if_false] <;> omega
theorem slicePick_cut (its : List Value) (lo hi : Option Int) : slicePick its.toArray lo hi none = ((its.drop (HT.sIx its.length 0 lo)).take (HT.sIx its.length its.length hi - HT.sIx its.length 0 lo)).toArray := by
  obtain ⟨h1, h2, h3⟩ := slice_bounds lo hi its.toArray.size
  unfold slicePick
  rw [h1, h2, h3]
  simp only [sliceRange_one, pick_run, List.size_toArray] <;> rfl
/-- xs[lo:hi] of a list: a new list -/
def rSlL (K : PySem.W.Frag) : V → Option Int → Option Int → Hp → VK → Prop := fun x lo hi H Q => ∃ a xs, x = .ref a ∧ SqL K H a xs ∧ ∀ p, H p = none → Q (.ref p) (upd H p (.lst (cutV xs lo hi)))
theorem sl_list : SlR X (rSlL X.K) := by
  intro pins s σ H x v vl vu lo hi sl Q I rx hs pl pu h
  obtain ⟨a, xs, rfl, hx, q⟩ := h
  cases rx
  obtain ⟨its, r, ht, hz⟩ := I.list hx
  have hlen := r.length
  refine ⟨"list", _, slot_list_getitem.lookup, ht.isList.typeIs, ?_⟩
  refine wpAny_getItem_list_slice ht.isList hs pl pu .none (by simp) ?_ (by rw [List.size_toArray] <;> omega)
  rw [slicePick_cut, ← hlen]
  refine ⟨.ref s.heap.objs.size, _, I.laid (t' := s.toks) (o := .lst (cutV xs lo hi)) (fun b ob q => Heap.get?_push_of_some _ q) (Nat.le_refl _) ?_, rfl, q _ (I.hok.fresh (Nat.le_refl _))⟩
  exact ⟨Nat.le_trans (cutV_length xs lo hi) hz, _, 0, (r.drop (HT.sIx xs.length 0 lo)).take (HT.sIx xs.length xs.length hi - HT.sIx xs.length 0 lo), Heap.get?_push_size _ rfl⟩

/-! ### in, not in: flat items -/
def flatV : V → Bool
  | .non => true
  | .bl _ => true
  | .int _ => true
  | .str _ => true
  | _ => false
/-- == of flat values -/
def eqV : V → V → Bool
  | .non, .non => true
  | .bl a, .bl b => a == b
  | .bl a, .int b => (if a then 1 else 0) == b
  | .int a, .bl b => a == (if b then 1 else 0)
  | .int a, .int b => a == b
  | .str a, .str b => a == b
  | _, _ => false
theorem eqAt_V {A : Around} {s : Shared} {y x : V} {u v : Value} (ry : RelV y u) (rx : RelV x v) (fy : flatV y = true) (fx : flatV x = true) : SeqAt.EqAt A s u v (eqV y x) := by
  cases y with
  | non =>
    cases ry
    cases x with
    | non => cases rx; exact SeqAt.EqAt.same _
    | bl b => cases rx; exact SeqAt.EqAt.none_bool b
    | int b => obtain ⟨t, rfl⟩ := rx; exact SeqAt.EqAt.none_int b t
    | str b => obtain ⟨t, rfl⟩ := rx; exact SeqAt.EqAt.none_str b t
    | _ => exact absurd (show false = true from fx) Bool.false_ne_true
  | bl a =>
    cases ry
    cases x with
    | non => cases rx; exact SeqAt.EqAt.bool_none a
    | bl b => cases rx; exact SeqAt.EqAt.bool_bool a b
    | int b => obtain ⟨t, rfl⟩ := rx; exact SeqAt.EqAt.bool_int a b t
    | str b => obtain ⟨t, rfl⟩ := rx; exact SeqAt.EqAt.bool_str a b t
    | _ => exact absurd (show false = true from fx) Bool.false_ne_true
  | int a =>
    obtain ⟨t', rfl⟩ := ry
    cases x with
    | non => cases rx; exact SeqAt.EqAt.int_none a t'
    | bl b => cases rx; exact SeqAt.EqAt.int_bool a t' b
    | int b => obtain ⟨t, rfl⟩ := rx; exact SeqAt.EqAt.int_int a t' b t
    | str b => obtain ⟨t, rfl⟩ := rx; exact SeqAt.EqAt.int_str a t' b t
    | _ => exact absurd (show false = true from fx) Bool.false_ne_true
  | str a =>
    obtain ⟨t', rfl⟩ := ry
    cases x with
    | non => cases rx; exact SeqAt.EqAt.str_none a t'
    | bl b => cases rx; exact SeqAt.EqAt.str_bool a t' b
    | int b => obtain ⟨t, rfl⟩ := rx; exact SeqAt.EqAt.str_int a t' b t
    | str b => obtain ⟨t, rfl⟩ := rx; exact SeqAt.EqAt.str_str a t' b t
    | _ => exact absurd (show false = true from fx) Bool.false_ne_true
  | _ => exact absurd (show false = true from fy) Bool.false_ne_true
/-- the items' answers, read off the values (a value's own answer does not lean on its token) -/
def eqU (x : V) (u : Value) : Bool := match u with
  | .none => eqV .non x
  | .bool b => eqV (.bl b) x
  | .int i _ => eqV (.int i) x
  | .str z _ => eqV (.str z) x
  | _ => false
theorem eqU_of {x y : V} {u : Value} (r : RelV y u) (f : flatV y = true) : eqU x u = eqV y x := by
  cases y with
  | non => cases r; rfl
  | bl b => cases r; rfl
  | int i => obtain ⟨t, rfl⟩ := r; rfl
  | str z => obtain ⟨t, rfl⟩ := r; rfl
  | _ => exact absurd (show false = true from f) Bool.false_ne_true
theorem any_eqU {x : V} : ∀ {xs : List V} {us : List Value}, Vals xs us → xs.all flatV = true → us.any (eqU x) = xs.any fun y => eqV y x
  | _, _, .nil, _ => rfl
  | y :: xs, u :: us, .cons r t, f => by
    rw [List.all_cons, Bool.and_eq_true] at f
    rw [List.any_cons, List.any_cons, eqU_of r f.1, any_eqU t f.2]
theorem mem_eqAt {A : Around} {s : Shared} {x : V} {v : Value} (rx : RelV x v) (fx : flatV x = true) : ∀ {xs : List V} {us : List Value}, Vals xs us → xs.all flatV = true → ∀ u ∈ us, SeqAt.EqAt A s u v (eqU x u)
  | _, _, .nil, _ => fun u hu => by cases hu
  | y :: xs, u :: us, .cons r t, f => fun u' hu => by
    rw [List.all_cons, Bool.and_eq_true] at f
    rcases List.mem_cons.mp hu with rfl | hu
    · rw [eqU_of r f.1]; exact eqAt_V r rx f.1 fx
    · exact mem_eqAt rx fx t f.2 u' hu
def inV (x : V) (xs : List V) : Bool := xs.any fun y => eqV y x
/-- x in a list or tuple of flat items -/
def rIn (K : PySem.W.Frag) (neg : Bool) : R2 := fun x y H Q => ∃ p xs, y = .ref p ∧ (SqL K H p xs ∨ SqT K H p xs) ∧ flatV x = true ∧ xs.all flatV = true ∧ Q (.bl (if neg then !inV x xs else inV x xs)) H
theorem op_in_seq : OpR X (compareOp .In) (rIn X.K false) := by
  intro pins s σ H x y v u Q I rx ry h
  obtain ⟨p, xs, rfl, hq, fx, fs, q⟩ := h
  cases ry
  rcases hq with hq | hq
  · obtain ⟨its, r, pl, hz⟩ := I.list hq
    refine SeqAt.in_listAt (eqU x) pl.isList (fun w hw => mem_eqAt rx fx r fs w (by simpa using hw)) ⟨.bl _, H, I, rfl, ?_⟩
    rw [show its.toArray.any (eqU x) = its.any (eqU x) by simp, any_eqU r fs]
    exact q
  · obtain ⟨its, r, pl, hz⟩ := I.tuple hq
    refine SeqAt.in_tupleAt (eqU x) pl (fun w hw => mem_eqAt rx fx r fs w (by simpa using hw)) ⟨.bl _, H, I, rfl, ?_⟩
    rw [show its.toArray.any (eqU x) = its.any (eqU x) by simp, any_eqU r fs]
    exact q
/-! ### len, list(x), tuple(x) of any list or tuple that is read -/
theorem call_len_seq : CallR X (.builtin "len") (fun xs H Q => ∃ p ys, xs = [.ref p] ∧ (SqL X.K H p ys ∨ SqT X.K H p ys) ∧ Q (.int ys.length) H) := by
  intro pins s σ H xs us Q I r h
  obtain ⟨p, ys, rfl, hq, q⟩ := h
  obtain ⟨u, rfl, rx⟩ := vals1 r
  cases rx
  have hn := line63
  rcases hq with hq | hq
  · obtain ⟨its, r', pl, hz⟩ := I.list hq
    have hlen := r'.length
    exact Calls.call_len_list pl.isList (by simp only [List.size_toArray] <;> omega) ⟨.int ys.length, H, I.tok _, ⟨s.toks + 1, by rw [List.size_toArray, hlen]⟩, q⟩
  · obtain ⟨its, r', pl, hz⟩ := I.tuple hq
    have hlen := r'.length
    exact len_tuple pl (by simp only [List.size_toArray] <;> omega) ⟨.int ys.length, H, I.tok _, ⟨s.toks + 1, by rw [List.size_toArray, hlen]⟩, q⟩
theorem CallR.or {f : Value} {r r' : List V → Hp → VK → Prop} (h : CallR X f r) (h' : CallR X f r') : CallR X f (fun xs H Q => r xs H Q ∨ r' xs H Q) := by
  intro pins s σ H xs us Q I rs q
  rcases q with q | q
  · exact h pins s σ H xs us Q I rs q
  · exact h' pins s σ H xs us Q I rs q
theorem call_list_of : CallR X (.type "list") (fun xs H Q => ∃ p ys, xs = [.ref p] ∧ (SqL X.K H p ys ∨ SqT X.K H p ys) ∧ ∀ l, H l = none → Q (.ref l) (upd H l (.lst ys))) := by
  intro pins s σ H xs us Q I r h
  obtain ⟨p, ys, rfl, hq, q⟩ := h
  obtain ⟨u, rfl, rx⟩ := vals1 r
  cases rx
  have fin : ∀ (its : List Value), Vals ys its → ys.length ≤ sizeLine → ∀ (h' : Heap) (c' : Nat), (∀ b o', s.heap.get? b = some o' → h'.get? b = some o') →
      h'.get? s.heap.objs.size = some { cls := .type "list", dict := none, data := .seq its.toArray c', slots := #[] } → EP X pins σ Q (.ref s.heap.objs.size) { s with heap := h' } := fun its r' hz h' c' kp e =>
    ⟨.ref s.heap.objs.size, _, I.laid (t' := s.toks) kp (Nat.le_refl _) (show ObjOk X.prog X.w _ h' _ (.lst ys) from ⟨hz, its, c', r', e⟩), rfl, q _ (I.hok.fresh (Nat.le_refl _))⟩
  rcases hq with hq | hq
  · obtain ⟨its, r', pl, hz⟩ := I.list hq
    have hlen := r'.length
    obtain ⟨o, ho, hc, n, hd⟩ := pl.isList
    exact call_list_seq p (.inl rfl) ho hc hd (fun h' c' kp e => fin its r' hz h' c' kp e) (by simp only [List.size_toArray] <;> omega)
  · obtain ⟨its, r', pl, hz⟩ := I.tuple hq
    have hlen := r'.length
    obtain ⟨o, ho, hc, n, hd⟩ := pl
    exact call_list_seq p (.inr rfl) ho hc hd (fun h' c' kp e => fin its r' hz h' c' kp e) (by simp only [List.size_toArray] <;> omega)
/-! ### the call of a builtin's method: o.m(..) -/
/-- the value is of that builtin type -/
def tyV (K : PySem.W.Frag) (T : String) (x : V) (H : Hp) : Prop := match x with
  | .str _ => T = "str"
  | .int _ => T = "int"
  | .ref p => (T = "list" ∧ ∃ xs, SqL K H p xs) ∨ (T = "tuple" ∧ ∃ o, K.lookup p = some o ∧ o.cls = .type "tuple" ∧ o.dict = none) ∨
      (T = "dict" ∧ ((∃ kvs, H p = some (.dK kvs)) ∨ ∃ kvs, H p = some (.dT kvs))) ∨ (T = "set" ∧ ∃ S n, H p = some (.set S n))
  | _ => False
theorem tyV_is {pins : List (Addr × Obj)} {σ : St} {H : Hp} {s : Shared} {T : String} {x : V} {v : Value} (I : Inv X pins σ H s) (r : RelV x v) (ty : tyV X.K T x H) :
    s.TypeIs v T ∧ ∀ a, v = .ref a → ∃ ob, s.heap.get? a = some ob ∧ ob.dict = none := by
  cases x with
  | str z =>
    obtain ⟨t, rfl⟩ := r
    cases (show T = "str" from ty)
    exact ⟨typeIs_str s z t, fun _ e => nomatch e⟩
  | int i =>
    obtain ⟨t, rfl⟩ := r
    cases (show T = "int" from ty)
    exact ⟨typeIs_int s i t, fun _ e => nomatch e⟩
  | ref p =>
    cases r
    rcases ty with ⟨rfl, xs, hq⟩ | ⟨rfl, o, hk, hc, hd⟩ | ⟨rfl, hk⟩ | ⟨rfl, S, n, hk⟩
    · obtain ⟨its, _, pl, _⟩ := I.list hq
      refine ⟨pl.isList.typeIs, fun a e => ?_⟩
      cases e
      obtain ⟨o, n, e, c, hd, _⟩ := pl
      exact ⟨o, e, hd⟩
    · refine ⟨⟨o, I.kIn p o hk, hc⟩, fun a e => ?_⟩
      cases e
      exact ⟨o, I.kIn _ o hk, hd⟩
    · have z : ∃ o, s.heap.get? p = some o ∧ o.ExactDict := by
        rcases hk with ⟨kvs, hk⟩ | ⟨kvs, hk⟩
        · obtain ⟨_, _, _, _, o, _, _, e, ex, _⟩ := I.hok p _ hk
          exact ⟨o, e, ex⟩
        · obtain ⟨_, _, _, _, o, _, _, e, ex, _⟩ := I.hok p _ hk
          exact ⟨o, e, ex⟩
      obtain ⟨o, e, ex⟩ := z
      refine ⟨⟨o, e, ex.1⟩, fun a e2 => ?_⟩
      cases e2
      exact ⟨o, e, ex.2.1⟩
    · obtain ⟨o, _, _, _, e, ex, _⟩ := I.hok p _ hk
      refine ⟨⟨o, e, ex.1⟩, fun a e2 => ?_⟩
      cases e2
      exact ⟨o, e, ex.2.1⟩
  | _ => exact False.elim ty
def tBM0 (K : PySem.W.Frag) (T : String) (r : V → List V → Hp → VK → Prop) (to : TE) : TE := fun σ H Q => to σ H fun x H1 => tyV K T x H1 ∧ r x [] H1 Q
def tBM (K : PySem.W.Frag) (T : String) (r : V → List V → Hp → VK → Prop) (to : TE) (t : TA) : TE := fun σ H Q => to σ H fun x H1 => tyV K T x H1 ∧ t σ H1 fun xs H2 => r x xs H2 Q
variable {o e : Expr} {es : List Expr} {to : TE} {t : TA} {name : Str} {apos cpos : Pos} {T id : String} {r : V → List V → Hp → VK → Prop}
theorem pe_bm (pa : PlainAttrs T) (slot : Slot T name id) (hty : typeOf (.builtin id) = pure (.type "method_descriptor")) (hm : MtR X id r) (ho : PE X o to) (ha : PA X (e :: es) t)
    (hbase : attributeBase o name X.env (eval o X.env) = eval o X.env := by rfl)
    (hfew : ((backTo cpos (starEach (e :: es) X.env)).all (fun x => !x.1) && (backToKw cpos (keywordEach [] X.env)).all (fun x => x.1.isSome)
      && decide ((e :: es).length + ([] : List Keyword).length + (if ([] : List Keyword).isEmpty then 0 else 1) < 30)) = true := by rfl)
    (hline : (apos.endLine == cpos.line) = true := by rfl) (hs : starEach (e :: es) X.env = (false, eval e X.env) :: starEach es X.env := by rfl) (hplain : (backTo cpos (starEach es X.env)).any (·.1) = false := by rfl) :
    PE X (.Call (.Attribute o name apos) (e :: es) [] cpos) (tBM X.K T r to t) := by
  intro pins s σ H Q I h
  refine wpAny_Call_method_late hbase hfew hline rfl (thn (ho pins s σ H _ I h) fun v s1 ⟨x, H1, I1, r1, ty, q1⟩ => ?_)
  obtain ⟨h1, h2⟩ := tyV_is I1 r1 ty
  refine ⟨T, id, pa, slot, hty, h1, h2, ?_⟩
  have hA := ha cpos pins s1 σ H1 _ I1 q1
  rw [hs] at hA ⊢
  refine Calls.callWith_builtin (by show (false || (backTo cpos (starEach es X.env)).any (·.1)) = false; rw [hplain] <;> rfl) (Calls.evalArgs_plain ?_)
  exact thn hA fun us s2 ⟨vs, H2, I2, r2, q2⟩ => hm pins s2 σ H2 x vs v us Q I2 r1 r2 q2
/- xs.append(e), list.index on a module's tuple .. are MtR facts of 06m -/
end
end L2

namespace L2
open PySem PySem.Spec PyProof.Rows

def MtM (X : Cx) (id : String) (r : V → List V → Hp → VK → Prop) : Prop :=
  ∀ (pins : List (Addr × Obj)) (s : Shared) (σ : St) (H : Hp) (x : V) (xs : List V) (v : Value) (us : List Value) (Q : VK), Inv X pins σ H s → RelV x v → Vals xs us → r x xs H Q →
    wpAny (model X.prog X.w) X.A (call (.builtin id) (v :: us)) (EP X pins σ Q) X.xe s

/-! ### lists of values -/
theorem Vals.one : ∀ {x : V} {us : List Value}, Vals [x] us → ∃ u, us = [u] ∧ RelV x u
  | _, _, .cons r .nil => ⟨_, rfl, r⟩
theorem Vals.two : ∀ {x y : V} {us : List Value}, Vals [x, y] us → ∃ u v, us = [u, v] ∧ RelV x u ∧ RelV y v
  | _, _, _, .cons r (.cons q .nil) => ⟨_, _, rfl, r, q⟩
theorem Vals.zero : ∀ {us : List Value}, Vals [] us → us = []
  | _, .nil => rfl
theorem Vals.dropLast {xs : List V} {us : List Value} (h : Vals xs us) : Vals xs.dropLast us.dropLast := by
  induction h with
  | nil => exact .nil
  | cons r t ih =>
    cases t with
    | nil => exact .nil
    | cons q t' => exact .cons r ih
theorem Vals.eraseIdx : ∀ {xs : List V} {us : List Value} (i : Nat), Vals xs us → Vals (xs.eraseIdx i) (us.eraseIdx i)
  | _, _, _, .nil => .nil
  | _, _, 0, .cons _ t => t
  | _, _, i + 1, .cons r t => .cons r (Vals.eraseIdx i t)
theorem Vals.reverse {xs : List V} {us : List Value} (h : Vals xs us) : Vals xs.reverse us.reverse := by
  induction h with
  | nil => exact .nil
  | cons r t ih => rw [List.reverse_cons, List.reverse_cons]; exact Vals.append ih (.cons r .nil)
theorem len_erase {α : Type} : ∀ (l : List α) (i : Nat), (l.eraseIdx i).length ≤ l.length
  | [], _ => Nat.le_refl _
  | _ :: _, 0 => Nat.le_succ _
  | _ :: r, i + 1 => Nat.succ_le_succ (len_erase r i)
section
variable {X : Cx} {pins : List (Addr × Obj)} {σ : St} {H : Hp} {s : Shared} {l b : Addr} {xs ys zs : List V}

/-! ### the two steps: a tracked list is rewritten, a new list is laid -/
theorem Inv.lset {its its' : List Value} {n : Nat} {f : Array Value → Array Value} {t' : Nat} (I : Inv X pins σ H s) (hH : H l = some (.lst xs))
    (e : s.heap.get? l = some { cls := .type "list", data := .seq its.toArray n }) (hf : f its.toArray = its'.toArray) (hv : Vals ys its') (hz : ys.length ≤ sizeLine) :
    Inv X pins σ (upd H l (.lst ys)) { s with heap := s.heap.update l (Obj.mapSeq f), toks := t' } := by
  have q := PySem.IsL.update e f
  rw [hf] at q
  refine I.write (x := l) (e := l) (by rw [hH]; exact trivial) (.inl rfl) (fun b' u hb hu => (Heap.get?_update_other s.heap (Obj.mapSeq f) (Ne.symm hb)).trans hu) ⟨_, q⟩ ?_
  exact ⟨hz, its', _, hv, q⟩
theorem Inv.lnew {its : List Value} {t' : Nat} (I : Inv X pins σ H s) (hv : Vals ys its) (hz : ys.length ≤ sizeLine) :
    Inv X pins σ (upd H s.heap.objs.size (.lst ys)) { s with heap := s.heap.push { cls := .type "list", data := .seq its.toArray }, toks := t' } :=
  I.laid (fun _ _ q => Heap.get?_push_of_some _ q) (Nat.le_refl _) ⟨hz, its, 0, hv, Heap.get?_push_size _ rfl⟩
theorem Inv.fresh (I : Inv X pins σ H s) : H s.heap.objs.size = none := I.hok.fresh (Nat.le_refl _)
theorem Inv.lstM (I : Inv X pins σ H s) (hH : H l = some (.lst xs)) : xs.length ≤ sizeLine ∧ ∃ (its : List Value) (n : Nat), Vals xs its ∧ xs.length = its.length ∧ s.heap.get? l = some { cls := .type "list", data := .seq its.toArray n } := by
  obtain ⟨z, its, n, r, e⟩ := I.hok l _ hH
  exact ⟨z, its, n, r, r.length, e⟩

theorem notLongL {n : Nat} (h : n ≤ sizeLine) : Builtin.List.listTooLong n = false := by
  unfold Builtin.List.listTooLong
  exact decide_eq_false (by omega)
end

section
variable {X : Cx}

/-! ### methods -/
def rAppend : V → List V → Hp → VK → Prop := fun x vs H Q => ∃ l xs y, x = .ref l ∧ vs = [y] ∧ H l = some (.lst xs) ∧ xs.length < sizeLine ∧ Q .non (upd H l (.lst (xs ++ [y])))
theorem mt_append : MtM X "list.append" rAppend := by
  intro pins s σ H x vs v us Q I rx rv h
  obtain ⟨l, xs, y, rfl, rfl, hH, hz, q⟩ := h
  cases rx
  obtain ⟨u, rfl, ru⟩ := rv.one
  obtain ⟨z, its, n, r, hl, e⟩ := I.lstM hH
  refine call_meets F.slot_list_append ⟨_, e, rfl⟩ F.entry_list_append (F.args_list_append_2 _ _) (PySem.list_append l its.toArray n u (by rw [List.size_toArray]; omega)) ⟨e, ?_⟩
  refine ⟨.non, _, I.lset (its' := its ++ [u]) hH e (by simp) (r.append (.cons ru .nil)) ?_, rfl, q⟩
  rw [List.length_append, List.length_singleton]
  omega

def rExtend : V → List V → Hp → VK → Prop := fun x vs H Q => ∃ l b xs zs, x = .ref l ∧ vs = [.ref b] ∧ H l = some (.lst xs) ∧ H b = some (.lst zs) ∧ xs.length + zs.length ≤ sizeLine ∧ Q .non (upd H l (.lst (xs ++ zs)))
theorem mt_extend : MtM X "list.extend" rExtend := by
  intro pins s σ H x vs v us Q I rx rv h
  obtain ⟨l, b, xs, zs, rfl, rfl, hH, hB, hz, q⟩ := h
  cases rx
  obtain ⟨u, rfl, ru⟩ := rv.one
  cases ru
  obtain ⟨z, its, n, r, hl, e⟩ := I.lstM hH
  obtain ⟨z2, its2, n2, r2, hl2, e2⟩ := I.lstM hB
  have hsz : its.toArray.size + its2.toArray.size ≤ sizeLine := by rw [List.size_toArray, List.size_toArray]; omega
  have hlong : ¬ (!its.toArray.isEmpty && Builtin.List.listTooLong (its.toArray.size + its2.toArray.size)) = true := by
    rw [notLongL hsz, Bool.and_false]
    exact Bool.false_ne_true
  refine call_meets F.slot_list_extend ⟨_, e, rfl⟩ F.entry_list_extend (F.args_list_extend_2 _ _)
    (AutoSeq1.list_extend_list_list_0 l its.toArray n b its2.toArray n2 hlong (by rw [List.size_toArray]; omega) (by omega)) ⟨e, e2, ?_⟩
  refine ⟨.non, _, I.lset (its' := its ++ its2) hH e (by simp) (r.append r2) ?_, rfl, q⟩
  rw [List.length_append]
  omega

def rPop : V → List V → Hp → VK → Prop := fun x vs H Q => ∃ l xs y, x = .ref l ∧ vs = [] ∧ H l = some (.lst xs) ∧ xs[xs.length - 1]? = some y ∧ Q y (upd H l (.lst xs.dropLast))
def rPopAt : V → List V → Hp → VK → Prop := fun x vs H Q => ∃ l xs i k y, x = .ref l ∧ vs = [.int i] ∧ H l = some (.lst xs) ∧ -(2 ^ 63) ≤ i ∧ i < 2 ^ 63 ∧ seqIndex? i xs.length = some k ∧ xs[k]? = some y ∧ Q y (upd H l (.lst (xs.eraseIdx k)))
theorem mt_popAt : MtM X "list.pop" rPopAt := by
  intro pins s σ H x vs v us Q I rx rv h
  obtain ⟨l, xs, i, k, y, rfl, rfl, hH, h1, h2, hk, hy, q⟩ := h
  cases rx
  obtain ⟨u, rfl, ru⟩ := rv.one
  obtain ⟨t, rfl⟩ := ru
  obtain ⟨z, its, n, r, hl, e⟩ := I.lstM hH
  obtain ⟨w, hw, rw'⟩ := r.get hy
  refine call_meets F.slot_list_pop ⟨_, e, rfl⟩ F.entry_list_pop (F.args_list_pop_2 _ _)
    (MeetsSeq.list_pop_at l its.toArray n i t k w (fitsIndex_both h1 h2) (by rw [List.size_toArray, ← hl]; exact hk) (by rw [← Array.getElem?_toList]; exact hw) (by rw [List.size_toArray]; omega)) ⟨e, ?_⟩
  refine ⟨y, _, I.lset (its' := its.eraseIdx k) hH e ?_ (r.eraseIdx k) ?_, rw', q⟩
  · show its.toArray.eraseIdxIfInBounds k = (its.eraseIdx k).toArray
    rw [List.eraseIdxIfInBounds_toArray]
  · have := len_erase xs k
    omega

def rReverse : V → List V → Hp → VK → Prop := fun x vs H Q => ∃ l xs, x = .ref l ∧ vs = [] ∧ H l = some (.lst xs) ∧ Q .non (upd H l (.lst xs.reverse))
def rClear : V → List V → Hp → VK → Prop := fun x vs H Q => ∃ l xs, x = .ref l ∧ vs = [] ∧ H l = some (.lst xs) ∧ Q .non (upd H l (.lst []))
/-! ### list + list, list += list, list * int -/
def rCat : R2 := fun x y H Q => ∃ l b xs zs, x = .ref l ∧ y = .ref b ∧ H l = some (.lst xs) ∧ H b = some (.lst zs) ∧ xs.length + zs.length ≤ sizeLine ∧ ∀ p, H p = none → Q (.ref p) (upd H p (.lst (xs ++ zs)))
theorem op_cat : OpR X (binaryOp .Add) rCat := by
  intro pins s σ H x y v u Q I rx ry h
  obtain ⟨l, b, xs, zs, rfl, rfl, hH, hB, hz, q⟩ := h
  cases rx
  cases ry
  obtain ⟨z, its, n, r, hl, e⟩ := I.lstM hH
  obtain ⟨z2, its2, n2, r2, hl2, e2⟩ := I.lstM hB
  refine PySem.P.add_list e e2 ?_ (by rw [List.size_toArray, List.size_toArray]; omega)
  have ea : its.toArray ++ its2.toArray = (its ++ its2).toArray := by simp
  rw [ea]
  exact ⟨.ref _, _, I.lnew (t' := s.toks) (r.append r2) (by rw [List.length_append]; omega), rfl, q _ I.fresh⟩
/-- a list times an int (a negative one is nothing) -/
def rRep : R2 := fun x y H Q => ∃ l k xs, x = .ref l ∧ y = .int k ∧ H l = some (.lst xs) ∧ -(2 ^ 63) ≤ k ∧ k < 2 ^ 63 ∧ xs.length * k.toNat ≤ sizeLine ∧
  ∀ p, H p = none → Q (.ref p) (upd H p (.lst (List.replicate k.toNat xs).flatten))
/-! ### del xs[i] -/
end

/-! ### xs[a:b] = ys -/
section
variable {prog : Program} {w : World} {A : Around} {E : Value → Shared → Prop} {s : Shared}
set_option maxRecDepth 100000 in
end

section
variable {X : Cx}
end
end L2

namespace Att
open PySem PySem.W PySem.Calls PyProof.Rows

/-! ### the script -/
theorem ints_of_wellAll {P : Params} {h : Heap} : ∀ (ns : List Int) (vs : List Value), WellAll P h vs (ns.map WData.int) → IntsAre vs ns := by
  intro ns
  induction ns with
  | nil =>
    intro vs w
    rw [List.map_nil] at w
    cases w
    exact .nil
  | cons n ns ih =>
    intro vs w
    rw [List.map_cons] at w
    cases w with
    | cons a b =>
      cases a
      exact .cons _ _ (ih _ b)

theorem script_of {l : OpenLaw} {n : Nat} (hn : l.most = some n) {P : Params} {h : Heap} {args : List WData} {vals : List Value}
    (hpre : l.row.toRowW.claim.pre args = true) (hwl : WellAll P h vals args) :
    ∃ a vs ns, vals = [Value.ref a] ∧ args = [WData.list (ns.map WData.int)] ∧ h.get? a = some { cls := .type "list", data := .seq vs.toArray } ∧ IntsAre vs ns ∧ ns.length ≤ n := by
  have hsh : WShape.hasAll [] args [.list .int] = true := (pre_splitW hpre).1
  have hc : l.pre.holds [] { args := args } = true := (pre_splitW hpre).2
  obtain ⟨d, r, rfl, h1, h2⟩ := hasAllW_cons hsh
  obtain rfl := hasAllW_nil h2
  obtain ⟨xs, rfl, h3⟩ := hasW_list h1
  obtain ⟨ns, rfl⟩ := items_int h3
  have hlen : ns.length ≤ n := by
    unfold OpenLaw.pre at hc
    have h4 : (WTm.not (.lt (.lit (.int (n : Int))) (.len (.arg 0)))).holds [] { args := [.list (ns.map .int)] } = true := by
      have h4 := (holds_andW hc).1
      rw [hn] at h4
      exact h4
    have h5 := condW_of h4 (w_not (w_lt w_lit (w_len_list (w_arg rfl))))
    rw [List.length_map] at h5
    refine Nat.le_of_not_lt fun q => ?_
    have q' : (n : Int) < ((ns.length : Nat) : Int) := by omega
    first
      | (rw [decide_eq_true q'] at h5; exact absurd h5 (by decide))
      | (simp at h5; omega)
  cases hwl with
  | cons w1 w2 =>
    cases w2
    cases w1 with
    | list ho hall => exact ⟨_, _, ns, rfl, rfl, ho, ints_of_wellAll ns _ hall, hlen⟩

theorem post_true (l : OpenLaw) (args : List WData) : l.row.toRowW.claim.post args (.bool true) args = true :=
  postW_of (r := l.row.toRowW) (X := (true == true))
    (show WShape.has [] (.bool true) .bool = true by first | rfl | decide | simp [WShape.has, WShape.arms, WShape.armsAll])
    (show (WTm.eq .res (.lit (.bool true))).value [] { args := args, res := some (.bool true), after := args } = some (.bool (true == true)) from w_eq_bool (w_res rfl) w_lit) rfl

/-! ### the attachment: holds_open's last premise (the goal 'hc' behind k_head) from a wpAny of the law's body -/
/-- the same from a codeAny of the CALL (for a layer whose function contracts speak of calls) -/
theorem attach_call {l : OpenLaw} {n : Nat} {q : Program} {loose : List Str} {XP : (Str → Option Value) → Heap → Prop} {YP : World → Heap → Prop} {d : DefRec}
    (hn : l.most = some n) (hdf : d.params.defaults = [])
    (call : ∀ (w : World) (s₀ s₁ : Shared) (mg mb : Str → Option Value) (fa : Addr) (o : Obj) (pm cd doc : Value) (a : Addr) (vs : List Value) (ns : List Int),
      Ground q loose [] XP w s₀ mg mb s₁.heap → YP w s₁.heap →
      s₁.heap.get? fa = some o → o.data = .func (docDef d.name d.params d.body d.scope pm cd doc) → s₁.heap.CodeRec cd d.name → mg d.name = some (.ref fa) →
      s₁.heap.get? a = some { cls := .type "list", data := .seq vs.toArray } → IntsAre vs ns → ns.length ≤ n → s₁.gens = #[] →
      codeAny (model l.prog w) callerA (.call (.ref fa) ⟨[.ref a], []⟩) (fun r s' => r = .ok (.ret (.bool true)) ∧ OldK s₁.heap s'.heap ∧ s'.os = s₁.os ∧ AllBare s'.gens) s₁) :
    WalkO q loose XP YP l.row.toRowW d [] (fun f vs => PySem.call f vs) := by
  intro w s₀ s₁ mg mb G Y fa o pm cd doc dV kV ho hd hcd hD hmg hg args vals as hpre hlay hrd hwl hlo
  obtain rfl : dV = .none := Dflts.none hD hdf
  obtain rfl : kV = .none := Dflts.noKw hD
  obtain ⟨a, vs, ns, rfl, rfl, hobj, hints, hlen⟩ := script_of hn hpre hwl
  refine enter_call (codeAny_mono (call w s₀ s₁ mg mb fa o pm cd doc a vs ns G Y ho (fd_plain hd) hcd hmg hobj hints hlen hg) fun r s' hq => ?_)
  obtain ⟨rfl, h2, h3, h4⟩ := hq
  exact ⟨.inl ⟨.bool true, .bool true, [], rfl, fun _ => rfl, .bool true, post_true l _, fun _ => ⟨List.Pairwise.nil, fun _ hm => (nomatch hm)⟩⟩, h2, h3, h4⟩

/-! ### rules over ANY heap (no ledger) from facts about the written part K: the library's own take a ledger (News) for what they write -/
section
variable {prog : Program} {w : World} {A : Around} {E : Value → Shared → Prop} {s : Shared} {K : Frag}

/-! the whole heap as the ledger: makes every rule that writes through a ledger a rule over any heap -/
def noObjs (h : Heap) : Heap := { h with objs := #[] }
def ledger (h : Heap) (L d : Addr) : List (Addr × Obj) := (List.range h.objs.size).filterMap fun a => if a = L ∨ a = d then none else (h.get? a).map fun o => (a, o)
end
end Att

namespace L2
open PySem PySem.Spec PyProof.Rows

theorem vals_ints : ∀ {vs : List Value} {ns : List Int}, IntsAre vs ns → Vals (ns.map V.int) vs
  | _, _, .nil => .nil
  | _, _, .cons n t h => .cons ⟨t, rfl⟩ (vals_ints h)

/-- nothing is tracked but the script, known to the object (or it is an object of the module) -/
def Only (H : Hp) : Prop := ∀ b, H b = none ∨ ∃ o xs, H b = some (.frz o (.lst xs))

/-- THE HEAD: the law's promise, at the heap behind the top. F, the promise of the law's def, may use that base is part of the heap (so K.In base, base.Ns mainGlobals mg stand in Mod) -/
theorem law_call {P : Program} {w : World} {K : PySem.W.Frag} {mg mb : Str → Option Value} {CX : CXT} {k : Nat} {fa a : Addr} {fd : FuncData} {x : Str} {sp : Sp} {s₁ : Shared} {vs : List Value} {ns : List Int}
    (KX : K.In s₁.heap) (hns : s₁.heap.Ns mainGlobals mg) (hb : s₁.heap.Ns builtinsNs mb) (hbb : ∀ x : Str, x ≠ "__name__" → mb x = bootBuiltins x) (hlim : s₁.heap.NoLimit) (hg : s₁.gens = #[])
    (ha : s₁.heap.get? a = some { cls := .type "list", data := .seq vs.toArray }) (hi : IntsAre vs ns) (hl : ns.length ≤ sizeLine) (hr : Room k callerA)
    (F : ∀ base : Heap, K.In base → base.Ns mainGlobals mg → FnOk P w K mg base CX k fa fd [x] sp) (hbind : ∀ (s : Shared) (u : Value), BindsTo s fd ⟨[u], []⟩ [(x, u)])
    (hsp : ∀ H : Hp, Only H → SqL K H a (ns.map V.int) → sp [.ref a] H (fun v _ => v = .bl true) fun _ _ _ => False)
    (hCX : ∀ H e s', CX [] H s₁ (fun _ _ _ => False) e s' → False) :
    codeAny (model P w) callerA (.call (.ref fa) ⟨[.ref a], []⟩) (fun r s' => r = .ok (.ret (.bool true)) ∧ OldK s₁.heap s'.heap ∧ s'.os = s₁.os ∧ AllBare s'.gens) s₁ := by
  have rv := vals_ints hi
  have lenV := hi.length
  -- from an abstract heap in which nothing but the script may be tracked
  have core : ∀ H : Hp, Only H → SqL K H a (ns.map V.int) → HOk P w H s₁.heap → (∀ b, H b ≠ none → b = a) → (H a ≠ none → K.lookup a = none) →
      codeAny (model P w) callerA (.call (.ref fa) ⟨[.ref a], []⟩) (fun r s' => r = .ok (.ret (.bool true)) ∧ OldK s₁.heap s'.heap ∧ s'.os = s₁.os ∧ AllBare s'.gens) s₁ := by
    intro H hO hS hok hA hK
    have base_of : ∀ {b : Addr} {o : Obj}, s₁.heap.get? b = some o → H b = none → (hidT s₁.heap H).get? b = some o := fun e n => hidT_get e n
    have noA : ∀ {b : Addr} {o : Obj} {es : Array DictEntry} {ep : Nat}, s₁.heap.get? b = some o → o.data = .dict es ep → H b = none := fun {b o es ep} e d => by
      cases q : H b with
      | none => rfl
      | some u =>
        have e' : b = a := hA b (by rw [q]; simp)
        subst e'
        rw [ha] at e; cases e
        have d' : Data.seq vs.toArray _ = Data.dict es ep := d
        cases d'
    have nsK : ∀ {b : Addr} {m : Str → Option Value}, s₁.heap.Ns b m → (hidT s₁.heap H).Ns b m := fun {b m} ⟨o, es, ep, e, d, r⟩ => ⟨o, es, ep, base_of e (noA e d), d, r⟩
    have hKb : K.In (hidT s₁.heap H) := fun b o e => base_of (KX b o e) (by
      cases q : H b with
      | none => rfl
      | some u =>
        have e' : b = a := hA b (by rw [q]; simp)
        subst e'
        rw [hK (by rw [q]; simp)] at e; cases e)
    have hM : Mod K mg (hidT s₁.heap H) := ⟨hKb, nsK hns, ⟨mb, nsK hb, hbb⟩, let ⟨mc, h1, h2⟩ := hlim; ⟨mc, nsK h1, h2⟩⟩
    have e0 : Env0 P w K mg (hidT s₁.heap H) callerA [] s₁ H := ⟨rfl, hM, fun b o e => of_hidT e, Nat.le_of_eq (hidT_size _ _), trivial, fun b hb => absurd (show b ∈ ([] : List Addr) from hb) (by simp), hok, .of_eq hg⟩
    refine codeAny_mono ((F _ hKb (nsK hns)).run callerA [] s₁ H ⟨[.ref a], []⟩ [.ref a] [.ref a] _ _ hr e0 (hbind s₁ (.ref a)) (.cons rfl .nil) (hsp H hO hS)) fun r s' h => ?_
    cases r with
    | error e => exact (hCX H e s' h).elim
    | ok fl =>
      cases fl with
      | next => exact False.elim h
      | brk => exact False.elim h
      | cont => exact False.elim h
      | ret u =>
        obtain ⟨v, H', os, bare, un, hok', r', q⟩ := h
        have q' : v = .bl true := q
        subst q'
        obtain rfl : u = Value.bool true := r'
        refine ⟨rfl, OldK.of_keep fun b o e => ?_, os, bare⟩
        cases q : H b with
        | none => exact un.keep b o e q (by intro z; exact absurd (show b ∈ ([] : List Addr) from z) (by simp)) (by simp)
        | some u =>
          rcases hO b with z | ⟨ob, xs, z⟩
          · rw [q] at z; cases z
          · have z2 := un.frzs b ob _ z
            obtain ⟨e1, _⟩ := hok b _ z
            obtain ⟨e2, _⟩ := hok' b _ z2
            rw [e] at e1; cases e1
            exact e2
  cases hk : K.lookup a with
  | some o =>
    -- the script is one of the module's own objects
    have e := KX a o hk
    rw [ha] at e
    cases e
    refine core (fun _ => none) (fun _ => .inl rfl) (.inr ⟨_, vs.toArray, _, hk, rfl, rfl, rfl, by rw [List.size_toArray, lenV]; exact hl, by simpa using rv⟩) (fun b u z => by have z' : (none : Option HO) = some u := z; cases z') (fun b z => absurd rfl z) fun z => absurd rfl z
  | none =>
    refine core (fun b => if b = a then some (.frz { cls := .type "list", data := .seq vs.toArray } (.lst (ns.map V.int))) else none) (fun b => ?_) (.inl (.inr ⟨{ cls := .type "list", data := .seq vs.toArray }, if_pos rfl⟩)) (fun b u z => ?_) (fun b z => ?_) fun _ => hk
    · by_cases hb : b = a
      · exact .inr ⟨_, _, if_pos hb⟩
      · exact .inl (if_neg hb)
    · by_cases hb : b = a
      · have z' := (if_pos hb).symm.trans z
        cases z'
        subst hb
        exact ⟨ha, by rw [List.length_map]; exact hl, vs, _, rv, ha⟩
      · have z' := (if_neg hb).symm.trans z
        cases z'
    · by_cases hb : b = a
      · exact hb
      · exact absurd (if_neg hb) z
end L2

namespace L2
open PySem PySem.Spec PyProof.Rows

abbrev KOf {K : PySem.W.Frag} {h : Heap} (_ : K.In h) : PySem.W.Frag := K

/-- the goal that k_head leaves (case hc), from the law's promise. F gives the function object fd (K's own) once, then the promise over every base -/
theorem walk_of {l : PySem.W.OpenLaw} {n k : Nat} {q : Program} {loose : List Str} {XP : (Str → Option Value) → Heap → Prop} {YP : World → Heap → Prop} {d : DefRec} {K : Params → PySem.W.Frag} {CX : World → CXT} {sp : World → Sp} {x : Str}
    (hn : l.most = some n) (hn2 : n ≤ sizeLine) (hdf : d.params.defaults = []) (hr : Room k callerA)
    (hY : ∀ (w : World) (h : Heap), YP w h → (K w.params).In h)
    (F : ∀ (w : World) (mg : Str → Option Value) (fa : Addr) (h : Heap), (K w.params).In h → h.Ns mainGlobals mg → mg d.name = some (.ref fa) →
      ∃ fd : FuncData, (∀ (s : Shared) (u : Value), BindsTo s fd ⟨[u], []⟩ [(x, u)]) ∧
        ∀ base : Heap, (K w.params).In base → base.Ns mainGlobals mg → FnOk l.prog w (K w.params) mg base (CX w) k fa fd [x] (sp w))
    (hsp : ∀ (w : World) (H : Hp) (a : Addr) (ns : List Int), ns.length ≤ n → Only H → SqL (K w.params) H a (ns.map V.int) → sp w [.ref a] H (fun v _ => v = .bl true) fun _ _ _ => False)
    (hCX : ∀ (w : World) (H : Hp) (s : Shared) (e : Value) (s' : Shared), CX w [] H s (fun _ _ _ => False) e s' → False) :
    PySem.W.WalkO q loose XP YP l.row.toRowW d [] (fun f vs => PySem.call f vs) := by
  refine Att.attach_call hn hdf fun w s₀ s₁ mg mb fa o pm cd doc a vs ns G Y ho hd hcd hmg hobj hints hlen hg => ?_
  have KX := hY w _ Y
  obtain ⟨fd, hb, hF⟩ := F w mg fa _ KX G.T.g hmg
  exact law_call KX G.T.g G.T.b G.T.builtins G.T.nolimit hg hobj hints (Nat.le_trans hlen hn2) hr hF hb (fun H hO hS => hsp w H a ns hlen hO hS) fun H e s' => hCX w H s₁ e s'
end L2

/- THE LAST THEOREM (shape; LID, My.* are yours):
   My.Adr: a structure of the addresses that your layer names (classes, functions); My.Txt K t: a structure (Prop) of the equations over K;
   My.txt_mk : {K} {implicit addresses ..} (e1 : nsIn K mainGlobals "law" = some (some (.ref f))) (e2 : K.lookup f = some ⟨oc, od, .func (fnOf "law" "law" params body scope dV kV doc pm an cdv ct), sl⟩) (e3 : codeIn K cdv "law" = true) .. : ∃ t, My.Txt K t

set_option maxRecDepth 100000 in
set_option maxHeartbeats 0 in
theorem PySem.Challenge.cw_LID_holds : PySem.Challenge.rw_LID.Holds := by
  w_on; o_law; k_head; (case hw => w_witness2)
  k_fill
  refine L2.walk_of (l := PySem.Challenge.rw_LID) (n := 63) (k := 40) (x := "script") (CX := fun w => ..) (sp := fun _ => My.sp_law) rfl (by decide) rfl ⟨rfl, by decide, by decide⟩ (fun w h Y => PySem.W.kIn_of Y) ?F ?S ?C
  case F =>
    intro w mg fa h KX G hmg
    have T : ∃ t, My.Txt (L2.KOf KX) t := by
      dsimp only [L2.KOf]                          -- K must stand as «<heap const> w.params» for k_is
      refine' My.txt_mk ?e1 ?e2 ?e3 ..
      (case e1 => PySem.W.k_is)                    -- in the order: a name -> its address -> its object -> its parts
      (case e2 => PySem.W.k_is)
      ..
    obtain ⟨t, T⟩ := T
    have e0 := hmg.symm.trans (PySem.W.mg_of KX G T.law)
    cases e0                                       -- fa is the law's own address
    exact ⟨_, fun s u => .of_eq rfl, fun base kb nb => My.law_fn T kb nb⟩     -- if «.of_eq rfl» comes too early: refine' ⟨_, ?b, fun base kb nb => My.law_fn T kb nb⟩; exact fun s u => .of_eq rfl
  case S => exact fun w H a ns hl hO hS => ..
  case C => exact ..
(the tactic k_is has no namespace: write k_is) -/

/-! SHORT WORDS over the layer: a def of the text, its body, what a loop and a test want. -/
namespace L2
open PySem PySem.Spec PyProof.Rows

/-! ### the text by places -/
/-- the j-th statement of a class's body -/
def inClass (s : Stmt) (j : Nat) : Stmt := match s with
  | .ClassDef _ _ _ body _ _ _ _ _ _ _ => body.getD j (.Pass ⟨0, 0, 0, 0⟩)
  | _ => .Pass ⟨0, 0, 0, 0⟩
def defArgs (s : Stmt) : Arguments := match s with
  | .FunctionDef _ a _ _ _ _ _ _ _ _ => a
  | _ => { posonlyargs := [], args := [], vararg := none, kwonlyargs := [], kw_defaults := [], kwarg := none, defaults := [] }
def defBody (s : Stmt) : List Stmt := match s with
  | .FunctionDef _ _ b _ _ _ _ _ _ _ => b
  | _ => []
def defScope (s : Stmt) : Scope := match s with
  | .FunctionDef _ _ _ _ _ _ sc _ _ _ => sc
  | _ => { kind := .function, names := [], isGenerator := false, isCoroutine := false }

/-! ### no exception leaves a def -/
abbrev CX0 : CXT := fun _ _ _ _ _ _ => False
abbrev E0 : XK := fun _ _ _ => False
theorem pass0 {X : Cx} : Passes CX0 X E0 := fun _ _ _ _ _ _ _ h => h.elim

/-! ### a def (or method) of the text as it stands behind the top -/
structure Fun (K : PySem.W.Frag) (x qual : Str) (st : Stmt) (f : Addr) (fd : FuncData) : Prop where
  ex : ∃ (oc : Value) (od : Option Addr) (kV doc pm : Value) (an : Option Addr) (cdv ct : Value) (osl : Array (Option Value)),
    fd = PySem.W.fnOf x qual (defArgs st) (defBody st) (defScope st) .none kV doc pm an cdv ct ∧ K.lookup f = some ⟨oc, od, .func fd, osl⟩ ∧ PySem.W.codeIn K cdv qual = true
  kp : PySem.W.keepIn K (.ref f) = true
section
variable {P : Program} {w : World} {K : PySem.W.Frag} {mg : Str → Option Value} {base : Heap}
/-- THE RULE for a def: its body as a term of rules, and the reading of that term -/
theorem Fun.ok {x qual : Str} {st : Stmt} {f : Addr} {fd : FuncData} {N ps : List Str} {k : Nat} {sp : Sp} (F : Fun K x qual st f fd) (S : FnScope N ps (defScope st)) (len : ∀ vs H Q E, sp vs H Q E → vs.length = ps.length)
    (hbody : ∀ (cdv : Value) (A : Around) (outer : List Env) (s : Shared) (H : Hp) (vs : List V) (Q : VK) (E : XK), Room k (A.deeper (envOfC qual (defScope st) s.heap.objs.size f cdv)) → sp vs H Q E →
      ∃ t, PSs (cxOf CX0 P w K mg base N qual (defScope st) f cdv A outer s H E).nox (defBody st) t ∧ t { nx := fun _ H' => Q .non H', rt := Q } (start N vs) H) : FnOk P w K mg base CX0 (k + 1) f fd ps sp := by
  obtain ⟨oc, od, kV, doc, pm, an, cdv, ct, osl, rfl, lk, hcd⟩ := F.ex
  refine fn_of lk hcd S len fun A outer s H vs Q E hr hsp => ?_
  obtain ⟨t, h, q⟩ := hbody cdv A outer s H vs Q E hr hsp
  exact ⟨t, h.nox, q⟩
/-- how its arguments bind (no defaults): h is «fun _ _ _ _ _ _ us hl => match us, hl with | [_, _], _ => rfl», one _ a parameter -/
theorem Fun.binds {x qual : Str} {st : Stmt} {f : Addr} {fd : FuncData} {ps : List Str} (F : Fun K x qual st f fd)
    (h : ∀ (kV doc pm : Value) (an : Option Addr) (cdv ct : Value) (us : List Value), us.length = ps.length → bindArgs (PySem.W.fnOf x qual (defArgs st) (defBody st) (defScope st) .none kV doc pm an cdv ct) ⟨us, []⟩ = pure (ps.zip us)) : Binds K fd ps [] := by
  obtain ⟨oc, od, kV, doc, pm, an, cdv, ct, osl, rfl, lk, hcd⟩ := F.ex
  exact .all (h kV doc pm an cdv ct)
theorem fun_mk {x qual : Str} {st : Stmt} {f : Addr} {oc : Value} {od an : Option Addr} {osl : Array (Option Value)} {kV doc pm cdv ct : Value} (l : K.lookup f = some ⟨oc, od, .func (PySem.W.fnOf x qual (defArgs st) (defBody st) (defScope st) .none kV doc pm an cdv ct), osl⟩)
    (c : PySem.W.codeIn K cdv qual = true) (k : PySem.W.keepIn K (.ref f) = true) : Fun K x qual st f (PySem.W.fnOf x qual (defArgs st) (defBody st) (defScope st) .none kV doc pm an cdv ct) := ⟨⟨oc, od, kV, doc, pm, an, cdv, ct, osl, rfl, l, c⟩, k⟩
end
theorem small1000 {n : Nat} (h : n ≤ 1000) : n < sizeLine := Nat.lt_of_le_of_lt h (by decide)

/-! ### expressions in short: the name that stands in the i-th slot -/
section
variable {X : Cx}
theorem pv (i : Nat) {x : Str} {pos : Pos} (hN : X.N[i]? = some x := by rfl) (hv : Vis X.env.scope x := by first | exact Or.inl rfl | exact Or.inr (Or.inl rfl) | exact Or.inr (Or.inr rfl)) (hd : (x == ("__debug__" : Str)) = false := by decide)
    (hcd : (x == ("__classdict__" : Str)) = false := by decide) : PE X (.Name x pos) (tVar i) := pe_var hN hv hd hcd
end

/-! ### tests -/
theorem iteF {A B : Prop} (h : B) : if false = true then A else B := by
  rw [if_neg Bool.false_ne_true]
  exact h
theorem iteT {A B : Prop} (h : A) : if true = true then A else B := by
  rw [if_pos rfl]
  exact h
theorem ite2 {c A B : Prop} [Decidable c] (h1 : c → A) (h2 : ¬ c → B) : if c then A else B := by
  by_cases h : c
  · rw [if_pos h]
    exact h1 h
  · rw [if_neg h]
    exact h2 h
/-! ### heaps -/
/-- all that was tracked is as it was -/
def Same (H H' : Hp) : Prop := ∀ b o, H b = some o → H' b = some o
theorem Same.refl (H : Hp) : Same H H := fun _ _ h => h
theorem Same.trans {H H1 H2 : Hp} (a : Same H H1) (b : Same H1 H2) : Same H H2 := fun c o h => b c o (a c o h)
theorem Same.free {H H' : Hp} (e : Same H H') {l : Addr} (h : H' l = Option.none) : H l = Option.none := by
  cases q : H l with
  | none => rfl
  | some o =>
    rw [e l o q] at h
    cases h
theorem Same.seq {K : PySem.W.Frag} {H H' : Hp} {a : Addr} {xs : List V} (e : Same H H') (h : SqL K H a xs) : SqL K H' a xs := by
  rcases h with (h | ⟨o, h⟩) | h
  · exact .inl (.inl (e _ _ h))
  · exact .inl (.inr ⟨o, e _ _ h⟩)
  · exact .inr h

end L2

set_option maxHeartbeats 4000000
namespace L2
open PySem PySem.Spec PyProof.Rows
/-! ### lists of pairs as tables -/
section
variable {κ : Type} [DecidableEq κ]
def valV (kvs : List (κ × V)) (k : κ) : Option V := (kvs.find? fun kv => decide (kv.1 = k)).map (·.2)
/-- in its place, or at the end -/
def putK (kvs : List (κ × V)) (k : κ) (v : V) : List (κ × V) :=
  if (kvs.any fun kv => decide (kv.1 = k)) = true then kvs.map (fun kv => if kv.1 = k then (kv.1, v) else kv) else kvs ++ [(k, v)]
def dropK (kvs : List (κ × V)) (k : κ) : List (κ × V) := kvs.filter fun kv => decide (kv.1 ≠ k)

theorem valV_pos {p : κ × V} {r : List (κ × V)} {k : κ} (e : p.1 = k) : valV (p :: r) k = some p.2 := by simp [valV, List.find?_cons, e]
theorem valV_neg {p : κ × V} {r : List (κ × V)} {k : κ} (e : ¬ p.1 = k) : valV (p :: r) k = valV r k := by simp [valV, List.find?_cons, e]
theorem valV_any (k : κ) : ∀ kvs : List (κ × V), (kvs.any fun kv => decide (kv.1 = k)) = (valV kvs k).isSome
  | [] => rfl
  | p :: r => by
    rw [List.any_cons]
    by_cases e : p.1 = k
    · simp only [valV_pos e, decide_eq_true e, Bool.true_or, Option.isSome_some]
    · rw [valV_neg e, decide_eq_false e, Bool.false_or]; exact valV_any k r
theorem length_putK (kvs : List (κ × V)) (k : κ) (v : V) : (putK kvs k v).length ≤ kvs.length + 1 := by
  unfold putK
  split
  · rw [List.length_map]; omega
  · rw [List.length_append, List.length_cons, List.length_nil]; omega
theorem putK_new {kvs : List (κ × V)} {k : κ} (v : V) (h : valV kvs k = none) : putK kvs k v = kvs ++ [(k, v)] := by
  unfold putK
  rw [valV_any, h]
  exact if_neg (by decide)

theorem RelO.isSome_eq {o : Option V} {u : Option Value} (r : RelO o u) : o.isSome = u.isSome := by
  cases o with
  | none => cases u with
    | none => rfl
    | some _ => exact (show False from r).elim
  | some _ => cases u with
    | none => exact (show False from r).elim
    | some _ => rfl
theorem RelO.getD {o : Option V} {u : Option Value} {d : V} {d' : Value} (r : RelO o u) (rd : RelV d d') : RelV (o.getD d) (u.getD d') := by
  cases o with
  | none => cases u with
    | none => exact rd
    | some _ => exact (show False from r).elim
  | some _ => cases u with
    | none => exact (show False from r).elim
    | some _ => exact r

/-- raw tables of the same keys -/
theorem KV.val {kvs : List (κ × V)} {vs : List (κ × Value)} (r : KV kvs vs) (k : κ) : RelO (valV kvs k) (valueAt vs k) := by
  unfold KV at r
  induction r with
  | nil => exact True.intro
  | @cons p q ps qs h t ih =>
    obtain ⟨h1, h2⟩ := h
    by_cases e : p.1 = k
    · have e' : q.1 = k := h1.symm.trans e
      have b : valueAt (q :: qs) k = some q.2 := by simp [valueAt, List.find?_cons, e']
      rw [valV_pos e, b]; exact h2
    · have e' : ¬ q.1 = k := fun z => e (h1.trans z)
      have b : valueAt (q :: qs) k = valueAt qs k := by simp [valueAt, List.find?_cons, e']
      rw [valV_neg e, b]; exact ih
theorem KV.any {kvs : List (κ × V)} {vs : List (κ × Value)} (r : KV kvs vs) (k : κ) : (kvs.any fun kv => decide (kv.1 = k)) = vs.any fun kv => decide (kv.1 = k) := by
  unfold KV at r
  induction r with
  | nil => rfl
  | cons h t ih => rw [List.any_cons, List.any_cons, ih, h.1]
theorem KV.repl {kvs : List (κ × V)} {vs : List (κ × Value)} (r : KV kvs vs) (k : κ) {y : V} {u : Value} (ry : RelV y u) :
    KV (kvs.map fun kv => if kv.1 = k then (kv.1, y) else kv) (vs.map fun kv => if kv.1 = k then (kv.1, u) else kv) := by
  unfold KV at r ⊢
  induction r with
  | nil => exact .nil
  | @cons p q ps qs h t ih =>
    rw [List.map_cons, List.map_cons]
    refine .cons ?_ ih
    obtain ⟨h1, h2⟩ := h
    by_cases e : p.1 = k
    · rw [if_pos e, if_pos (h1.symm.trans e)]; exact ⟨h1, ry⟩
    · rw [if_neg e, if_neg (fun z => e (h1.trans z))]; exact ⟨h1, h2⟩
theorem KV.put {kvs : List (κ × V)} {vs : List (κ × Value)} (r : KV kvs vs) (k : κ) {y : V} {u : Value} (ry : RelV y u) : KV (putK kvs k y) (stored vs k u) := by
  unfold putK stored
  rw [r.any k]
  by_cases e : (vs.any fun kv => decide (kv.1 = k)) = true
  · rw [if_pos e, if_pos e]; exact r.repl k ry
  · rw [if_neg e, if_neg e]; exact Paired.snoc r ⟨rfl, ry⟩
theorem KV.drop {kvs : List (κ × V)} {vs : List (κ × Value)} (r : KV kvs vs) (k : κ) : KV (dropK kvs k) (without vs k) := by
  unfold KV at r ⊢
  unfold dropK without
  induction r with
  | nil => exact .nil
  | @cons p q ps qs h t ih =>
    obtain ⟨h1, h2⟩ := h
    rw [List.filter_cons, List.filter_cons]
    by_cases e : p.1 = k
    · have a : ¬ decide (p.1 ≠ k) = true := by simp [e]
      have b : ¬ decide (q.1 ≠ k) = true := by simp [h1.symm.trans e]
      rw [if_neg a, if_neg b]; exact ih
    · have e' : ¬ q.1 = k := fun z => e (h1.trans z)
      have a : decide (p.1 ≠ k) = true := by simp [e]
      have b : decide (q.1 ≠ k) = true := by simp [e']
      rw [if_pos a, if_pos b]; exact .cons ⟨h1, h2⟩ ih
theorem KV.keys {kvs : List (κ × V)} {vs : List (κ × Value)} (r : KV kvs vs) : kvs.map (·.1) = vs.map (·.1) := by
  unfold KV at r
  induction r with
  | nil => rfl
  | cons h t ih => rw [List.map_cons, List.map_cons, ih, h.1]
theorem KV.length {kvs : List (κ × V)} {vs : List (κ × Value)} (r : KV kvs vs) : kvs.length = vs.length := Paired.length r
theorem dropK_le (kvs : List (κ × V)) (k : κ) : (dropK kvs k).length ≤ kvs.length := List.length_filter_le _ _
end


/-! ### a tracked dict, its keys ints and texts or tuples of these -/
theorem kV_is {P : Program} {w : World} {k : Key} {u : Value} (r : RelV (kV k) u) : (mixKind P w).is k u = true := by
  cases k with
  | inl i => obtain ⟨t, e⟩ := (show ∃ t, u = Value.int i t from r); subst e; exact mixKind_int P w i t
  | inr x => obtain ⟨t, e⟩ := (show ∃ t, u = Value.str x t from r); subst e; exact mixKind_str P w x t
theorem items_are {P : Program} {w : World} : ∀ {ks : List Key} {us : List Value}, Vals (ks.map kV) us → ItemsAre (mixKind P w) ks us
  | [], _, r => by rw [List.map_nil] at r; cases r; exact .nil
  | k :: ks, _, r => by
    rw [List.map_cons] at r
    cases r with
    | cons h t => exact .cons (kV_is h) (items_are t)

/-- raw entries of a dict with tuple keys -/
abbrev KT (H : Hp) : List (List Key × V) → List (List Key × Addr × Value) → Prop := Paired fun p q => p.1 = q.1 ∧ H q.2.1 = some (.tup (p.1.map kV)) ∧ RelV p.2 q.2.2
theorem KT.val {H : Hp} {kvs : List (List Key × V)} {xs : List (List Key × Addr × Value)} (r : KT H kvs xs) (k : List Key) : RelO (valV kvs k) ((atKey xs k).map (·.2)) := by
  induction r with
  | nil => exact True.intro
  | @cons p q ps qs h t ih =>
    obtain ⟨h1, _, h2⟩ := h
    by_cases e : p.1 = k
    · have e' : q.1 = k := h1.symm.trans e
      have b : atKey (q :: qs) k = some q.2 := by simp [atKey, List.find?_cons, e']
      rw [valV_pos e, b]; exact h2
    · have e' : ¬ q.1 = k := fun z => e (h1.trans z)
      have b : atKey (q :: qs) k = atKey qs k := by simp [atKey, List.find?_cons, e']
      rw [valV_neg e, b]; exact ih
theorem KT.repl {H : Hp} {kvs : List (List Key × V)} {xs : List (List Key × Addr × Value)} (r : KT H kvs xs) (k : List Key) {y : V} {u : Value} (ry : RelV y u) :
    KT H (kvs.map fun kv => if kv.1 = k then (kv.1, y) else kv) (xs.map (putAt k u)) := by
  induction r with
  | nil => exact .nil
  | @cons p q ps qs h t ih =>
    rw [List.map_cons, List.map_cons]
    refine .cons ?_ ih
    obtain ⟨h1, h2, h3⟩ := h
    unfold putAt
    by_cases e : p.1 = k
    · rw [if_pos e, if_pos (h1.symm.trans e)]; exact ⟨h1, h2, ry⟩
    · rw [if_neg e, if_neg (fun z => e (h1.trans z))]; exact ⟨h1, h2, h3⟩
theorem KT.put {H : Hp} {kvs : List (List Key × V)} {xs : List (List Key × Addr × Value)} (r : KT H kvs xs) (k : List Key) {b : Addr} {y : V} {u : Value} (hb : H b = some (.tup (k.map kV))) (ry : RelV y u) :
    KT H (putK kvs k y) (storedH xs k b u) := by
  have e : (kvs.any fun kv => decide (kv.1 = k)) = (atKey xs k).isSome := by
    rw [valV_any, (r.val k).isSome_eq, Option.isSome_map]
  unfold putK storedH
  rw [e]
  by_cases q : (atKey xs k).isSome = true
  · rw [if_pos q, if_pos q]; exact r.repl k ry
  · rw [if_neg q, if_neg q]; exact Paired.snoc r ⟨rfl, hb, ry⟩
theorem KT.keeps {H H' : Hp} {kvs : List (List Key × V)} {xs : List (List Key × Addr × Value)} (r : KT H kvs xs) (ht : ∀ b ys, H b = some (.tup ys) → H' b = some (.tup ys)) : KT H' kvs xs :=
  Paired.mapP r fun _ _ z => ⟨z.1, ht _ _ z.2.1, z.2.2⟩

section
variable {P : Program} {w : World} {H : Hp} {h : Heap} {a : Addr}
theorem rd_of {u : HO} (ok : HOk P w H h) (e : Rd H a u) : ObjOk P w H h a u := e.ok ok
theorem dk_rd {kvs : List (Key × V)} (ok : HOk P w H h) (e : Rd H a (.dK kvs)) : kvs.length ≤ sizeLine ∧ (a == sysModules) = false ∧ ∃ vs, KV kvs vs ∧ h.DictOf (mixKind P w) a vs :=
  show ObjOk P w H h a (.dK kvs) from rd_of ok e
theorem dk_of {kvs : List (Key × V)} (ok : HOk P w H h) (e : H a = some (.dK kvs)) : kvs.length ≤ sizeLine ∧ (a == sysModules) = false ∧ ∃ vs, KV kvs vs ∧ h.DictOf (mixKind P w) a vs := dk_rd ok (.inl e)
/-- a tracked tuple of ints and texts is a key -/
theorem key_of {ks : List Key} (ok : HOk P w H h) (e : H a = some (.tup (ks.map kV))) : (tupleKind (mixKind P w)).is h ks a := by
  obtain ⟨_, its, r, o, h1, h2, n, h3⟩ := (show ObjOk P w H h a (.tup (ks.map kV)) from ok a _ e)
  exact ⟨o, its.toArray, n, h1, h2, h3, by simpa using items_are r⟩
theorem dt_rd {kvs : List (List Key × V)} (ok : HOk P w H h) (e : Rd H a (.dT kvs)) : kvs.length ≤ sizeLine ∧ (a == sysModules) = false ∧
    ∃ xs, KT H kvs xs ∧ h.DictOfH (tupleKind (mixKind P w)) a xs := by
  obtain ⟨z, y, xs, r, o, es, ep, h1, h2, h3, h4, h5⟩ := (show ObjOk P w H h a (.dT kvs) from rd_of ok e)
  refine ⟨z, y, xs, r, o, es, ep, h1, h2, h3, h4, fun x hx => ?_, h5⟩
  have all : ∀ {l : List (List Key × V)} {m : List (List Key × Addr × Value)}, KT H l m → ∀ x ∈ m, (tupleKind (mixKind P w)).is h x.1 x.2.1 := by
    intro l m q
    induction q with
    | nil => intro x hx; exact nomatch hx
    | @cons p q ps qs hq t ih =>
      intro x hx
      rcases List.mem_cons.mp hx with e | hx
      · subst e
        exact key_of ok (by rw [← hq.1]; exact hq.2.1)
      · exact ih x hx
  exact all r x hx
theorem dt_of {kvs : List (List Key × V)} (ok : HOk P w H h) (e : H a = some (.dT kvs)) : kvs.length ≤ sizeLine ∧ (a == sysModules) = false ∧
    ∃ xs, KT H kvs xs ∧ h.DictOfH (tupleKind (mixKind P w)) a xs := dt_rd ok (.inl e)
end

/-- what the dict at a holds at the key y -/
def DGet (H : Hp) (a : Addr) (y : V) (r : Option V) : Prop :=
  (∃ kvs k, Rd H a (.dK kvs) ∧ y = kV k ∧ r = valV kvs k) ∨ ∃ kvs k b, Rd H a (.dT kvs) ∧ y = .ref b ∧ H b = some (.tup (k.map kV)) ∧ r = valV kvs k
/-- the heap behind a[y] = v -/
def DPut (H : Hp) (a : Addr) (y v : V) (H' : Hp) : Prop :=
  (∃ kvs k, H a = some (.dK kvs) ∧ y = kV k ∧ kvs.length < sizeLine ∧ H' = upd H a (.dK (putK kvs k v))) ∨
  ∃ kvs k b, H a = some (.dT kvs) ∧ y = .ref b ∧ H b = some (.tup (k.map kV)) ∧ kvs.length < sizeLine ∧ H' = upd H a (.dT (putK kvs k v))
theorem DGet.k {H : Hp} {a : Addr} {kvs : List (Key × V)} {k : Key} (e : H a = some (.dK kvs)) : DGet H a (kV k) (valV kvs k) := .inl ⟨kvs, k, .inl e, rfl, rfl⟩
theorem DGet.t {H : Hp} {a b : Addr} {kvs : List (List Key × V)} {k : List Key} (e : H a = some (.dT kvs)) (eb : H b = some (.tup (k.map kV))) : DGet H a (.ref b) (valV kvs k) := .inr ⟨kvs, k, b, .inl e, rfl, eb, rfl⟩
theorem DPut.k {H : Hp} {a : Addr} {kvs : List (Key × V)} {k : Key} {v : V} (e : H a = some (.dK kvs)) (hl : kvs.length < sizeLine) : DPut H a (kV k) v (upd H a (.dK (putK kvs k v))) := .inl ⟨kvs, k, e, rfl, hl, rfl⟩
theorem DPut.t {H : Hp} {a b : Addr} {kvs : List (List Key × V)} {k : List Key} {v : V} (e : H a = some (.dT kvs)) (eb : H b = some (.tup (k.map kV))) (hl : kvs.length < sizeLine) :
    DPut H a (.ref b) v (upd H a (.dT (putK kvs k v))) := .inr ⟨kvs, k, b, e, rfl, eb, hl, rfl⟩


section
variable {X : Cx} {pins : List (Addr × Obj)} {σ : St} {H : Hp} {s : Shared} {a : Addr} {y v : V} {u r : Value} {o : Option V} {A : Around} {E : Value → Shared → Prop}

theorem Inv.big (I : Inv X pins σ H s) : sysModules < s.heap.objs.size := by
  have h : mainGlobals < s.heap.objs.size := (I.mod.glob.keeps I.bk).lt
  exact Nat.lt_trans (by decide) h

/-- d[y], there -/
theorem d_getItem {Q : Value → Shared → Prop} (hu : A.units + 1 < cLine) (I : Inv X pins σ H s) (g : DGet H a y (some v)) (ry : RelV y u) (h : ∀ w' s', Inv X pins σ H s' → RelV v w' → Q w' s') :
    wpAny (model X.prog X.w) A (getItem (.ref a) u) Q E s := by
  rcases g with ⟨kvs, k, e, ey, l⟩ | ⟨kvs, k, b, e, ey, eb, l⟩
  · subst ey
    obtain ⟨z, hd, vs, rel, dd⟩ := dk_rd I.hok e
    obtain ⟨w', hw, rw'⟩ := RelO.some_of (v := v) (o := valueAt vs k) (by rw [l]; exact rel.val k)
    exact wpAny_getItem_of (kV_is ry) dd.mapOf hw (h w' _ (I.tok _) rw')
  · subst ey
    cases (show u = Value.ref b from ry)
    obtain ⟨z, hd, xs, rel, dd⟩ := dt_rd I.hok e
    obtain ⟨w', hw, rw'⟩ := RelO.some_of (v := v) (o := (atKey xs k).map (·.2)) (by rw [l]; exact rel.val k)
    obtain ⟨p, hp, hp2⟩ := Option.map_eq_some_iff.mp hw
    refine wpAny_getItem_heap (tupleKind_room_in1 hu) (key_of I.hok eb) dd hp ?_
    rw [hp2]
    exact h w' _ (I.tok _) rw'
theorem d_notIn {Q : Value → Shared → Prop} (hu : A.units + 1 < cLine) (I : Inv X pins σ H s) (g : DGet H a y o) (ry : RelV y u) (h : ∀ s', Inv X pins σ H s' → Q (.bool (!o.isSome)) s') :
    wpAny (model X.prog X.w) A (compareOp .NotIn u (.ref a)) Q E s := by
  rcases g with ⟨kvs, k, e, ey, l⟩ | ⟨kvs, k, b, e, ey, eb, l⟩
  · subst ey
    obtain ⟨z, hd, vs, rel, dd⟩ := dk_rd I.hok e
    refine wpAny_notIn_of (kV_is ry) hd dd.mapOf ?_
    rw [← (rel.val k).isSome_eq, ← l]
    exact h _ (I.tok _)
  · subst ey
    cases (show u = Value.ref b from ry)
    obtain ⟨z, hd, xs, rel, dd⟩ := dt_rd I.hok e
    refine wpAny_notIn_heap (tupleKind_room_in1 hu) (key_of I.hok eb) hd dd ?_
    have q := (rel.val k).isSome_eq
    rw [Option.isSome_map] at q
    rw [← q, ← l]
    exact h _ (I.tok _)
/-- a dict's object is replaced -/
theorem d_write {h' : Heap} {t' : Nat} {ob : HO} (I : Inv X pins σ H s) (mu : Mut (H a)) (hs : Heap.SameBut a s.heap h') (he : ∃ q, h'.get? a = some q) (new : ObjOk X.prog X.w (upd H a ob) h' a ob) :
    Inv X pins σ (upd H a ob) { s with heap := h', toks := t' } :=
  I.write (x := a) (e := a) mu (.inl rfl) (fun b q hb z => (hs.2 b hb).trans z) he new
theorem dk_new {P : Program} {w : World} {H' : Hp} {h' : Heap} {kvs : List (Key × V)} {vs : List (Key × Value)} (z : kvs.length ≤ sizeLine) (hd : (a == sysModules) = false) (rel : KV kvs vs) (dd : h'.DictOf (mixKind P w) a vs) :
    ObjOk P w H' h' a (.dK kvs) := ⟨z, hd, vs, rel, dd⟩
/-- d[y] = v -/
theorem d_setItem {H' : Hp} {Q : Unit → Shared → Prop} (hu : A.units + 1 < cLine) (I : Inv X pins σ H s) (g : DPut H a y v H') (ry : RelV y u) (rv : RelV v r) (h : ∀ s', Inv X pins σ H' s' → Q () s') :
    wpAny (model X.prog X.w) A (setItem (.ref a) u r) Q E s := by
  rcases g with ⟨kvs, k, e, ey, l, eH⟩ | ⟨kvs, k, b, e, ey, eb, l, eH⟩
  · subst ey eH
    obtain ⟨z, hd, vs, rel, dd⟩ := dk_of I.hok e
    have hz : vs.length ≤ sizeLine := by rw [← rel.length]; exact z
    have hl : (putK kvs k v).length ≤ sizeLine := by have := length_putK kvs k v; omega
    refine wpAny_setItem_pairs (hsz := hz) (kV_is ry) dd fun h' dd' hs => h _ ?_
    have he : ∃ q, h'.get? a = some q := let ⟨q, _, _, hq, _⟩ := dd'; ⟨q, hq⟩
    exact d_write I (by rw [e]; exact True.intro) hs he (dk_new hl hd (rel.put k rv) dd')
  · subst ey eH
    cases (show u = Value.ref b from ry)
    obtain ⟨z, hd, xs, rel, dd⟩ := dt_of I.hok e
    have hz : xs.length ≤ sizeLine := by rw [← Paired.length rel]; exact z
    have hl : (putK kvs k v).length ≤ sizeLine := by have := length_putK kvs k v; omega
    refine wpAny_setItem_heap (hsz := hz) (tupleKind_room_in1 hu) (key_of I.hok eb) dd fun h' dd' hs => h _ ?_
    obtain ⟨q, es, ep, hq, h2, h3, h4, _, h5⟩ := dd'
    refine d_write I (by rw [e]; exact True.intro) hs ⟨q, hq⟩ ⟨hl, hd, _, (rel.put k eb rv).keeps fun c ys ec => ?_, q, es, ep, hq, h2, h3, h4, h5⟩
    rw [upd_ne (ne_of ec e (fun z => nomatch z))]
    exact ec
end

section
variable {X : Cx} {pins : List (Addr × Obj)} {σ : St} {H : Hp} {s : Shared} {a : Addr} {kvs : List (Key × V)} {k : Key} {u : Value} {A : Around} {E : Value → Shared → Prop}
/-- del d[k] -/
theorem d_delItem {Q : Unit → Shared → Prop} (I : Inv X pins σ H s) (e : H a = some (.dK kvs)) (ry : RelV (kV k) u) (l : (valV kvs k).isSome = true) (h : ∀ s', Inv X pins σ (upd H a (.dK (dropK kvs k))) s' → Q () s') :
    wpAny (model X.prog X.w) A (delItem (.ref a) u) Q E s := by
  obtain ⟨z, hd, vs, rel, dd⟩ := dk_of I.hok e
  refine wpAny_delItem_slot dd.typeIs (by decide) PySem.F.slot_dict_delitem
    (call_meetsIn PySem.F.slot_dict_delitem dd.typeIs PySem.F.entry_dict_delitem (PySem.F.args_dict_delitem_2 _ _) (meets_dict_delitem_pairs (mixKind X.prog X.w) a (kV_is ry)) ⟨vs, dd, by rw [← rel.length]; exact z, by rw [← (rel.val k).isSome_eq]; exact l, fun h' dd' hs => h _ ?_⟩)
  have he : ∃ q, h'.get? a = some q := let ⟨q, _, _, hq, _⟩ := dd'; ⟨q, hq⟩
  exact d_write I (by rw [e]; exact True.intro) hs he (dk_new (Nat.le_trans (dropK_le kvs k) z) hd (rel.drop k) dd')
/-- d.pop(k[, x]), there -/
theorem d_pop {v : V} {more : List Value} {Q : Value → Shared → Prop} (I : Inv X pins σ H s) (e : H a = some (.dK kvs)) (ry : RelV (kV k) u) (l : valV kvs k = some v) (hm : more = [] ∨ ∃ x, more = [x])
    (h : ∀ w' s', Inv X pins σ (upd H a (.dK (dropK kvs k))) s' → RelV v w' → Q w' s') : wpAny (model X.prog X.w) A (call (.builtin "dict.pop") (.ref a :: u :: more)) Q E s := by
  obtain ⟨z, hd, vs, rel, dd⟩ := dk_of I.hok e
  obtain ⟨w', hw, rw'⟩ := RelO.some_of (v := v) (o := valueAt vs k) (by rw [← l]; exact rel.val k)
  have hp : (keyPart u).isSome = true := by
    cases k with
    | inl i => obtain ⟨t, q⟩ := (show ∃ t, u = Value.int i t from ry); subst q; rfl
    | inr x => obtain ⟨t, q⟩ := (show ∃ t, u = Value.str x t from ry); subst q; rfl
  have ha : argsOk "dict.pop" ⟨.ref a :: u :: more, []⟩ := by
    rcases hm with q | ⟨x, q⟩
    · subst q; exact PySem.F.args_dict_pop_2 _ _
    · subst q; exact PySem.F.args_dict_pop_3 _ _ _
  refine call_meetsIn PySem.F.slot_dict_pop dd.typeIs PySem.F.entry_dict_pop ha (meets_dict_pop_there (mixKind X.prog X.w) a (kV_is ry) more hm hp)
    ⟨vs, w', dd, by rw [← rel.length]; exact z, hw, fun h' dd' hs => h w' _ ?_ rw'⟩
  have he : ∃ q, h'.get? a = some q := let ⟨q, _, _, hq, _⟩ := dd'; ⟨q, hq⟩
  exact d_write I (by rw [e]; exact True.intro) hs he (dk_new (Nat.le_trans (dropK_le kvs k) z) hd (rel.drop k) dd')
/-- len(d) -/
theorem d_len {Q : Value → Shared → Prop} (I : Inv X pins σ H s) (e : Rd H a (.dK kvs)) (h : ∀ t s', Inv X pins σ H s' → Q (.int kvs.length t) s') : wpAny (model X.prog X.w) A (call (.builtin "len") [.ref a]) Q E s := by
  obtain ⟨z, hd, vs, rel, dd⟩ := dk_rd I.hok e
  refine call_len_dict hd dd (by rw [← rel.length]; rw [sizeLine_eq] at z; omega) ?_
  rw [← rel.length]
  exact h _ _ (I.tok _)
end


/-! ### readings and rules -/
/-- the element of a subscription, not a slice -/
def NoSl (i : Expr) : Prop := ∀ ov iv, subscripted i false ov iv = operate [ov, iv] (getItem ov iv)
theorem subD_of {prog : Program} {w : World} {A : Around} {E : Value → Shared → Prop} {s : Shared} {env : Env} {value slice : Expr} {pos : Pos} {T id : String} {Q : Value → Shared → Prop}
    (hl : typeLookup (.type T) "__getitem__" = pure (some (.builtin id))) (hs : NoSl slice)
    (h : wpAny (model prog w) A (eval value env) (fun o s₁ => wpAny (model prog w) A (eval slice env) (fun i s₂ => s₂.TypeIs o T ∧ wpAny (model prog w) A (getItem o i) Q E s₂) E s₁) E s) :
    wpAny (model prog w) A (eval (.Subscript value slice pos) env) Q E s := by
  refine Subscript_ (wpAny_mono h (fun o s₁ h₁ => wpAny_mono h₁ (fun i s₂ h₂ => ?_) fun _ _ x => x) fun _ _ x => x)
  obtain ⟨hT, h₂⟩ := h₂
  unfold subscriptTail
  refine wpAny_bind ?_
  rw [getitemInPython_of_ne hT.not_modules]
  refine wpAny_bind (wpAny_specialOf hT hl ?_)
  have fin : wpAny (model prog w) A (subscripted slice false o i) (fun r s₃ => wpAny (model prog w) A (letTemporaryGo value o r >>= fun _ => pure r) Q E s₃) E s₂ := by
    rw [hs o i]
    exact wpAny_operating (wpAny_mono h₂ (fun r s₃ h₃ => wpAny_bind (wpAny_letTemporaryGo (wpAny_pure h₃))) fun _ _ x => x)
  first
    | exact wpAny_pure (wpAny_bind fin)
    | exact wpAny_bind (wpAny_pure (wpAny_bind fin))
    | exact wpAny_bind fin

theorem dict_typeIs {X : Cx} {pins : List (Addr × Obj)} {σ : St} {H : Hp} {s : Shared} {a : Addr} {y : V} {o : Option V} (I : Inv X pins σ H s) (g : DGet H a y o) : s.TypeIs (.ref a) "dict" := by
  rcases g with ⟨kvs, k, e, _, _⟩ | ⟨kvs, k, b, e, _, _, _⟩
  · obtain ⟨_, _, vs, _, dd⟩ := dk_rd I.hok e
    exact dd.typeIs
  · obtain ⟨_, _, xs, _, dd⟩ := dt_rd I.hok e
    exact dd.typeIs
/-- d[y] -/
def tDGet (td ty : TE) : TE := fun σ H Q => td σ H fun x H1 => ty σ H1 fun y H2 => ∃ a v, x = .ref a ∧ DGet H2 a y (some v) ∧ Q v H2
/-- y in d, y not in d -/
def tDIn (ty td : TE) : TE := fun σ H Q => ty σ H fun y H1 => td σ H1 fun x H2 => ∃ a o, x = .ref a ∧ DGet H2 a y o ∧ Q (.bl o.isSome) H2
def tDNotIn (ty td : TE) : TE := fun σ H Q => ty σ H fun y H1 => td σ H1 fun x H2 => ∃ a o, x = .ref a ∧ DGet H2 a y o ∧ Q (.bl (!o.isSome)) H2
/-- d[y] = v -/
def sDPut (td ty tv : TE) : TS := fun D σ H => tv σ H fun v H1 => td σ H1 fun x H2 => ty σ H2 fun y H3 => ∃ a H4, x = .ref a ∧ DPut H3 a y v H4 ∧ D.nx σ H4
/-- d[y] op= v -/
def sDAug (td ty tv : TE) (rd : V → V → Hp → VK → Prop) : TS := fun D σ H => td σ H fun x H1 => ty σ H1 fun y H2 => ∃ a v, x = .ref a ∧ DGet H2 a y (some v) ∧
  tv σ H2 fun y2 H3 => rd v y2 H3 fun z H4 => ∃ H5, DPut H4 a y z H5 ∧ D.nx σ H5
/-- del d[y] -/
def sDDel (td ty : TE) : TS := fun D σ H => td σ H fun x H1 => ty σ H1 fun y H2 => ∃ a kvs k, x = .ref a ∧ H2 a = some (.dK kvs) ∧ y = kV k ∧ (valV kvs k).isSome = true ∧ D.nx σ (upd H2 a (.dK (dropK kvs k)))

section
variable {X : Cx} {o i e value : Expr} {pos pos' tpos : Pos} {td ty tv : TE}
theorem pe_dget (hu : X.A.units + 1 < cLine) (ho : PE X o td) (hi : PE X i ty) (hs : NoSl i) : PE X (.Subscript o i pos) (tDGet td ty) := by
  intro pins s σ H Q I h
  refine subD_of PySem.F.slot_dict_getitem.lookup hs (thn (ho pins s σ H _ I h) fun u s1 ⟨x, H1, I1, rx, q1⟩ => thn (hi pins s1 σ H1 _ I1 q1) fun iv s2 ⟨y, H2, I2, ry, a, v, ex, g, q2⟩ => ?_)
  subst ex
  obtain rfl : u = Value.ref a := rx
  exact ⟨dict_typeIs I2 g, d_getItem hu I2 g ry fun w' s3 I3 rw' => ⟨v, H2, I3, rw', q2⟩⟩
theorem pc_dnotin (hu : X.A.units + 1 < cLine) (hi : PE X i ty) (ho : PE X o td) : PC X .NotIn i o (tDNotIn ty td) := by
  intro pins s σ H Q I h
  refine thn (hi pins s σ H _ I h) fun iv s1 ⟨y, H1, I1, ry, q1⟩ => thn (ho pins s1 σ H1 _ I1 q1) fun u s2 ⟨x, H2, I2, rx, a, ov, ex, g, q2⟩ => ?_
  subst ex
  obtain rfl : u = Value.ref a := rx
  exact d_notIn hu I2 g ry fun s3 I3 => ⟨.bl (!ov.isSome), H2, I3, rfl, q2⟩
theorem ps_dput (hu : X.A.units + 1 < cLine) (ho : PE X o td) (hi : PE X i ty) (hv : PE X value tv) (hs : swapsWith value (some (.Subscript o i pos')) pos.line X.env = pure false) :
    PS X (.Assign [.Subscript o i pos'] value pos) (sDPut td ty tv) := by
  intro pins s σ H D I h
  refine wpAny_Assign_Subscript (thn (hv pins s σ H _ I h) fun r s1 ⟨v, H1, I1, rv, q1⟩ => thn (ho pins s1 σ H1 _ I1 q1) fun u s2 ⟨x, H2, I2, rx, q2⟩ => thn (hi pins s2 σ H2 _ I2 q2) fun iv s3 ⟨y, H3, I3, ry, a, H4, ex, g, q3⟩ => ?_) hs
  subst ex
  obtain rfl : u = Value.ref a := rx
  exact d_setItem hu I3 g ry rv fun s4 I4 => ⟨σ, H4, I4, q3⟩
theorem ps_daug {op : Operator} {rd : V → V → Hp → VK → Prop} (hu : X.A.units + 1 < cLine) (ho : PE X o td) (hi : PE X i ty) (hv : PE X value tv) (hop : InOp X op rd)
    (ha : ∀ ov iv new, augStore i ov iv new = (do holding [new, ov, iv] (setItem ov iv new); release [new, ov, iv] []; pure .next)) : PS X (.AugAssign (.Subscript o i tpos) op value pos) (sDAug td ty tv rd) := by
  intro pins s σ H D I h
  refine wpAny_AugAssign_SubscriptAny (thn (ho pins s σ H _ I h) fun u s1 ⟨x, H1, I1, rx, q1⟩ => thn (hi pins s1 σ H1 _ I1 q1) fun iv s2 ⟨y, H2, I2, ry, a, v, ex, g, q2⟩ => ?_) ha
  subst ex
  obtain rfl : u = Value.ref a := rx
  refine d_getItem hu I2 g ry fun w' s3 I3 rw' => thn (hv pins s3 σ H2 _ I3 q2) fun w2 s4 ⟨y2, H3, I4, ry2, q3⟩ => thn (hop pins s4 σ H3 v y2 w' w2 _ I4 rw' ry2 q3) fun w3 s5 ⟨z, H4, I5, rz, H5, g5, q4⟩ => ?_
  exact d_setItem hu I5 g5 ry rz fun s6 I6 => ⟨σ, H5, I6, q4⟩
end


/-! ### displays -/
theorem dk_empty {P : Program} {w : World} {H : Hp} (h : Heap) (hb : sysModules < h.objs.size) : ObjOk P w H (h.push { cls := .type "dict", data := .dict #[] }) h.objs.size (.dK []) :=
  ⟨Nat.zero_le _, beq_eq_false_iff_ne.mpr (Ne.symm (Nat.ne_of_lt hb)), [], .nil, Heap.DictOf.new h⟩
/-- {}, to be a dict of the kind that is wanted -/
def tDNewK : TE := fun _ H Q => ∀ p, H p = none → Q (.ref p) (upd H p (.dK []))
def tDNewT : TE := fun _ H Q => ∀ p, H p = none → Q (.ref p) (upd H p (.dT []))
section
variable {X : Cx} {pos : Pos}
theorem pe_dnewK : PE X (.Dict [] [] pos) tDNewK := fun pins s σ H Q I h =>
  wpAny_Dict_empty ⟨.ref s.heap.objs.size, _, I.laid (a := s.heap.objs.size) (o := .dK []) (t' := s.toks) (fun _ _ q => Heap.get?_push_of_some _ q) (Nat.le_refl _) (dk_empty s.heap I.big), rfl, h _ (I.hok.fresh (Nat.le_refl _))⟩
end

/-- the pairs of a display, from the left -/
def tPairs : List (TE × TE) → St → Hp → (List (V × V) → Hp → Prop) → Prop
  | [], _, H, Q => Q [] H
  | (tk, tv) :: r, σ, H, Q => tk σ H fun x H1 => tv σ H1 fun y H2 => tPairs r σ H2 fun ps H3 => Q ((x, y) :: ps) H3
abbrev VV : List (V × V) → List (Value × Value) → Prop := Paired fun p q => RelV p.1 q.1 ∧ RelV p.2 q.2
def PPs (X : Cx) (pos : Pos) (keys : List (Option Expr)) (values : List Expr) (trs : List (TE × TE)) : Prop :=
  ∀ (pins : List (Addr × Obj)) (s : Shared) (σ : St) (H : Hp) (Q : List (V × V) → Hp → Prop), Inv X pins σ H s → tPairs trs σ H Q →
    wpAny (model X.prog X.w) X.A (evalPairs (pairTrees keys values X.env pos)) (fun vs s' => ∃ ps H', Inv X pins σ H' s' ∧ VV ps vs ∧ Q ps H') X.xe s
theorem pps_nil {X : Cx} {pos : Pos} : PPs X pos [] [] [] := fun pins s σ H Q I h => pairTrees_nil_walk ⟨[], H, I, .nil, h⟩
theorem pps_cons {X : Cx} {pos : Pos} {k v : Expr} {ks : List (Option Expr)} {vs : List Expr} {tk tv : TE} {trs : List (TE × TE)} (hk : PE X k tk) (hv : PE X v tv) (hr : PPs X pos ks vs trs) :
    PPs X pos (some k :: ks) (v :: vs) ((tk, tv) :: trs) := fun pins s σ H Q I h =>
  pairTrees_cons_walk (thn (hk pins s σ H _ I h) fun u s1 ⟨x, H1, I1, rx, q1⟩ => thn (hv pins s1 σ H1 _ I1 q1) fun w2 s2 ⟨y, H2, I2, ry, q2⟩ =>
    thn (hr pins s2 σ H2 _ I2 q2) fun ws s3 ⟨ps, H3, I3, rel, q3⟩ => ⟨(x, y) :: ps, H3, I3, .cons ⟨rx, ry⟩ rel, q3⟩)

def mergeK (kvs more : List (Key × V)) : List (Key × V) := more.foldl (fun acc kv => putK acc kv.1 kv.2) kvs
theorem KV.merge : ∀ {more : List (Key × V)} {rs : List (Key × Value)} {kvs : List (Key × V)} {vs : List (Key × Value)}, KV more rs → KV kvs vs → KV (mergeK kvs more) (merged vs rs) := by
  intro more rs kvs vs r
  unfold KV at r
  induction r generalizing kvs vs with
  | nil => intro q; exact q
  | @cons p q ps qs h t ih =>
    intro r0
    have e : KV (putK kvs p.1 p.2) (stored vs q.1 q.2) := by
      have := r0.put p.1 h.2
      rw [← h.1]; exact this
    exact ih e
theorem length_mergeK : ∀ (more kvs : List (Key × V)), (mergeK kvs more).length ≤ kvs.length + more.length
  | [], kvs => by show kvs.length ≤ kvs.length + 0; omega
  | p :: r, kvs => by
    have h1 := length_mergeK r (putK kvs p.1 p.2)
    have h2 := length_putK kvs p.1 p.2
    show (mergeK (putK kvs p.1 p.2) r).length ≤ _
    rw [List.length_cons]; omega
theorem carries_of {P : Program} {w : World} : ∀ {kvs : List (Key × V)} {ws : List (Value × Value)}, VV (kvs.map fun kv => (kV kv.1, kv.2)) ws → ∃ rs, Carries (mixKind P w) ws rs ∧ KV kvs rs
  | [], _, r => by rw [List.map_nil] at r; cases r; exact ⟨[], True.intro, .nil⟩
  | p :: kvs, _, r => by
    rw [List.map_cons] at r
    cases r with
    | @cons a b as bs h t =>
      obtain ⟨rs, c, q⟩ := carries_of (P := P) (w := w) t
      obtain ⟨b1, b2⟩ := b
      exact ⟨(p.1, b2) :: rs, ⟨kV_is h.1, rfl, c⟩, .cons ⟨rfl, h.2⟩ q⟩
/-- {k: v, ..} with keys ints and texts; the new dict stands empty while the pairs are made -/
def tDisp (trs : List (TE × TE)) : TE := fun σ H Q => ∀ p, H p = none → tPairs trs σ (upd H p (.dK [])) fun ps H2 => H2 p = some (.dK []) ∧ ∃ kvs : List (Key × V), ps = kvs.map (fun kv => (kV kv.1, kv.2)) ∧ kvs.length ≤ 15 ∧ Q (.ref p) (upd H2 p (.dK (mergeK [] kvs)))
theorem pe_disp {X : Cx} {pos : Pos} {keys : List (Option Expr)} {values : List Expr} {trs : List (TE × TE)} (h : PPs X pos keys values trs) (hall : keys.all (·.isSome) = true) (hl : keys.length = values.length) (h0 : keys ≠ [])
    (h15 : keys.length ≤ 15) : PE X (.Dict keys values pos) (tDisp trs) := by
  intro pins s σ H Q I q
  have hn := I.hok.fresh (Nat.le_refl s.heap.objs.size)
  have I1 := I.laid (a := s.heap.objs.size) (o := .dK []) (h' := s.heap.push { cls := .type "dict", data := .dict #[] }) (t' := s.toks) (fun _ _ q => Heap.get?_push_of_some _ q) (Nat.le_refl _) (dk_empty s.heap I.big)
  refine wpAny_Dict_walk (knd := mixKind X.prog X.w) hall hl h0 h15 (thn (h pins _ σ _ _ I1 (q _ hn)) fun ws s2 ⟨ps, H2, I2, rel, e, kvs, ep, lk, q2⟩ => ?_)
  subst ep
  obtain ⟨rs, c, rk⟩ := carries_of (P := X.prog) (w := X.w) rel
  obtain ⟨z, hd, vs0, r0, dd⟩ := dk_of I2.hok e
  cases r0
  refine ⟨rs, c, dd, fun h' dd' hs => ⟨.ref s.heap.objs.size, _, ?_, rfl, q2⟩⟩
  have hz : (mergeK [] kvs).length ≤ sizeLine := by
    have h1 := length_mergeK kvs []
    rw [List.length_nil] at h1
    rw [sizeLine_eq]; omega
  have he : ∃ q, h'.get? s.heap.objs.size = some q := let ⟨q, _, _, hq, _⟩ := dd'; ⟨q, hq⟩
  exact d_write I2 (by rw [e]; exact True.intro) hs he (dk_new hz hd (rk.merge .nil) dd')


/-! ### methods -/
/-- a method call o.m(e) of a built-in, with one argument: what must be seen of the text -/
structure M1 (X : Cx) (o : Expr) (m : Str) (apos : Pos) (e : Expr) (cpos : Pos) : Prop where
  base : attributeBase o m X.env (eval o X.env) = eval o X.env
  few : ((backTo cpos (starEach [e] X.env)).all (fun x => !x.1) && (backToKw cpos (keywordEach [] X.env)).all (fun x => x.1.isSome)
    && decide (([e] : List Expr).length + ([] : List Keyword).length + (if ([] : List Keyword).isEmpty then 0 else 1) < 30)) = true
  line : (apos.endLine == cpos.line) = true
  trees : backTo cpos (starEach [e] X.env) = [(false, eval e X.env)]
structure M2 (X : Cx) (o : Expr) (m : Str) (apos : Pos) (e f : Expr) (cpos : Pos) : Prop where
  base : attributeBase o m X.env (eval o X.env) = eval o X.env
  few : ((backTo cpos (starEach [e, f] X.env)).all (fun x => !x.1) && (backToKw cpos (keywordEach [] X.env)).all (fun x => x.1.isSome)
    && decide (([e, f] : List Expr).length + ([] : List Keyword).length + (if ([] : List Keyword).isEmpty then 0 else 1) < 30)) = true
  line : (apos.endLine == cpos.line) = true
  trees : backTo cpos (starEach [e, f] X.env) = [(false, eval e X.env), (false, eval f X.env)]

/-- a is a dict, whatever its keys -/
def IsD (H : Hp) (a : Addr) : Prop := (∃ kvs, Rd H a (.dK kvs)) ∨ ∃ kvs, Rd H a (.dT kvs)
theorem isD_at {X : Cx} {pins : List (Addr × Obj)} {σ : St} {H : Hp} {s : Shared} {a : Addr} (I : Inv X pins σ H s) (d : IsD H a) :
    s.TypeIs (.ref a) "dict" ∧ (∀ b, Value.ref a = .ref b → ∃ ob, s.heap.get? b = some ob ∧ ob.dict = none) ∧ (a == sysModules) = false := by
  rcases d with ⟨kvs, e⟩ | ⟨kvs, e⟩
  · obtain ⟨_, hd, vs, _, dd⟩ := dk_rd I.hok e
    refine ⟨dd.typeIs, fun b q => ?_, hd⟩
    cases q
    obtain ⟨ob, _, _, h1, h2, _⟩ := dd
    exact ⟨ob, h1, h2.2.1⟩
  · obtain ⟨_, hd, xs, _, dd⟩ := dt_rd I.hok e
    refine ⟨dd.typeIs, fun b q => ?_, hd⟩
    cases q
    obtain ⟨ob, _, _, h1, h2, _⟩ := dd
    exact ⟨ob, h1, h2.2.1⟩

section
variable {X : Cx} {pins : List (Addr × Obj)} {σ : St} {H : Hp} {s : Shared} {a : Addr} {y d : V} {u r : Value} {o : Option V} {A : Around} {E : Value → Shared → Prop}
/-- d.get(y, x) -/
theorem d_get2 {Q : Value → Shared → Prop} (hu : A.units + 1 < cLine) (I : Inv X pins σ H s) (g : DGet H a y o) (ry : RelV y u) (rd : RelV d r) (h : ∀ w' s', Inv X pins σ H s' → RelV (o.getD d) w' → Q w' s') :
    wpAny (model X.prog X.w) A (call (.builtin "dict.get") [.ref a, u, r]) Q E s := by
  rcases g with ⟨kvs, k, e, ey, l⟩ | ⟨kvs, k, b, e, ey, eb, l⟩
  · subst ey
    obtain ⟨z, hd, vs, rel, dd⟩ := dk_rd I.hok e
    refine call_meetsIn PySem.F.slot_dict_get dd.typeIs PySem.F.entry_dict_get (PySem.F.args_dict_get_3 _ _ _) (meets_dict_get_default (mixKind X.prog X.w) a (kV_is ry) hd r) ⟨_, dd.mapOf, h _ _ (I.tok _) ?_⟩
    rw [l]
    exact (rel.val k).getD rd
  · subst ey
    cases (show u = Value.ref b from ry)
    obtain ⟨z, hd, xs, rel, dd⟩ := dt_rd I.hok e
    refine call_meetsIn PySem.F.slot_dict_get dd.typeIs PySem.F.entry_dict_get (PySem.F.args_dict_get_3 _ _ _) (meetsH_dict_get_default (tupleKind (mixKind X.prog X.w)) a b hd r) ⟨tupleKind_room_in1 hu, k, xs, key_of I.hok eb, dd, h _ _ (I.tok _) ?_⟩
    rw [l]
    exact (rel.val k).getD rd
end

def tDGet1 (td ty : TE) : TE := fun σ H Q => td σ H fun x H1 => ∃ a, x = .ref a ∧ IsD H1 a ∧ ty σ H1 fun y H2 => ∃ o, DGet H2 a y o ∧ Q (o.getD .non) H2
def tDGet2 (td ty tx : TE) : TE := fun σ H Q => td σ H fun x H1 => ∃ a, x = .ref a ∧ IsD H1 a ∧ ty σ H1 fun y H2 => tx σ H2 fun z H3 => ∃ o, DGet H3 a y o ∧ Q (o.getD z) H3
/-- d.pop(k): there; d.pop(k, x): there or not -/
def tDPop1 (td ty : TE) : TE := fun σ H Q => td σ H fun x H1 => ∃ a, x = .ref a ∧ IsD H1 a ∧ ty σ H1 fun y H2 => ∃ kvs k v, H2 a = some (.dK kvs) ∧ y = kV k ∧ valV kvs k = some v ∧ Q v (upd H2 a (.dK (dropK kvs k)))
def tDPop2 (td ty tx : TE) : TE := fun σ H Q => td σ H fun x H1 => ∃ a, x = .ref a ∧ IsD H1 a ∧ ty σ H1 fun y H2 => tx σ H2 fun z H3 => ∃ kvs k, H3 a = some (.dK kvs) ∧ y = kV k ∧
  (∀ v, valV kvs k = some v → Q v (upd H3 a (.dK (dropK kvs k)))) ∧ (valV kvs k = none → Q z H3)
section
variable {X : Cx} {o e f : Expr} {apos cpos : Pos} {td ty tx : TE}
theorem pe_dget2 (hu : X.A.units + 1 < cLine) (ho : PE X o td) (he : PE X e ty) (hf : PE X f tx) (m : M2 X o "get" apos e f cpos) : PE X (.Call (.Attribute o "get" apos) [e, f] [] cpos) (tDGet2 td ty tx) := by
  intro pins s σ H Q I h
  refine wpAny_Call_method m.base m.few m.line PySem.F.plainAttrs_dict PySem.F.slot_dict_get PySem.F.type_dict_get (thn (ho pins s σ H _ I h) fun u s1 ⟨x, H1, I1, rx, a, ex, d, q1⟩ => ?_)
  subst ex
  obtain rfl : u = Value.ref a := rx
  obtain ⟨t1, t2, _⟩ := isD_at I1 d
  refine ⟨t1, t2, ?_⟩
  rw [m.trees]
  refine Calls.callWith_builtin rfl (Calls.evalArgs_plain (Calls.spliced_cons (thn (he pins s1 σ H1 _ I1 q1) fun iv s2 ⟨y, H2, I2, ry, q2⟩ =>
    Calls.spliced_cons (thn (hf pins s2 σ H2 _ I2 q2) fun fv s3 ⟨z, H3, I3, rz, ov, g, q3⟩ => Calls.spliced_nil ?_))))
  exact d_get2 hu I3 g ry rz fun w' s4 I4 rw' => ⟨_, H3, I4, rw', q3⟩
theorem pe_dpop1 (ho : PE X o td) (he : PE X e ty) (m : M1 X o "pop" apos e cpos) : PE X (.Call (.Attribute o "pop" apos) [e] [] cpos) (tDPop1 td ty) := by
  intro pins s σ H Q I h
  refine wpAny_Call_method m.base m.few m.line PySem.F.plainAttrs_dict PySem.F.slot_dict_pop PySem.F.type_dict_pop (thn (ho pins s σ H _ I h) fun u s1 ⟨x, H1, I1, rx, a, ex, d, q1⟩ => ?_)
  subst ex
  obtain rfl : u = Value.ref a := rx
  obtain ⟨t1, t2, _⟩ := isD_at I1 d
  refine ⟨t1, t2, ?_⟩
  rw [m.trees]
  refine Calls.callWith_builtin rfl (Calls.evalArgs_plain (Calls.spliced_cons (thn (he pins s1 σ H1 _ I1 q1) fun iv s2 ⟨y, H2, I2, ry, kvs, k, v, ea, ey, l, q2⟩ => Calls.spliced_nil ?_)))
  subst ey
  exact d_pop I2 ea ry l (.inl rfl) fun w' s3 I3 rw' => ⟨v, _, I3, rw', q2⟩
end

/-! ### dict(d): a copy -/
section
variable {X : Cx} {pins : List (Addr × Obj)} {σ : St} {H : Hp} {s : Shared} {a : Addr} {kvs : List (Key × V)} {A : Around} {E : Value → Shared → Prop}
theorem d_copyOf {Q : Value → Shared → Prop} (I : Inv X pins σ H s) (e : Rd H a (.dK kvs)) (h : ∀ p s', H p = none → Inv X pins σ (upd H p (.dK kvs)) s' → Q (.ref p) s') : wpAny (model X.prog X.w) A (call (.type "dict") [.ref a]) Q E s := by
  obtain ⟨z, hd, vs, rel, dd⟩ := dk_rd I.hok e
  refine kt_call_dict hd dd (by rw [← rel.length]; exact z) fun h' dd' hs => ?_
  refine h _ _ (I.hok.fresh (Nat.le_refl _)) (I.laid (a := s.heap.objs.size) (o := .dK kvs) (t' := s.toks) (fun b q hq => ?_) (Nat.le_refl _) (dk_new z (beq_eq_false_iff_ne.mpr (Ne.symm (Nat.ne_of_lt I.big))) rel dd'))
  exact (hs.2 b (Nat.ne_of_lt (Heap.lt_size hq))).trans (Heap.get?_push_of_some _ hq)
end


section
variable {X : Cx} {pins : List (Addr × Obj)} {σ : St} {H : Hp} {s : Shared} {a : Addr} {y : V} {u : Value} {A : Around} {E : Value → Shared → Prop}
end
end L2

namespace L2
open PySem PySem.Spec PyProof.Rows
section
variable {X : Cx}
/-- len of a dict -/
theorem call_lenD : CallR X (.builtin "len") (fun xs H Q => ∃ a kvs, xs = [V.ref a] ∧ H a = some (.dK kvs) ∧ Q (.int kvs.length) H) := by
  intro pins s σ H xs us Q I r h
  obtain ⟨a, kvs, rfl, ha, q⟩ := h
  obtain ⟨u, rfl, ru⟩ := vals1 r
  cases ru
  exact d_len I (.inl ha) fun t s' I' => ⟨.int kvs.length, H, I', ⟨t, rfl⟩, q⟩
end
/-! ### a dict's pairs: keys that differ -/
section
variable {κ : Type} [DecidableEq κ]
theorem nd_snoc : ∀ {l : List κ} {k : κ}, l.Nodup → ¬ k ∈ l → (l ++ [k]).Nodup
  | [], k, _, _ => by simp
  | a :: r, k, h, hk => by
    obtain ⟨h1, h2⟩ := List.nodup_cons.mp h
    show (a :: (r ++ [k])).Nodup
    refine List.nodup_cons.mpr ⟨fun m => ?_, nd_snoc h2 fun m => hk (List.mem_cons.mpr (Or.inr m))⟩
    rcases List.mem_append.mp m with q | q
    · exact h1 q
    · exact hk (List.mem_cons.mpr (Or.inl (List.mem_singleton.mp q).symm))
end
end L2

namespace Blk
open PySem
/-- parts joined by a blank -/
def J : List (List Nat) → List Nat
  | [] => []
  | [x] => x
  | x :: y :: r => x ++ 32 :: J (y :: r)
/-- cut at blanks -/
def C : List Nat → List (List Nat)
  | [] => [[]]
  | c :: r => if c = 32 then [] :: C r else match C r with
    | [] => [[c]]
    | p :: ps => (c :: p) :: ps
theorem C_free : ∀ (x : List Nat), 32 ∉ x → C x = [x]
  | [], _ => rfl
  | c :: r, h => by
    have h1 : ¬ c = 32 := fun e => h (by rw [e]; exact List.mem_cons_self)
    have ih := C_free r fun m => h (List.mem_cons_of_mem _ m)
    show (if c = 32 then _ else _) = _
    rw [if_neg h1, ih]
theorem C_app : ∀ (x r : List Nat), 32 ∉ x → C (x ++ 32 :: r) = x :: C r
  | [], r, _ => by
    show (if 32 = 32 then _ else _) = _
    rw [if_pos rfl]
  | c :: x, r, h => by
    have h1 : ¬ c = 32 := fun e => h (by rw [e]; exact List.mem_cons_self)
    have ih := C_app x r fun m => h (List.mem_cons_of_mem _ m)
    show (if c = 32 then _ else match C (x ++ 32 :: r) with | [] => [[c]] | p :: ps => (c :: p) :: ps) = _
    rw [if_neg h1, ih]
theorem C_J : ∀ (ps : List (List Nat)), ps ≠ [] → (∀ p ∈ ps, 32 ∉ p) → C (J ps) = ps
  | [], h, _ => absurd rfl h
  | [x], _, h => C_free x (h x List.mem_cons_self)
  | x :: y :: r, _, h => by
    show C (x ++ 32 :: J (y :: r)) = _
    rw [C_app x _ (h x List.mem_cons_self), C_J (y :: r) (by intro e; cases e) fun p hp => h p (List.mem_cons_of_mem _ hp)]
theorem J_snoc : ∀ (ws : List (List Nat)) (w : List Nat), J (ws ++ [w]) = (ws.map (· ++ [32])).flatten ++ w
  | [], w => rfl
  | [x], w => by
    show x ++ 32 :: w = _
    simp
  | x :: y :: r, w => by
    have ih := J_snoc (y :: r) w
    show x ++ 32 :: J (y :: r ++ [w]) = _
    rw [ih]
    simp
/-- texts by their signs -/
def sg (x : Str) : List Nat := x.cps.toList
theorem sg_inj {x y : Str} (h : sg x = sg y) : x = y := by
  obtain ⟨a⟩ := x
  obtain ⟨b⟩ := y
  have e : a.toList = b.toList := h
  rw [Array.toList_inj.mp e]
theorem sg_app (x y : Str) : sg (x ++ y) = sg x ++ sg y := Array.toList_append ..
theorem map_sg_inj : ∀ {a b : List Str}, a.map sg = b.map sg → a = b
  | [], [], _ => rfl
  | [], _ :: _, h => by cases h
  | _ :: _, [], h => by cases h
  | x :: a, y :: b, h => by
    have e := List.cons.inj h
    rw [sg_inj e.1, map_sg_inj e.2]
theorem J_join : ∀ ps : List Str, ps ≠ [] → sg (Str.join ⟨#[32]⟩ ps) = J (ps.map sg)
  | [], h => absurd rfl h
  | [x], _ => rfl
  | x :: y :: r, _ => by
    have ih := J_join (y :: r) (by intro e; cases e)
    show sg (x ++ ⟨#[32]⟩ ++ Str.join ⟨#[32]⟩ (y :: r)) = sg x ++ 32 :: J ((y :: r).map sg)
    rw [sg_app, sg_app, ih]
    show sg x ++ [32] ++ _ = _
    rw [List.append_assoc] <;> rfl
/-- two ways to part one text at its blanks are one -/
theorem part_unique {z : Str} {a b : List Str} (ha : a ≠ []) (hb : b ≠ []) (fa : ∀ p ∈ a, 32 ∉ sg p) (fb : ∀ p ∈ b, 32 ∉ sg p) (ja : J (a.map sg) = sg z) (jb : J (b.map sg) = sg z) : a = b := by
  have h1 := C_J (a.map sg) (by simpa using ha) (by intro p hp; obtain ⟨q, hq, rfl⟩ := List.mem_map.mp hp; exact fa q hq)
  have h2 := C_J (b.map sg) (by simpa using hb) (by intro p hp; obtain ⟨q, hq, rfl⟩ := List.mem_map.mp hp; exact fb q hq)
  rw [ja] at h1
  rw [jb] at h2
  exact map_sg_inj (h1.symm.trans h2)
/-- what holds between two turns of the parting loop: the parts that are done, the one under way -/
structure Parts (pre : List Nat) (ws : List Str) (w : Str) : Prop where
  free : ∀ p ∈ ws ++ [w], 32 ∉ sg p
  join : ((ws.map sg).map (· ++ [32])).flatten ++ sg w = pre
  many : ws.length ≤ pre.length
  len : w.length ≤ pre.length
theorem Parts.start : Parts [] [] ⟨#[]⟩ := by
  refine ⟨?_, rfl, Nat.le_refl _, Nat.le_refl _⟩
  intro p hp
  rw [List.mem_singleton.mp hp]
  intro h
  cases h
theorem Parts.blank {pre : List Nat} {ws : List Str} {w : Str} (P : Parts pre ws w) : Parts (pre ++ [32]) (ws ++ [w]) ⟨#[]⟩ := by
  refine ⟨?_, ?_, ?_, Nat.zero_le _⟩
  · intro p hp
    rcases List.mem_append.mp hp with h | h
    · exact P.free p h
    · rw [List.mem_singleton.mp h]
      intro h
      cases h
  · rw [← P.join]
    simp [sg]
  · have := P.many
    simp only [List.length_append, List.length_singleton]
    omega
theorem Parts.sign {pre : List Nat} {ws : List Str} {w : Str} {c : Nat} (P : Parts pre ws w) (h : c ≠ 32) : Parts (pre ++ [c]) ws (w ++ ⟨#[c]⟩) := by
  have e : sg (w ++ ⟨#[c]⟩) = sg w ++ [c] := sg_app ..
  refine ⟨?_, ?_, ?_, ?_⟩
  · intro p hp
    rcases List.mem_append.mp hp with q | q
    · exact P.free p (List.mem_append_left _ q)
    · rw [List.mem_singleton.mp q, e]
      intro m
      rcases List.mem_append.mp m with m | m
      · exact P.free w (List.mem_append_right _ (List.mem_singleton.mpr rfl)) m
      · exact h (List.mem_singleton.mp m).symm
  · rw [← P.join, e, List.append_assoc]
  · have := P.many
    simp only [List.length_append, List.length_singleton]
    omega
  · have := P.len
    have e2 := congrArg List.length e
    simp only [List.length_append, List.length_singleton] at e2 ⊢
    have e3 : (sg (w ++ ⟨#[c]⟩)).length = (w ++ ⟨#[c]⟩ : Str).length := by simp [sg, Str.length]
    have e4 : (sg w).length = w.length := by simp [sg, Str.length]
    omega
theorem Parts.done {z : Str} {ws : List Str} {w : Str} (P : Parts (sg z) ws w) {b : List Str} (hb : b ≠ []) (fb : ∀ p ∈ b, 32 ∉ sg p) (jb : Str.join ⟨#[32]⟩ b = z) : ws ++ [w] = b := by
  refine part_unique (z := z) (by simp) hb P.free fb ?_ ?_
  · rw [List.map_append, List.map_singleton, J_snoc]
    exact P.join
  · rw [← J_join b hb, jb]
end Blk

namespace L2
open PySem PySem.Spec PyProof.Rows
theorem small {n : Nat} (h : n ≤ 1000) : n ≤ sizeLine := Nat.le_of_lt (small1000 h)
theorem len_toList (z : Str) : z.cps.toList.length = z.length := by simp [Str.length]
theorem at_in {α : Type} {xs : List α} {i : Int} (h0 : 0 ≤ i) (h1 : i < (xs.length : Int)) : ∃ v, xs[i.toNat]? = some v ∧ atI xs i = some v := by
  have hk : i.toNat < xs.length := by omega
  have q : atI xs ((i.toNat : Nat) : Int) = some xs[i.toNat] := atI_nat (List.getElem?_eq_getElem hk)
  have e : ((i.toNat : Nat) : Int) = i := by omega
  rw [e] at q
  exact ⟨_, List.getElem?_eq_getElem hk, q⟩
theorem bt_list : bootBuiltins "list" = some (.type "list") := by decide +kernel
theorem bt_bool : bootBuiltins "bool" = some (.type "bool") := by decide +kernel
theorem bt_int : bootBuiltins "int" = some (.type "int") := by decide +kernel
theorem bt_isi : bootBuiltins "isinstance" = some (.builtin "isinstance") := by decide +kernel
theorem rel_ty (n : String) : RelV (.ty n) (.type n) := rfl
theorem rel_str (x : Str) (t : Tok) : RelV (.str x) (.str x t) := ⟨t, rfl⟩
/-! ### a text walked sign by sign -/
def Itx (z : Str) : It := ⟨fun i _ => i < z.cps.size, fun i H x H' => H' = H ∧ ∃ c, z.cps[i]? = some c ∧ x = .str ⟨#[c]⟩, fun i _ => i = z.cps.size⟩
section
variable {X : Cx} {tg : Expr}
def iStr (tl : TE) : TI := fun σ H R => tl σ H fun x H1 => ∃ z, x = .str z ∧ R (Itx z) H1
end
section
variable {X : Cx}
/-! ### a sign of a text, at a place that lies in it -/
def rIxSA : R2 := fun x y H Q => ∃ z i, x = .str z ∧ y = .int i ∧ z.length ≤ sizeLine ∧ 0 ≤ i ∧ i < ((z.length : Nat) : Int) ∧ ∀ c, z.cps.toList[i.toNat]? = some c → Q (.str ⟨#[c]⟩) H
theorem ix_strA : IxR X rIxSA := by
  intro value slice pins s σ H x y v u Q I rx ry h hs
  obtain ⟨z, i, rfl, rfl, hz, h0, h1, q⟩ := h
  obtain ⟨c, e1, e2⟩ := at_in (xs := z.cps.toList) h0 (by rw [len_toList]; exact h1)
  exact ix_str value slice pins s σ H _ _ v u Q I rx ry ⟨z, i, c, rfl, rfl, hz, e2, q c e1⟩ hs
/-! ### isinstance(x, a built-in class) -/
def rIsi (K : PySem.W.Frag) : List V → Hp → VK → Prop := fun xs H Q => ∃ x n t b, xs = [x, .ty n] ∧ TyOf K H x t ∧ PySem.W.kitOne K t (.type n) = some b ∧ Q (.bl b) H
theorem call_isi : CallR X (.builtin "isinstance") (rIsi X.K) := by
  intro pins s σ H xs us Q I r h
  obtain ⟨x, n, t, b, rfl, ty, e, q⟩ := h
  obtain ⟨u, w', rfl, r1, r2⟩ := vals2 r
  cases (show w' = Value.type n from r2)
  exact isinst_ok I r1 ty e fun tk => ⟨.bl b, H, I.tok tk, rfl, q⟩
theorem kit_same {K : PySem.W.Frag} (n : String) : PySem.W.kitOne K (.type n) (.type n) = some true := by
  unfold PySem.W.kitOne
  rw [if_pos (beq_self_eq_true _)]
/-! ### lists of flat things: == and != -/
def eqVs (xs ys : List V) : Bool := xs.length == ys.length && (List.range xs.length).all fun j => eqV (xs.getD j .non) (ys.getD j .non)
theorem vals_at {xs : List V} {us : List Value} (r : Vals xs us) (j : Nat) (h : j < us.toArray.size) : RelV (xs.getD j .non) (us.toArray[j]) := by
  have hl := r.length
  have h' : j < us.length := by simpa using h
  have h2 : j < xs.length := by omega
  obtain ⟨u, e1, e2⟩ := r.get (List.getElem?_eq_getElem h2)
  rw [List.getD_eq_getElem?_getD, List.getElem?_eq_getElem h2]
  have e3 : us.toArray[j] = u := by
    rw [List.getElem?_eq_getElem h'] at e1
    simpa using Option.some.inj e1
  rw [e3]
  exact e2
def rEqL (K : PySem.W.Frag) (neg : Bool) : R2 := fun x y H Q => ∃ p q xs ys, x = .ref p ∧ y = .ref q ∧ SqL K H p xs ∧ SqL K H q ys ∧ xs.all flatV = true ∧ ys.all flatV = true ∧ Q (.bl (if neg then !eqVs xs ys else eqVs xs ys)) H
theorem eqV_refl {x : V} (f : flatV x = true) : eqV x x = true := by
  cases x with
  | non => rfl
  | bl b => exact beq_self_eq_true b
  | int i => exact beq_self_eq_true i
  | str z => exact beq_self_eq_true z
  | _ => exact absurd (show false = true from f) Bool.false_ne_true
/-! ### x.split(y) -/
def rSplit : V → List V → Hp → VK → Prop := fun x vs H Q => ∃ z y, x = .str z ∧ vs = [.str y] ∧ (y.length == 0) = false ∧ z.length + 2 ≤ sizeLine ∧ ∀ p, H p = none → Q (.ref p) (upd H p (.lst ((Txt.split z y).map V.str)))
end
/-! ### heaps -/
theorem same_new {H : Hp} {p : Addr} (h : H p = none) (o : HO) : Same H (upd H p o) := fun b u q => by rw [upd_ne (ne_of_none q h)]; exact q
theorem same_on {H H' : Hp} {p : Addr} (h : H p = none) (e : Same H H') (o : HO) : Same H (upd H' p o) := fun b u q => by rw [upd_ne (ne_of_none q h)]; exact e b u q
end L2

namespace L2
open PySem PySem.Spec PyProof.Rows
/-! ### the cells that a comprehension's block takes along -/
def closOf (cells : List (Str × Addr)) : List (Str × NameKind) → List (Str × Addr) → List (Str × Addr)
  | [], acc => acc
  | (n, k) :: r, acc => closOf cells r (if (k == .free) = true then (n, (cells.lookup n).getD 0) :: acc else acc)
theorem closureFor_of {scope : Scope} {env : Env} (h : ∀ p ∈ scope.names, p.2 = .free → (env.cells.lookup p.1).isSome = true) : closureFor scope env = pure (closOf env.cells scope.names []) := by
  obtain ⟨kd, names, g1, g2, more⟩ := scope
  simp only [closureFor]
  dsimp only at h ⊢
  generalize ([] : List (Str × Addr)) = acc
  induction names generalizing acc with
  | nil => rfl
  | cons p r ih =>
    obtain ⟨n, k⟩ := p
    have hr : ∀ p ∈ r, p.2 = .free → (env.cells.lookup p.1).isSome = true := fun p hp => h p (List.mem_cons_of_mem _ hp)
    have ih' := ih hr
    simp only [closOf]
    by_cases hk : k = .free
    · subst hk
      obtain ⟨c, hc⟩ := Option.isSome_iff_exists.mp (h (n, .free) List.mem_cons_self rfl)
      have hc' : List.lookup n env.cells = some c := hc
      rw [show (NameKind.free == NameKind.free) = true from rfl, if_pos rfl, hc']
      have e : cellOf env n = pure c := by unfold cellOf; rw [hc']
      have q := ih' ((n, c) :: acc)
      simp only [List.forIn_cons, beq_self_eq_true, if_true, e, pure_bind, Option.getD_some]
      exact q
    · have hb : (k == NameKind.free) = false := by simpa using hk
      have q := ih' acc
      simp only [List.forIn_cons, hb, Bool.false_eq_true, if_false, pure_bind]
      exact q
theorem closOf_in {cells : List (Str × Addr)} {y : Str} {c : Addr} : ∀ (names : List (Str × NameKind)) (acc : List (Str × Addr)), (∀ p ∈ names, p.2 = .free → (cells.lookup p.1).isSome = true) →
    (∀ y c, acc.lookup y = some c → cells.lookup y = some c) → (closOf cells names acc).lookup y = some c → cells.lookup y = some c
  | [], _, _, ha, h => ha _ _ h
  | (n, k) :: r, acc, hn, ha, h => by
    refine closOf_in r _ (fun p hp => hn p (List.mem_cons_of_mem _ hp)) (fun y c hy => ?_) h
    by_cases hk : (k == NameKind.free) = true
    · rw [if_pos hk] at hy
      rw [List.lookup_cons] at hy
      by_cases e : (y == n) = true
      · rw [e] at hy
        obtain ⟨d, hd⟩ := Option.isSome_iff_exists.mp (hn (n, k) List.mem_cons_self (by simpa using hk))
        have hd' : cells.lookup n = some d := hd
        have hy' : (cells.lookup n).getD 0 = c := Option.some.inj hy
        rw [hd'] at hy'
        rw [eq_of_beq e, hd']
        exact congrArg some hy'
      · rw [Bool.eq_false_iff.mpr e] at hy
        exact ha y c hy
    · rw [if_neg hk] at hy
      exact ha y c hy
theorem closOf_has {cells : List (Str × Addr)} {y : Str} : ∀ (names : List (Str × NameKind)) (acc : List (Str × Addr)), ((acc.lookup y).isSome = true ∨ (y, NameKind.free) ∈ names) → ((closOf cells names acc).lookup y).isSome = true
  | [], acc, h => h.elim id (fun z => by cases z)
  | (n, k) :: r, acc, h => by
    refine closOf_has r _ ?_
    rcases h with h | h
    · refine .inl ?_
      by_cases hk : (k == NameKind.free) = true
      · rw [if_pos hk, List.lookup_cons]
        by_cases e : (y == n) = true
        · rw [e]; rfl
        · rw [Bool.eq_false_iff.mpr e]; exact h
      · rw [if_neg hk]; exact h
    · rcases List.mem_cons.mp h with e | h
      · cases e
        refine .inl ?_
        rw [if_pos (show (NameKind.free == NameKind.free) = true from rfl), List.lookup_cons, beq_self_eq_true]
        rfl
      · exact .inr h
/-- the context of a comprehension's block -/
def compCx (X : Cx) (scope : Scope) (N' : List Str) (C : Addr) (ex : List Addr) (s₂ : Shared) (H₂ : Hp) : Cx where
  prog := X.prog
  w := X.w
  K := X.K
  mg := X.mg
  base := X.base
  A := X.A
  N := N'
  s₀ := s₂
  H₀ := H₂
  env := compEnvC scope (closOf X.env.cells scope.names []) C X.env
  outer := X.stack
  stack := X.stack
  ex := ex
  fn := fun _ => false
  calm := X.calm
  pn := []
  xe := fun _ _ => False
def FreesOk (X : Cx) (scope : Scope) : List (Str × Nat) → Prop
  | [] => True
  | p :: r => (X.N[p.2]? = some p.1 ∧ X.env.kindOf p.1 = some .cell ∧ (relabel scope X.env).names.lookup p.1 = some .cell ∧ (p.1, NameKind.free) ∈ scope.names) ∧ FreesOk X scope r
theorem FreesOk.at {X : Cx} {scope : Scope} : ∀ {fr : List (Str × Nat)}, FreesOk X scope fr → ∀ p ∈ fr, X.N[p.2]? = some p.1 ∧ X.env.kindOf p.1 = some .cell ∧ (relabel scope X.env).names.lookup p.1 = some .cell ∧ (p.1, NameKind.free) ∈ scope.names
  | [], _, p, hp => by cases hp
  | _ :: _, h, p, hp => by
    rcases List.mem_cons.mp hp with e | hp
    · rw [e]; exact h.1
    · exact FreesOk.at h.2 p hp
/-- the block's names: the loop's own, then those of the def around it -/
def inSt (frees : List (Str × Nat)) (σ : St) (x : Option V) : St := x :: frees.map fun p => (σ[p.2]?).join
/-- the tests of a clause -/
def PIfs (X : Cx) (ifs : List Expr) (t : TT) : Prop :=
  ∀ (pins : List (Addr × Obj)) (s : Shared) (σ : St) (H : Hp) (Q : Bool → Hp → Prop), Inv X pins σ H s → t σ H Q →
    wpAny (model X.prog X.w) X.A (forIn ifs true fun c r => if r = true then do let ok ← isTrue c X.env (eval c X.env); pure (ForInStep.yield ok) else pure (ForInStep.yield r)) (TP X pins σ Q) X.xe s
theorem pifs_nil {X : Cx} : PIfs X [] (fun _ H Q => Q true H) := fun _ _ _ H _ I h => wpAny_tests_nil ⟨H, I, h⟩
theorem pifs_one {X : Cx} {c : Expr} {t : TT} (h : PT X c t) : PIfs X [c] t := fun pins s σ H Q I hw => wpAny_tests_one (h pins s σ H Q I hw)
/-- what the block wants: W, by the turn, a measure, the items so far, the heap -/
def CompB (J : It) (tc : TT) (te : TE) (σf : Option V → St) (H1 : Hp) (Q : VK) : Prop := ∀ D, H1 D = none →
  ∃ W : Nat → Nat → List V → Hp → Prop, (∃ m, W 0 m [] (upd H1 D (.lst []))) ∧ ∀ i m ys H2, W i m ys H2 → H2 D = some (.lst ys) ∧
    ((J.stop i H2 ∧ Q (.ref D) H2) ∨ (J.go i H2 ∧ ys.length < sizeLine ∧ ∀ x H3, J.yld i H2 x H3 → tc (σf (some x)) H3 fun b H4 =>
      if b = true then te (σf (some x)) H4 fun y H5 => H5 D = some (.lst ys) ∧ ∃ m', m' < m ∧ W (i + 1) m' (ys ++ [y]) (upd H5 D (.lst (ys ++ [y]))) else ∃ m', m' < m ∧ W (i + 1) m' ys H4))
section
variable {prog : Program} {w : World} {A : Around} {R : Result → Shared → Prop} {s : Shared}
theorem comp_loop {elt target iter : Expr} {ifs : List Expr} {scope : Scope} {pos : Pos} {it acc : Value} {env : Env} (I : Nat → Shared → Prop)
    (turn : ∀ n s, I n s → wpAny (model prog w) A (pyNext it) (fun r s₁ => match r with
      | none => R (.ok .next) s₁
      | some v => wpAny (model prog w) A (letOwnedTupleGo target it v) (fun _ s₁' => wpAny (model prog w) A (assign target env v) (fun _ s₂ =>
          wpAny (model prog w) A (forIn ifs true fun c r => if r = true then do let ok ← isTrue c env (eval c env); pure (ForInStep.yield ok) else pure (ForInStep.yield r)) (fun ok s₃ =>
            if ok = true then wpAny (model prog w) A (eval elt env) (fun x s₄ =>
              wpAny (model prog w) A (call (.builtin "list.append") [acc, x]) (fun _ s₅ => ∃ m, m < n ∧ I m s₅) (fun _ _ => False) s₄) (fun _ _ => False) s₃
            else ∃ m, m < n ∧ I m s₃) (fun _ _ => False) s₂) (fun _ _ => False) s₁') (fun _ _ => False) s₁) (fun _ _ => False) s)
    (n : Nat) (h : I n s) :
    codeAny (model prog w) A (.compLoop (.ListComp elt [⟨target, iter, ifs, 0⟩] scope pos) 0 it acc env) R s := by
  have no : ∀ {α : Type} {t : Sem α} {Q : α → Shared → Prop} {E : Value → Shared → Prop} {s : Shared}, wpAny (model prog w) A t Q (fun _ _ => False) s → wpAny (model prog w) A t Q E s := fun h => wpAny_mono h (fun _ _ q => q) fun _ _ f => f.elim
  refine codeAny_loop rfl I (fun n s hI => ?_) n h
  show wpAny _ A ((compTurn (.ListComp elt [⟨target, iter, ifs, 0⟩] scope pos) 0 it acc env).onRaise (fun x => do noteFrame x env; theTreesLotGoes x)) _ _ s
  refine wpAny_noted ?_
  rw [compTurn_list]
  refine wpAny_bind (wpAny_standAt (wpAny_bind (wpAny_mono (turn n s hI) (fun r s₁ h₁ => ?_) fun _ _ h' => h'.elim)))
  cases r with
  | none => exact wpAny_pure h₁
  | some v =>
    refine wpAny_bind (wpAny_mono h₁ (fun _ s₁' h₁' => ?_) fun _ _ h' => h'.elim)
    refine wpAny_bind (wpAny_mono h₁' (fun _ s₂ h₂ => wpAny_bind (wpAny_mono h₂ (fun ok s₃ h₃ => ?_) fun _ _ h' => h'.elim)) fun _ _ h' => h'.elim)
    cases ok with
    | false => exact wpAny_pure ⟨rfl, h₃⟩
    | true =>
      exact wpAny_bind (wpAny_bind (wpAny_mono h₃ (fun x s₄ h₄ => wpAny_bind (wpAny_mono h₄ (fun _ s₅ h₅ => wpAny_pure (wpAny_pure ⟨rfl, h₅⟩)) fun _ _ h' => h'.elim)) fun _ _ h' => h'.elim))
end
section
variable {X : Cx} {elt iter : Expr} {x : Str} {px pos : Pos} {ifs : List Expr} {scope : Scope} {frees : List (Str × Nat)} {tc : TT} {te : TE}
/-- what the text of a comprehension must be -/
structure CompOk (X : Cx) (scope : Scope) (x : Str) (frees : List (Str × Nat)) : Prop where
  cell : ∀ y ∈ scope.names, y.2 ≠ .cell
  kind : scope.kind = .function
  own : scope.names.lookup x = some .local
  names : ∀ y ∈ scope.names, y.2 = .local → scope.names.lookup y.1 = some .local
  fr : FreesOk X scope frees
  nd : (x :: frees.map (·.1)).Nodup
  cl : ∀ p ∈ scope.names, p.2 = .free → (X.env.cells.lookup p.1).isSome = true
  calm : X.calm = true
theorem relabel_free {scope : Scope} {env : Env} {y : Str} (hc : ∀ y ∈ scope.names, y.2 ≠ .cell) (h : (relabel scope env).names.lookup y = some .cell ∨ (relabel scope env).names.lookup y = some .free) : (y, NameKind.free) ∈ scope.names := by
  have key : ∀ k, (relabel scope env).names.lookup y = some k → k ≠ .local → k = .cell ∨ k = .free → (y, NameKind.free) ∈ scope.names := fun k hk _ hkk => by
    have hm := PySem.mem_of_lookup hk
    obtain ⟨⟨n, k0⟩, hm0, e⟩ := List.mem_map.mp hm
    by_cases hcond : (k0 == NameKind.free && env.scope.kind == .function && env.kindOf n == some .cell) = true
    · have e' : (n, NameKind.cell) = (y, k) := by rw [← e]; exact (if_pos hcond).symm
      have hk0 : k0 = .free := by
        rw [Bool.and_eq_true, Bool.and_eq_true] at hcond
        exact eq_of_beq hcond.1.1
      have en : n = y := congrArg Prod.fst e'
      rw [← en, ← hk0]
      exact hm0
    · have e' : (n, k0) = (y, k) := by rw [← e]; exact (if_neg hcond).symm
      have en : n = y := congrArg Prod.fst e'
      have ek : k0 = k := congrArg Prod.snd e'
      rcases hkk with hkk | hkk
      · exact absurd (ek.trans hkk) (hc _ hm0)
      · rw [← en, ← hkk, ← ek]
        exact hm0
  rcases h with h | h
  · exact key _ h (by decide) (.inl rfl)
  · exact key _ h (by decide) (.inr rfl)
theorem comp_core {pins : List (Addr × Obj)} {σ : St} {H1 : Hp} {s₂ : Shared} {it : Addr} {fp : List Addr} {tn : Nat → Heap → Prop} {J : It} {Q : VK} {RR : Value → Addr → Result → Shared → Prop} {E : Value → Shared → Prop}
    (O : CompOk X scope x frees) (hc : ∀ C ex s₂ H₂, PIfs (compCx X scope (x :: frees.map (·.1)) C ex s₂ H₂) ifs tc) (he : ∀ C ex s₂ H₂, PE (compCx X scope (x :: frees.map (·.1)) C ex s₂ H₂) elt te)
    (I : Inv X pins σ H1 s₂) (T : Turn X.prog X.w X.K (.Name x px) J fp it tn) (st : tn 0 s₂.heap) (hf : ∀ b ∈ fp, FpOk X pins H1 b) (hB : CompB J tc te (inSt frees σ) H1 Q)
    (hRR : ∀ D C H' s', Inv X pins σ H' s' → (∃ m, s'.heap.Ns C m) → FpOk X pins H' C → Q (.ref D) H' → RR (.ref D) C (.ok .next) s') :
    wpAny (model X.prog X.w) X.A (newList []) (fun acc s₃ => wpAny (model X.prog X.w) X.A (newFunctionEnv scope X.env.globals (closOf X.env.cells scope.names []) [] X.env.qual none .none (some X.env)) (fun cenv s₄ =>
      codeAny (model X.prog X.w) X.A (.compStart (.ListComp elt [⟨.Name x px, iter, ifs, 0⟩] scope pos) 0 (.ref it) acc { cenv with scope := relabel scope X.env }) (RR acc cenv.locals) s₄) E s₃) E s₂ := by
  refine wpAny_newObj_type (wpAny_newFunctionEnv O.cell (by intro y hy; simp at hy) (fun h₁ hns₁ hsb₁ => ?_) O.kind)
  dsimp only at hns₁ hsb₁ ⊢
  generalize hH2 : s₂.heap.push { cls := .type "list", dict := none, data := .seq ([] : List Value).toArray } = H2 at hns₁ hsb₁ ⊢
  have hC : H2.objs.size = s₂.heap.objs.size + 1 := by rw [← hH2, Heap.size_push]
  have hDC : s₂.heap.objs.size ≠ H2.objs.size := by rw [hC]; exact Nat.ne_of_lt (Nat.lt_succ_self _)
  have hCle : s₂.heap.objs.size ≤ H2.objs.size := by rw [hC]; exact Nat.le_succ _
  have below : ∀ b, b < s₂.heap.objs.size → b ≠ H2.objs.size ∧ b ≠ s₂.heap.objs.size := fun b hb => ⟨by rw [hC]; exact Nat.ne_of_lt (Nat.lt_succ_of_lt hb), Nat.ne_of_lt hb⟩
  have old : ∀ b o, s₂.heap.get? b = some o → h₁.get? b = some o := fun b o e => hsb₁.extBut b o (below b (Heap.lt_size e)).1 (Heap.get?_push_of_some _ (hH2 ▸ Heap.get?_push_of_some _ e))
  have hacc : h₁.get? s₂.heap.objs.size = some { cls := .type "list", data := .seq ([] : List Value).toArray } := hsb₁.extBut _ _ hDC (Heap.get?_push_of_some _ (hH2 ▸ Heap.get?_push_size _ rfl))
  have nD : H1 s₂.heap.objs.size = none := I.hok.fresh (Nat.le_refl _)
  obtain ⟨W, ⟨m0, w0⟩, hW⟩ := hB s₂.heap.objs.size nD
  -- the block's context and its first state
  let X' : Cx := compCx X scope (x :: frees.map (·.1)) H2.objs.size fp s₂ H1
  have inC : ∀ y c, (closOf X.env.cells scope.names []).lookup y = some c → X.env.cells.lookup y = some c := fun y c h => closOf_in scope.names [] O.cl (fun y c h => by cases h) h
  have fpl : ∀ b ∈ fp, b < s₂.heap.objs.size := fun b hb => by
    obtain ⟨o, e, _⟩ := T.obj _ _ st b hb
    exact Heap.lt_size e
  have ok' : X'.Ok := by
    refine ⟨I.ok.mod, O.kind, I.ok.glob, I.ok.blt, hCle, fun y z c h1 h2 => I.ok.inj y z c (inC y c h1) (inC z c h2), fun y hy => ?_, fun y c h _ => (by cases h), I.ok.hd, I.ok.frames, .inl rfl, fun b hb => ?_, I.bs, Nat.le_trans I.ok.bsz I.sz, fun b o e hb => ?_, fun b hb z => ?_, I.stack, I.stkFree⟩
    · exact Option.isSome_iff_exists.mp (closOf_has scope.names [] (.inr (relabel_free O.cell hy)))
    · exact ⟨(below b (fpl b hb)).1, fun y c h => (hf b hb).2.2.2.2.1 y c (inC y c h)⟩
    · rcases (hf b hb).2.2.2.1 with z | z
      · exact I.ok.noex b o e z
      · exact absurd (Nat.lt_of_lt_of_le (Nat.lt_of_lt_of_le (Heap.lt_size e) I.ok.bsz) z) (Nat.lt_irrefl _)
    · exact (List.mem_cons.mp (I.stkSub b z)).elim (hf b hb).2.1 (hf b hb).2.2.1
  have hok1 : HOk X.prog X.w (upd H1 s₂.heap.objs.size (.lst [])) h₁ := I.hok.laid old (Nat.le_refl _) ⟨Nat.zero_le _, [], 0, .nil, hacc⟩
  have I0 : ∀ tk, Inv X' [] (inSt frees σ none) (upd H1 s₂.heap.objs.size (.lst [])) { s₂ with heap := h₁, toks := tk } := fun tk => by
    refine ⟨ok', rfl, I.bare, Un.laid old (Nat.le_refl _) nD, ⟨_, hns₁, fun i y v h1 h2 h3 => ?_⟩, fun y c h => ?_, ?_, fun y c h => ?_, fun p hp => absurd (show p ∈ ([] : List (Addr × Obj)) from hp) (by simp), hok1, ?_⟩
    · cases i with
      | zero =>
        have h2' : (none : Option V) = some v := Option.some.inj h2
        cases h2'
      | succ j =>
        have h1' : (frees.map (·.1))[j]? = some y := h1
        have h2' : (frees.map fun p => (σ[p.2]?).join)[j]? = some (some v) := h2
        rw [List.getElem?_map] at h1' h2'
        cases e : frees[j]? with
        | none => rw [e] at h1'; cases h1'
        | some p =>
          rw [e] at h1' h2'
          have e1 : p.1 = y := Option.some.inj h1'
          have e2 : (σ[p.2]?).join = some v := Option.some.inj h2'
          obtain ⟨g1, g2, g3, g4⟩ := O.fr.at p (List.mem_of_getElem? e)
          have e3 : σ[p.2]? = some (some v) := by
            cases q : σ[p.2]? with
            | none => rw [q] at e2; cases e2
            | some o => rw [q] at e2; exact congrArg some e2
          obtain ⟨m, hn, hl⟩ := I.loc
          obtain ⟨u, r, l⟩ := hl p.2 p.1 v g1 e3 (.inr (.inl g2))
          refine ⟨u, r, ?_⟩
          rcases l with ⟨k, _⟩ | ⟨_, c, hc1, hc2⟩
          · rw [g2] at k; cases k
          · obtain ⟨c2, hc3⟩ := Option.isSome_iff_exists.mp (closOf_has (cells := X.env.cells) scope.names [] (.inr g4))
            have hc4 := inC _ _ hc3
            rw [hc1] at hc4
            cases hc4
            rw [← e1]
            refine .inr ⟨.inl g3, c, hc3, ?_⟩
            obtain ⟨o, ho, hd⟩ := hc2
            exact ⟨o, old c o ho, hd⟩
    · obtain ⟨v, o, ho, hd⟩ := I.cell y c (inC y c h)
      exact ⟨v, o, old c o ho, hd⟩
    · show upd H1 s₂.heap.objs.size (.lst []) H2.objs.size = none
      rw [upd_ne (Ne.symm hDC)]
      exact I.hok.fresh hCle
    · obtain ⟨v, o, ho, hd⟩ := I.cell y c (inC y c h)
      rw [upd_ne (below c (Heap.lt_size ho)).2]
      exact I.freeC y c (inC y c h)
    · show (inSt frees σ none).length = (x :: frees.map (·.1)).length
      simp [inSt]
  have stat : ∀ {H' : Hp}, (∀ b ∈ fp, H' b = none) → ∀ b ∈ fp, FpOk X' [] H' b := fun hn b hb =>
    ⟨hn b hb, (below b (fpl b hb)).1, fun z => (List.mem_cons.mp (I.stkSub b z)).elim (hf b hb).2.1 (hf b hb).2.2.1, .inl hb, fun y c h => (hf b hb).2.2.2.2.1 y c (inC y c h), fun p hp => absurd (show p ∈ ([] : List (Addr × Obj)) from hp) (by simp)⟩
  have hst₁ : tn 0 h₁ := T.keep _ _ _ st fun b _ o e => old b o e
  have fr0 : ∀ b ∈ fp, (upd H1 s₂.heap.objs.size (.lst [])) b = none := fun b hb => by
    rw [upd_ne (below b (fpl b hb)).2]
    exact (hf b hb).1
  have loop : ∀ tk, codeAny (model X.prog X.w) X.A (.compLoop (.ListComp elt [⟨.Name x px, iter, ifs, 0⟩] scope pos) 0 (.ref it) (.ref s₂.heap.objs.size) X'.env) (RR (.ref s₂.heap.objs.size) H2.objs.size) { s₂ with heap := h₁, toks := tk } := fun tk => by
    refine comp_loop (fun n s' => ∃ i ys o H', Inv X' [] (inSt frees σ o) H' s' ∧ tn i s'.heap ∧ (∀ b ∈ fp, H' b = none) ∧ W i n ys H') ?_ m0 ⟨0, [], none, _, I0 tk, hst₁, fr0, w0⟩
    rintro n s3 ⟨i, ys, o3, H3, I3, st3, fr3, w3⟩
    obtain ⟨hD3, alt⟩ := hW i n ys H3 w3
    rcases alt with ⟨stop, q⟩ | ⟨go, hlt, step⟩
    · refine thn (T.done X' rfl rfl rfl O.calm i [] s3 _ H3 _ I3 (stat fr3) st3 stop) fun r s4 ⟨hr, I4⟩ => ?_
      subst hr
      have J4 : Inv X pins σ H3 s4 := I.call' (ch := fp) I4.os I4.base I4.hok I4.bare fun b hb => ⟨(hf b hb).2.2.2.1, (hf b hb).2.1, (hf b hb).2.2.2.2.1, (hf b hb).2.2.2.2.2⟩
      obtain ⟨m4, hn4, _⟩ := I4.loc
      exact hRR _ _ H3 s4 J4 ⟨m4, hn4⟩ (I.fpOk hCle I4.free) q
    · refine thn (T.item X' rfl rfl rfl O.calm i [] s3 _ H3 _ I3 (stat fr3) st3 go) fun r s4 ⟨u, hr, h4⟩ => ?_
      subst hr
      refine thn h4 fun _ s5 ⟨v, H5, I5, r5, y5, st5, fr5⟩ => ?_
      have I5' := I5.pinned (stat fr5) (T.obj _ _ st5)
      have tail : ∀ {σ7 : St} {H7 : Hp} {s7 : Shared}, Inv X' ([] ++ pinsAt fp s5.heap) σ7 H7 s7 → Inv X' [] σ7 H7 s7 ∧ tn (i + 1) s7.heap ∧ ∀ b ∈ fp, H7 b = none := fun {σ7 H7 s7} I7 => by
        refine ⟨I7.unpinned, T.keep _ _ _ st5 fun b hb o e => (I7.pin (b, o) (List.mem_append_right _ (List.mem_append_right _ (mem_pinsAt hb e)))).1, fun b hb => ?_⟩
        obtain ⟨o, e, d⟩ := T.obj _ _ st5 b hb
        exact (I7.pin (b, o) (List.mem_append_right _ (List.mem_append_right _ (mem_pinsAt hb e)))).2.1
      have hg : PG X' (.Name x px) (gName 0) := pg_name O.nd rfl (Or.inl (lookup_relabel_local O.own)) (.inr (lookup_relabel_local O.own))
      refine thn (hg _ s5 _ H5 v u (fun σ6 H6 => σ6 = inSt frees σ (some v) ∧ H6 = H5) I5' r5 ⟨rfl, rfl⟩) fun _ s6 ⟨σ6, H6, I6, e6, e6'⟩ => ?_
      subst e6 e6'
      refine thn (hc _ _ _ _ _ s6 _ _ _ I6 (step v _ y5)) fun b s7 ⟨H7, I7, q7⟩ => ?_
      cases b with
      | false =>
        obtain ⟨m', hm, w7⟩ := (show ∃ m', m' < n ∧ W (i + 1) m' ys H7 from q7)
        obtain ⟨t1, t2, t3⟩ := tail I7
        exact ⟨m', hm, i + 1, ys, some v, H7, t1, t2, t3, w7⟩
      | true =>
        refine thn (he _ _ _ _ _ s7 _ _ _ I7 q7) fun y s8 ⟨y', H8, I8, r8, hD8, m', hm, w8⟩ => ?_
        refine thn (mt_append (X := X') _ s8 _ H8 (.ref s₂.heap.objs.size) [y'] _ [y] (fun _ H9 => H9 = upd H8 s₂.heap.objs.size (.lst (ys ++ [y']))) I8 rfl (.cons r8 .nil) ⟨_, _, _, rfl, rfl, hD8, hlt, rfl⟩) fun _ s9 ⟨_, H9, I9, _, e9⟩ => ?_
        subst e9
        obtain ⟨t1, t2, t3⟩ := tail I9
        exact ⟨m', hm, i + 1, ys ++ [y'], some v, _, t1, t2, t3, w8⟩
  exact codeAny_compStart_list (loop _) (T.self _ 0 _ _ _ hst₁ (loop _))
/-- [elt for x in iter if ..] -/
def tComp (frees : List (Str × Nat)) (tc : TT) (te : TE) (wi : TI) : TE := fun σ H Q => wi σ H fun J H1 => CompB J tc te (inSt frees σ) H1 Q
theorem pe_comp {wi : TI} (O : CompOk X scope x frees) (hxe : X.xe = fun _ _ => False) (hi : PI X (.Name x px) iter wi)
    (hc : ∀ C ex s₂ H₂, PIfs (compCx X scope (x :: frees.map (·.1)) C ex s₂ H₂) ifs tc) (he : ∀ C ex s₂ H₂, PE (compCx X scope (x :: frees.map (·.1)) C ex s₂ H₂) elt te)
    (hs : ∀ x, foldedSetIterable iter X.env x = pure x := by intro _; rfl) : PE X (.ListComp elt [⟨.Name x px, iter, ifs, 0⟩] scope pos) (tComp frees tc te wi) := by
  intro pins s σ H Q I h
  rw [eval_ListComp]
  refine wpAny_comprehension_free (use := none) rfl hs (closureFor_of O.cl) O.kind O.names (thn (hi pins s σ H _ I h) fun xv s₁ h₁ => thn h₁ fun itv s₂ h₂ => ?_)
  obtain ⟨it, fp, tn, J, H2, e, I2, T, st2, f2, hB⟩ := h₂
  subst e
  refine comp_core (RR := fun acc C => compPost (model X.prog X.w) X.A X.xe none (EP X pins σ Q) acc C) O hc he I2 T st2 f2 hB ?_
  intro D C H' s' I' hn hC q
  obtain ⟨m, hn⟩ := hn
  refine ⟨m, hn, fun h' hs' => ?_⟩
  exact ⟨.ref D, H', I'.turned (t' := s'.toks) (fun b o hb e => hs'.extBut b o hb e) hC.1 hC.2.1 hC.2.2.2.1 hC.2.2.2.2.1 hC.2.2.2.2.2, rfl, q⟩
/-- y = [elt for x in iter if ..], y a local of the def -/
theorem ps_comp {wi : TI} {i : Nat} {y : Str} {py spos : Pos} (O : CompOk X scope x frees) (hN : X.N.Nodup) (hiy : X.N[i]? = some y) (hy : X.env.kindOf y = some .local) (hsw : swapsWith (.ListComp elt [⟨.Name x px, iter, ifs, 0⟩] scope pos) (some (.Name y py)) spos.line X.env = pure true)
    (hi : PI X (.Name x px) iter wi) (hc : ∀ C ex s₂ H₂, PIfs (compCx X scope (x :: frees.map (·.1)) C ex s₂ H₂) ifs tc) (he : ∀ C ex s₂ H₂, PE (compCx X scope (x :: frees.map (·.1)) C ex s₂ H₂) elt te)
    (hs : ∀ x, foldedSetIterable iter X.env x = pure x := by intro _; rfl) : PS X (.Assign [.Name y py] (.ListComp elt [⟨.Name x px, iter, ifs, 0⟩] scope pos) spos) (tAsg (tComp frees tc te wi) (gName i)) := by
  intro pins s σ H D I h
  rw [exec_Assign_Name_used _ _ _ _ hsw]
  refine wpAny_bind (wpAny_standAt (wpAny_bind ?_))
  show wpAny _ X.A (do let _ ← comprehension (.ListComp elt [⟨.Name x px, iter, ifs, 0⟩] scope pos) scope X.env _ (newList []) false (eval iter X.env) (some (assign (.Name y py) X.env))) _ _ s
  refine wpAny_bind (wpAny_mono (wpAny_comprehension_free (use := some (assign (.Name y py) X.env)) (Q := fun _ s' => SP X pins D .next s') rfl hs (closureFor_of O.cl) O.kind O.names
    (thn (hi pins s σ H _ I h) fun xv s₁ h₁ => thn h₁ fun itv s₂ h₂ => ?_)) (fun _ s' hq => wpAny_pure (wpAny_pure hq)) fun _ _ e => e)
  obtain ⟨it, fp, tn, J, H2, e, I2, T, st2, f2, hB⟩ := h₂
  subst e
  refine comp_core (RR := fun acc C => compPost (model X.prog X.w) X.A X.xe (some (assign (.Name y py) X.env)) (fun _ s' => SP X pins D .next s') acc C) O hc he I2 T st2 f2 hB ?_
  intro A C H' s' I' hn hC q
  obtain ⟨m, hn⟩ := hn
  obtain ⟨oC, es, ep, hoC, hdC, hr⟩ := id hn
  have I'' : Inv X (pins ++ [(C, oC)]) σ H' s' := I'.pins_of fun p hp => (List.mem_append.mp hp).elim (fun z => I'.pin p (List.mem_append_right _ z)) fun z => by
    rw [List.mem_singleton.mp z]
    exact ⟨hoC, hC.1, hC.2.1, hC.2.2.1, fun v e => by rw [hdC] at e; cases e⟩
  show wpAny _ X.A (assign (.Name y py) X.env (.ref A)) _ _ _
  refine wpAny_assign_Name (store_ok I'' hN hiy (.inl hy) (v := .ref A) rfl (fun s3 I3 => ?_) (.inr hy))
  have hC3 := (I3.pin (C, oC) (List.mem_append_right _ (List.mem_append_right _ (List.mem_singleton.mpr rfl)))).1
  have J3 : Inv X pins (σ.set i (some (.ref A))) H' s3 := I3.unpinned
  refine ⟨m, ⟨oC, es, ep, hC3, hdC, hr⟩, fun h' hs' => ?_⟩
  exact ⟨_, H', J3.turned (t' := s3.toks) (fun b o hb e => hs'.extBut b o hb e) hC.1 hC.2.1 hC.2.2.2.1 hC.2.2.2.2.1 hC.2.2.2.2.2, q⟩
end
end L2

namespace L2
open PySem PySem.Spec PyProof.Rows
section
variable {X : Cx}
/-! ### all(..) of a list of truths -/
/-! ### methods of texts -/
theorem strs_of : ∀ {ws : List Str} {us : List Value}, Vals (ws.map V.str) us → ∃ l : List (Str × Tok), us = strValues l ∧ l.map (·.1) = ws
  | [], us, r => by
    cases r
    exact ⟨[], rfl, rfl⟩
  | w :: ws, us, r => by
    cases r with
    | cons r1 r2 =>
      obtain ⟨t, rfl⟩ := r1
      obtain ⟨l, rfl, e⟩ := strs_of r2
      exact ⟨(w, t) :: l, rfl, by rw [← e]; rfl⟩
theorem mt_join : MtR X "str.join" (fun x vs H Q => ∃ (z : Str) (p : Addr) (ws : List Str), x = .str z ∧ vs = [.ref p] ∧ SqL X.K H p (ws.map V.str) ∧ JoinOk z ws = true ∧ Q (.str (Txt.join z ws)) H) := by
  intro pins s σ H x vs v us Q I rx rv h
  obtain ⟨z, p, ws, rfl, rfl, hq, hj, q⟩ := h
  obtain ⟨t, rfl⟩ := rx
  obtain ⟨u', rfl, ru⟩ := rv.one
  cases ru
  obtain ⟨its, r, pl, hz⟩ := I.list hq
  obtain ⟨l, rfl, e⟩ := strs_of r
  exact SC.join pl.isList e hj fun t' k => ⟨.str _, H, I.tok _, ⟨t', rfl⟩, q⟩
/-- x[lo:hi] of a text -/
def rSlS : V → Option Int → Option Int → Hp → VK → Prop := fun x lo hi H Q => ∃ z, x = .str z ∧ z.length ≤ sizeLine ∧ Q (.str (Txt.slice z lo hi)) H
theorem part_of {v : Value} {o : Option Int} (p : IsPart v o) : ∃ l : Option (Int × Tok), v = partValue l ∧ l.map (·.1) = o := by
  cases p with
  | none => exact ⟨none, rfl, rfl⟩
  | int i t => exact ⟨some (i, t), rfl, rfl⟩
theorem sl_str : SlR X rSlS := by
  intro pins s σ H x v vl vu lo hi sl Q I rx hs pl pu h
  obtain ⟨z, rfl, hz, q⟩ := h
  obtain ⟨t, rfl⟩ := rx
  obtain ⟨l, rfl, rfl⟩ := part_of pl
  obtain ⟨u, rfl, rfl⟩ := part_of pu
  exact ⟨"str", _, F.slot_str_getitem.lookup, typeIs_str _ _ _, wpAny_getItem_str_slice (l := l) (u := u) (st := none) hs rfl
    (post_val_or_str ⟨Nat.le_trans (Txt.slice_le z _ _) hz, fun t' k => ⟨.str _, H, I.tok _, ⟨t', rfl⟩, q⟩⟩)⟩
/-! ### signs in texts -/
/-! ### o.m(..) where the fragment is named (within a comprehension) -/
/-! ### weaker readings: a statement's (or a block's) reading by one of your own -/
theorem PS.weak {st : Stmt} {t t' : TS} (h : PS X st t) (k : ∀ D σ H, t' D σ H → t D σ H) : PS X st t' := fun pins s σ H D I hw => h pins s σ H D I (k D σ H hw)
theorem PSs.weak {st : List Stmt} {t t' : TS} (h : PSs X st t) (k : ∀ D σ H, t' D σ H → t D σ H) : PSs X st t' := fun pins s σ H D I hw => h pins s σ H D I (k D σ H hw)
end
/-! ### comprehensions whose items are reckoned without a change of the heap -/
structure Seq (J : It) (H1 : Hp) (xs : List V) : Prop where
  go : ∀ i H, Same H1 H → i < xs.length → J.go i H
  yld : ∀ i H x H', Same H1 H → i < xs.length → J.yld i H x H' → H' = H ∧ xs[i]? = some x
  stop : ∀ H, Same H1 H → J.stop xs.length H
theorem seq_range (lo : Int) (n : Nat) (H1 : Hp) : Seq (Itr lo n) H1 ((List.range n).map fun i => V.int (lo + (i : Nat))) where
  go := fun i H _ h => by
    rw [List.length_map, List.length_range] at h
    exact h
  yld := fun i H x H' _ hi h => by
    obtain ⟨e, hx⟩ := h
    refine ⟨e, ?_⟩
    rw [List.length_map, List.length_range] at hi
    rw [List.getElem?_map, List.getElem?_range hi, hx]
    rfl
  stop := fun H _ => by
    show n ≤ _
    rw [List.length_map, List.length_range]
    exact Nat.le_refl _
theorem seq_list {K : PySem.W.Frag} {a : Addr} {xs : List V} {H1 : Hp} (h : SqL K H1 a xs) : Seq (Itl K a) H1 xs where
  go := fun i H e hi => ⟨xs, xs[i], e.seq h, List.getElem?_eq_getElem hi⟩
  yld := fun i H x H' e _ y => ⟨y.1, y.2 xs (e.seq h)⟩
  stop := fun H e => ⟨xs, e.seq h, Nat.le_refl _⟩
theorem take_more {α : Type} {xs : List α} {i : Nat} {x : α} (h : xs[i]? = some x) : xs.take (i + 1) = xs.take i ++ [x] := by
  rw [List.take_succ, h]
  rfl
theorem compB_seq {J : It} {tc : TT} {te : TE} {σf : Option V → St} {H1 : Hp} {Q : VK} {xs : List V} (S : Seq J H1 xs) (p : V → Bool) (g : V → V) (hz : xs.length < sizeLine)
    (hc : ∀ x ∈ xs, ∀ (H' : Hp) (R : Bool → Hp → Prop), Same H1 H' → R (p x) H' → tc (σf (some x)) H' R)
    (he : ∀ x ∈ xs, ∀ (H' : Hp) (R : VK), Same H1 H' → p x = true → R (g x) H' → te (σf (some x)) H' R)
    (q : ∀ D H', Same H1 H' → H1 D = none → H' D = some (.lst ((xs.filter p).map g)) → Q (.ref D) H') : CompB J tc te σf H1 Q := by
  intro D hD
  refine ⟨fun i m ys H2 => m = xs.length - i ∧ i ≤ xs.length ∧ Same H1 H2 ∧ H2 D = some (.lst ys) ∧ ys = ((xs.take i).filter p).map g, ⟨xs.length, rfl, Nat.zero_le _, same_new hD _, upd_same, rfl⟩, ?_⟩
  rintro i m ys H2 ⟨rfl, hi, sm, hD2, rfl⟩
  refine ⟨hD2, ?_⟩
  by_cases hlt : i < xs.length
  · refine .inr ⟨S.go i H2 sm hlt, ?_, fun x H3 y => ?_⟩
    · rw [List.length_map]
      refine Nat.lt_of_le_of_lt (List.length_filter_le _ _) ?_
      rw [List.length_take]
      omega
    · obtain ⟨e, hx⟩ := S.yld i H2 x H3 sm hlt y
      subst e
      have mem : x ∈ xs := List.mem_of_getElem? hx
      refine hc x mem _ _ sm ?_
      cases hp : p x with
      | false =>
        refine iteF ⟨xs.length - (i + 1), by omega, rfl, hlt, sm, hD2, ?_⟩
        rw [take_more hx, List.filter_append, List.filter_cons_of_neg (by rw [hp]; decide), List.filter_nil, List.append_nil]
      | true =>
        refine iteT (he x mem _ _ sm hp ⟨hD2, xs.length - (i + 1), by omega, rfl, hlt, same_on hD sm _, upd_same, ?_⟩)
        rw [take_more hx, List.filter_append, List.filter_cons_of_pos hp, List.filter_nil, List.map_append]
        rfl
  · have e : i = xs.length := by omega
    subst e
    refine .inl ⟨S.stop H2 sm, q D H2 sm hD ?_⟩
    rw [hD2, List.take_of_length_le (Nat.le_refl _)]
/-- what is asked of a comprehension's text, in short -/
def cellsFor (cells : List (Str × Addr)) (names : List (Str × NameKind)) : Bool := names.all fun p => if (p.2 == NameKind.free) = true then (cells.lookup p.1).isSome else true
theorem cellsFor_at {cells : List (Str × Addr)} {names : List (Str × NameKind)} (h : cellsFor cells names = true) : ∀ p ∈ names, p.2 = .free → (cells.lookup p.1).isSome = true := fun p hp hk => by
  have q := (List.all_eq_true.mp h) p hp
  rw [hk, show (NameKind.free == NameKind.free) = true from rfl, if_pos rfl] at q
  exact q
end L2

namespace L2
open PySem PySem.Spec PyProof.Rows
section
variable {X : Cx}
/-! ### text * number, int(text) -/
theorem kit_int_bool (K : PySem.W.Frag) : PySem.W.kitOne K (.type "int") (.type "bool") = some false := by
  have e1 : PySem.W.kitMeta "bool" = true := by decide +kernel
  have e2 : PySem.W.subIn K (.type "int") (.type "bool") = some false := by
    show (fastBuiltinMro "int").map (·.contains (Value.type "bool")) = some false
    decide +kernel
  show (if (Value.type "int" == Value.type "bool") = true then some true else (if PySem.W.kitMeta "bool" = true then PySem.W.subIn K (.type "int") (.type "bool") else none)) = some false
  rw [if_neg (by decide), if_pos e1]
  exact e2
/-! ### a list's item, at a place that lies in it -/
def rIxLA (K : PySem.W.Frag) : R2 := fun x y H Q => ∃ p xs i, x = .ref p ∧ y = .int i ∧ SqL K H p xs ∧ 0 ≤ i ∧ i < ((xs.length : Nat) : Int) ∧ ∀ v, xs[i.toNat]? = some v → Q v H
theorem ix_listA : IxR X (rIxLA X.K) := by
  intro value slice pins s σ H x y v u Q I rx ry h hs
  obtain ⟨p, xs, i, rfl, rfl, hq, h0, h1, q⟩ := h
  obtain ⟨c, e1, e2⟩ := at_in (xs := xs) h0 h1
  exact ix_list value slice pins s σ H _ _ v u Q I rx ry ⟨p, xs, i, c, rfl, rfl, hq, e2, q c e1⟩ hs
def intV : V → Bool
  | .int _ => true
  | _ => false
end
end L2

namespace L2
open PySem PySem.Spec PyProof.Rows
section
variable {X : Cx}
/-! ### readings that lean on a token's being made already (x.replace(y, z) asks whether y and z are one object) -/
def PSk (X : Cx) (st : Stmt) (t : TS) : Prop :=
  ∀ (pins : List (Addr × Obj)) (s : Shared) (σ : St) (H : Hp) (D : Ends), Inv X pins σ H s → 1 ≤ s.toks → t D σ H → wpAny (model X.prog X.w) X.A (exec st X.env) (SP X pins D) X.xe s
def PSsK (X : Cx) (st : List Stmt) (t : TS) : Prop :=
  ∀ (pins : List (Addr × Obj)) (s : Shared) (σ : St) (H : Hp) (D : Ends), Inv X pins σ H s → 1 ≤ s.toks → t D σ H → wpAny (model X.prog X.w) X.A (execs st X.env) (SP X pins D) X.xe s
def PEk (X : Cx) (e : Expr) (t : TE) : Prop :=
  ∀ (pins : List (Addr × Obj)) (s : Shared) (σ : St) (H : Hp) (Q : VK), Inv X pins σ H s → 1 ≤ s.toks → t σ H Q → wpAny (model X.prog X.w) X.A (eval e X.env) (EP X pins σ Q) X.xe s
/-- a value behind which a token was made -/
def PE1 (X : Cx) (e : Expr) (t : TE) : Prop :=
  ∀ (pins : List (Addr × Obj)) (s : Shared) (σ : St) (H : Hp) (Q : VK), Inv X pins σ H s → t σ H Q → wpAny (model X.prog X.w) X.A (eval e X.env) (fun u s' => 1 ≤ s'.toks ∧ EP X pins σ Q u s') X.xe s
def PS1 (X : Cx) (st : Stmt) (t : TS) : Prop :=
  ∀ (pins : List (Addr × Obj)) (s : Shared) (σ : St) (H : Hp) (D : Ends), Inv X pins σ H s → t D σ H → wpAny (model X.prog X.w) X.A (exec st X.env) (fun f s' => 1 ≤ s'.toks ∧ SP X pins D f s') X.xe s
theorem PS.k {st : Stmt} {t : TS} (h : PS X st t) : PSk X st t := fun pins s σ H D I _ hw => h pins s σ H D I hw
theorem PSs.k {st : List Stmt} {t : TS} (h : PSs X st t) : PSsK X st t := fun pins s σ H D I _ hw => h pins s σ H D I hw
/-- o.replace('..', '..'), two unlike texts written there -/
def tRepl (y z : Str) (to : TE) : TE := fun σ H Q => to σ H fun v H1 => ∃ x, v = .str x ∧ x.length + (x.length + 1) * z.length ≤ 16777216 ∧ ∀ u : Str, u.length ≤ x.length + (x.length + 1) * z.length → Q (.str u) H1
end
end L2

namespace L2
open PySem PySem.Spec PyProof.Rows
/-! ### enumerate(xs), enumerate(xs, start=j) over a list -/
section
variable {prog : Program} {w : World} {A : Around} {E : Value → Shared → Prop} {s : Shared}
set_option maxHeartbeats 2000000 in
end
end L2

namespace L2
open PySem PySem.Spec PyProof.Rows
section
variable {prog : Program} {w : World} {A : Around} {E : Value → Shared → Prop} {s : Shared}
end
end L2

namespace L2
open PySem PySem.Spec PyProof.Rows
section
variable {prog : Program} {w : World} {A : Around} {E : Value → Shared → Prop} {s : Shared}
/-- a turn of an enumerate whose count j need not be the turn's -/
theorem en_next {en ir : Addr} {fp : List Addr} {n i : Nat} {j : Int} {P : Nat → Value → Prop} {St : Nat → Heap → Prop} {old : Value} {Q : Value → Shared → Prop}
    (D : Draws prog w A ir fp n P St) (k0 : IsEnum s.heap en ir j old) (st : St i s.heap) (hlt : i < n) (hne : en ≠ ir) (hef : en ∉ fp)
    (hQ : ∀ x hz tk, P i x → IsEnumOut hz en ir (j + 1) x s.heap.objs.size → St (i + 1) hz →
      hz.get? s.heap.objs.size = some { cls := .type "tuple", data := .seq #[.int j tk, x] } → (∀ b o, b ≠ en → b ≠ ir → s.heap.get? b = some o → hz.get? b = some o) → Q (.ref s.heap.objs.size) { s with heap := hz, toks := tk + 1 }) :
    wpAny (model prog w) A (Builtin.«enumerate.__next__» ⟨[.ref en], []⟩) (fun fin z => ∃ v, fin = .done (.ret v) ∧ Q v z) E s := by
  obtain ⟨h0, gs, dr, t0, oo⟩ := s
  show wpAny _ _ (field (.ref en) 2 >>= _) _ _ _
  refine wpAny_bind (wpAny_field k0 rfl (x := .ref ir) rfl ?_)
  refine wpAny_bind (D.item i _ _ _ hlt st fun x h1 tk px st1 b1 => ?_)
  have s1 : Heap.SameBut ir h0 h1 := b1
  have k1 : IsEnum h1 en ir j old := (s1.2 en hne).trans k0
  show wpAny _ _ (field (.ref en) 3 >>= _) _ _ ⟨h1, gs, dr, tk, oo⟩
  refine wpAny_bind (wpAny_field k1 rfl (x := rawInt j) rfl ?_)
  show wpAny _ _ (field (.ref en) 4 >>= _) _ _ ⟨h1, gs, dr, tk, oo⟩
  refine wpAny_bind (wpAny_field k1 rfl (x := .none) rfl ?_)
  show wpAny _ _ (mkInt j >>= _) _ _ ⟨h1, gs, dr, tk, oo⟩
  refine wpAny_bind (wpAny_mkInt ?_)
  show wpAny _ _ (setField (.ref en) 3 (rawInt (j + 1)) >>= _) _ _ ⟨h1, gs, dr, tk + 1, oo⟩
  refine wpAny_bind (wpAny_setField_rec k1 (by simp) fun h2 k2 b2 => ?_)
  have s2 : Heap.SameBut en h1 h2 := b2
  have k2' : IsEnum h2 en ir (j + 1) old := k2
  show wpAny _ _ (setField (.ref en) 4 .none >>= _) _ _ ⟨h2, gs, dr, tk + 1, oo⟩
  refine wpAny_bind (wpAny_setField_rec k2' (by simp) fun h3 k3 b3 => ?_)
  have s3 : Heap.SameBut en h2 h3 := b3
  have k3' : IsEnum h3 en ir (j + 1) old := k3
  show wpAny _ _ (newTuple [.int j tk, x] >>= _) _ _ ⟨h3, gs, dr, tk + 1, oo⟩
  refine wpAny_bind (wpAny_newTuple ?_)
  have k4 : IsEnum (h3.push { cls := .type "tuple", data := .seq #[.int j tk, x] }) en ir (j + 1) old := Heap.get?_push_of_some _ k3'
  generalize e4 : h3.push { cls := .type "tuple", data := .seq #[.int j tk, x] } = h4 at k4
  have z3 : h3.objs.size = h0.objs.size := by rw [s3.1, s2.1, s1.1]
  have lt : en < h0.objs.size := Heap.lt_size k0
  have t4 : h4.get? h0.objs.size = some { cls := .type "tuple", data := .seq #[.int j tk, x] } := by
    rw [← e4, ← z3]
    exact Heap.get?_push_size _ rfl
  have kp4 : ∀ b o, b ≠ en → b ≠ ir → h0.get? b = some o → h4.get? b = some o := fun b o n1 n2 hb => by
    rw [← e4]
    exact Heap.get?_push_of_some _ (s3.extBut b o n1 (s2.extBut b o n1 (s1.extBut b o n2 hb)))
  have st4 : St (i + 1) h4 := D.frame _ _ _ st1 fun b hb o y => by
    have n1 : b ≠ en := fun q => hef (q ▸ hb)
    rw [← e4]
    exact Heap.get?_push_of_some _ (s3.extBut b o n1 (s2.extBut b o n1 y))
  show wpAny _ _ (Builtin.SmallTypes.ownedTupleIsFree (.ref en) >>= _) _ _ ⟨h4, gs, dr, tk + 1, oo⟩
  rw [z3]
  clear e4 k3 k3' b3 s3 k2 k2' b2 s2 k1 s1 b1 st1 z3 h3 h2 h1
  refine wpAny_bind ?_
  unfold Builtin.SmallTypes.ownedTupleIsFree
  refine wpAny_bind (wpAny_field k4 rfl (x := .none) rfl (wpAny_pure ?_))
  simp only [if_true]
  refine wpAny_bind (wpAny_rule ?_)
  refine wpAny_bind (wpAny_field k4 rfl (x := old) rfl ?_)
  refine wpAny_bind (wpAny_setField_rec k4 (by simp) fun h5 k5 b5 => ?_)
  have s5 : Heap.SameBut en h4 h5 := b5
  have k5' : IsEnum h5 en ir (j + 1) x := k5
  show wpAny _ _ (Builtin.SmallTypes.ownedTupleHandOut (.ref en) (.ref h0.objs.size) >>= _) _ _ ⟨h5, gs, dr, tk + 1, oo⟩
  refine wpAny_bind ?_
  unfold Builtin.SmallTypes.ownedTupleHandOut
  refine wpAny_bind (wpAny_setField_rec k5' (by simp) fun h6 k6 b6 => ?_)
  have s6 : Heap.SameBut en h5 h6 := b6
  have k6' : IsEnumOut h6 en ir (j + 1) x h0.objs.size := k6
  refine wpAny_setField_rec k6' (by simp) fun h7 k7 b7 => ?_
  have s7 : Heap.SameBut en h6 h7 := b7
  have k7' : IsEnumOut h7 en ir (j + 1) x h0.objs.size := k7
  refine wpAny_bind (wpAny_letGo (wpAny_pure ⟨_, rfl, hQ x h7 tk px k7' ?_ ?_ ?_⟩))
  · exact D.frame _ _ _ st4 fun b hb o y => by
      have n1 : b ≠ en := fun q => hef (q ▸ hb)
      exact s7.extBut b o n1 (s6.extBut b o n1 (s5.extBut b o n1 y))
  · exact s7.extBut _ _ (Nat.ne_of_gt lt) (s6.extBut _ _ (Nat.ne_of_gt lt) (s5.extBut _ _ (Nat.ne_of_gt lt) t4))
  · exact fun b o n1 n2 hb => s7.extBut b o n1 (s6.extBut b o n1 (s5.extBut b o n1 (kp4 b o n1 n2 hb)))
theorem en_item {en ir : Addr} {fp : List Addr} {n i : Nat} {j : Int} {P : Nat → Value → Prop} {St : Nat → Heap → Prop} {old : Value} {Q : Option Value → Shared → Prop}
    (D : Draws prog w A.in1 ir fp n P St) (k0 : IsEnum s.heap en ir j old) (st : St i s.heap) (hlt : i < n) (hne : en ≠ ir) (hef : en ∉ fp)
    (hQ : ∀ x hz tk, P i x → IsEnumOut hz en ir (j + 1) x s.heap.objs.size → St (i + 1) hz →
      hz.get? s.heap.objs.size = some { cls := .type "tuple", data := .seq #[.int j tk, x] } → (∀ b o, b ≠ en → b ≠ ir → s.heap.get? b = some o → hz.get? b = some o) → Q (some (.ref s.heap.objs.size)) { s with heap := hz, toks := tk + 1 }) :
    wpAny (model prog w) A (pyNext (.ref en)) Q E s := by
  have hT : s.TypeIs (.ref en) "enumerate" := ⟨_, k0, rfl⟩
  unfold pyNext
  refine wpAny_bind (wpAny_attempt (wpAny_callSpecial?_slot (name := Str.ofString "__next__") hT F.slot_enumerate_next (wpAny_call_entry F.slot_enumerate_next hT F.entry_enumerate_next ?_ (F.args_enumerate_next_1 _))))
  exact en_next D k0 st hlt hne hef fun x hz tk a b c d k => wpAny_pure (hQ x hz tk a b c d k)
end
/-- j, j + 1, .. beside the list's things -/
def Ite (K : PySem.W.Frag) (a : Addr) (j : Int) : It :=
  ⟨fun i H => ∃ xs x, SqL K H a xs ∧ xs[i]? = some x, fun i H x H' => ∃ p y, x = .ref p ∧ H p = none ∧ H' = upd H p (.tup [.int (j + (i : Nat)), y]) ∧ ∀ xs, SqL K H a xs → xs[i]? = some y, fun i H => ∃ xs, SqL K H a xs ∧ xs.length = i⟩
theorem turn_enum {P : Program} {w : World} {K : PySem.W.Frag} {elts : List Expr} {x1} {pos : Pos} (a en ir : Addr) (j : Int) (hne : en ≠ ir) :
    Turn P w K (.Tuple elts x1 pos) (Ite K a j) [en, ir] en (fun i h => (∃ old, IsEnum h en ir (j + (i : Nat)) old) ∧ h.IsListIter ir a i) where
  mem := by simp
  obj := fun i h st b hb => by
    obtain ⟨⟨old, k⟩, o, e, c, d⟩ := st
    rcases List.mem_cons.mp hb with z | z
    · exact ⟨_, by rw [z]; exact k, fun v y => by cases y⟩
    · exact ⟨o, by rw [List.mem_singleton.mp z]; exact e, fun v y => by rw [d] at y; cases y⟩
  keep := fun i h h' st k => by
    obtain ⟨⟨old, q⟩, r⟩ := st
    exact ⟨⟨old, k en (by simp) _ q⟩, r.at fun o e => k ir (by simp) o e⟩
  item := by
    intro X hP hw hK hc i pins s σ H E I hf st hg
    subst hP hw hK
    obtain ⟨xs, x, hq, hx⟩ := hg
    obtain ⟨its, rv, p, hz⟩ := I.list hq
    obtain ⟨u, hu, ru⟩ := rv.get hx
    obtain ⟨f0, f1, f2, f3, f4, f5⟩ := hf en (by simp)
    obtain ⟨g0, g1, g2, g3, g4, g5⟩ := hf ir (by simp)
    obtain ⟨⟨old, k⟩, r⟩ := st
    have hii : i < its.toArray.size := by
      have := (List.getElem?_eq_some_iff.mp hu).1
      simpa using this
    have nal : a ≠ ir := fun e => by
      obtain ⟨o1, e1, c1, _⟩ := r
      obtain ⟨o2, e2, c2, _⟩ := p.isList
      rw [e] at e2
      rw [e1] at e2
      cases e2
      rw [c1] at c2
      exact absurd c2 (by intro z; injection z with z; exact absurd z (by decide))
    have nae : en ∉ [ir, a] := fun m => by
      rcases List.mem_cons.mp m with z | z
      · exact hne z
      · obtain ⟨o2, e2, c2, _⟩ := p.isList
        rw [← List.mem_singleton.mp z, k] at e2
        cases e2
        exact absurd c2 (by intro z; injection z with z; exact absurd z (by decide))
    have hh : X.A.in1.handled = none := I.ok.hd hc
    refine en_item (Draws.list hh ir a nal its.toArray) k ⟨r, p.isList⟩ hii hne nae fun y hz2 tk py ko st2 tup kp => ?_
    have ey : y = u := by
      have e : its[i]? = some y := by simpa using py
      rw [hu] at e
      exact (Option.some.inj e).symm
    subst ey
    refine ⟨_, rfl, ?_⟩
    refine wpAny_letOwnedTupleGo_enum ko fun h3 k3 b3 => ?_
    have s3 : Heap.SameBut en hz2 h3 := b3
    have lt1 : en < s.heap.objs.size := Heap.lt_size k
    have lt2 : ir < s.heap.objs.size := by
      obtain ⟨o, e, _⟩ := r
      exact Heap.lt_size e
    have st3 : h3.IsListIter ir a (i + 1) := by
      obtain ⟨o, e, q⟩ := st2.1
      exact ⟨o, (s3.2 ir (Ne.symm hne)).trans e, q⟩
    have k3' : IsEnum h3 en ir (j + ((i + 1 : Nat) : Int)) y := by
      have e : j + ((i + 1 : Nat) : Int) = j + (i : Nat) + 1 := by omega
      rw [e]
      exact k3
    have tup3 : h3.get? s.heap.objs.size = some { cls := .type "tuple", data := .seq #[.int (j + (i : Nat)) tk, y] } := (s3.2 _ (Nat.ne_of_gt lt1)).trans tup
    have fr : H s.heap.objs.size = none := I.hok.fresh (Nat.le_refl _)
    have I2 : Inv X pins σ (upd H s.heap.objs.size (.tup [.int (j + (i : Nat)), x])) { s with heap := h3, toks := tk + 1 } := by
      refine I.step (g' := s.gens) (d' := s.drawn) (ch := [en, ir]) (fun b hb => ?_) (fun b o _ _ hc e _ => ?_) (fun b o _ _ hc e _ => ?_) (fun b o _ e n => ?_) (fun b o hc e => ?_) (fun b xs e => ?_) (fun b o xs e => ?_) (fun b ps e => ⟨#[], ?_⟩) (fun m hm => ?_) (fun b v e => ?_) I.bare
      · rcases List.mem_cons.mp hb with z | z
        · rw [z]; exact ⟨f3, f1, f4, f5⟩
        · rw [List.mem_singleton.mp z]; exact ⟨g3, g1, g4, g5⟩
      · exact (s3.2 b (fun z => hc (by simp [z]))).trans (kp b o (fun z => hc (by simp [z])) (fun z => hc (by simp [z])) e)
      · exact ⟨o.slots, (s3.2 b (fun z => hc (by simp [z]))).trans (kp b o (fun z => hc (by simp [z])) (fun z => hc (by simp [z])) e)⟩
      · rw [upd_ne (Nat.ne_of_lt (Heap.lt_size e))]; exact n
      · by_cases hb : b = en ∨ b = ir
        · rcases hb with z | z
          · exact absurd (by simp [z]) hc
          · exact absurd (by simp [z]) hc
        · exact ⟨o, (s3.2 b (fun z => hb (.inl z))).trans (kp b o (fun z => hb (.inl z)) (fun z => hb (.inr z)) e)⟩
      · rw [upd_ne (ne_of_none e fr)]; exact e
      · rw [upd_ne (ne_of_none e fr)]; exact e
      · rw [upd_ne (ne_of_none e fr), e]; simp
      · obtain ⟨o, es, ep, ho, q⟩ := hm
        exact ⟨o, es, ep, (s3.2 _ (Ne.symm f1)).trans (kp _ o (Ne.symm f1) (Ne.symm g1) ho), q⟩
      · by_cases hb : b = s.heap.objs.size
        · subst hb
          rw [upd_same] at e
          cases e
          exact ⟨small (by show 2 ≤ 1000; decide), [.int (j + (i : Nat)) tk, y], .cons ⟨_, rfl⟩ (.cons ru .nil), _, tup3, rfl, _, rfl⟩
        · rw [upd_ne hb] at e
          have nn : ∀ c v, H c = some v → c ≠ en ∧ c ≠ ir := fun c v q => ⟨(fun z => by rw [z, f0] at q; cases q), (fun z => by rw [z, g0] at q; cases q)⟩
          refine (I.hok b v e).stay (fun c v' hc q => ?_) (fun c q => by rw [upd_ne (ne_of_none q fr)]; exact q) (fun c xs q => by rw [upd_ne (ne_of_none q fr)]; exact q)
          have m : c ≠ en ∧ c ≠ ir := by
            rcases hc with z | z
            · rw [z]; exact nn b v e
            · exact nn c _ z
          exact (s3.2 c m.1).trans (kp c v' m.1 m.2 q)
    refine ⟨.ref s.heap.objs.size, _, I2, rfl, ⟨_, x, rfl, fr, rfl, fun ys hy => by rw [I.list_inj hy hq]; exact hx⟩, ⟨⟨_, k3'⟩, st3⟩, fun b hb => ?_⟩
    rw [upd_ne (fun z => ?_)]
    · exact (hf b hb).1
    · rw [z] at hb
      rcases List.mem_cons.mp hb with q | q
      · exact Nat.ne_of_gt lt1 q
      · exact Nat.ne_of_gt lt2 (List.mem_singleton.mp q)
  done := by
    intro X hP hw hK hc i pins s σ H E I hf st hg
    subst hP hw hK
    obtain ⟨xs, hq, hx⟩ := hg
    obtain ⟨its, rv, p, hz⟩ := I.list hq
    obtain ⟨g0, g1, g2, g3, g4, g5⟩ := hf ir (by simp)
    obtain ⟨⟨old, k⟩, r⟩ := st
    have hl := rv.length
    have nal : a ≠ ir := fun e => by
      obtain ⟨o1, e1, c1, _⟩ := r
      obtain ⟨o2, e2, c2, _⟩ := p.isList
      rw [e] at e2
      rw [e1] at e2
      cases e2
      rw [c1] at c2
      exact absurd c2 (by intro z; injection z with z; exact absurd z (by decide))
    have hh : X.A.in1.handled = none := I.ok.hd hc
    have en_i : i = its.toArray.size := by simp; omega
    subst en_i
    refine wpAny_pyNext_enum_endD (Draws.list hh ir a nal its.toArray) k ⟨r, p.isList⟩ fun h' eb => ?_
    exact ⟨rfl, I.turned (t' := s.toks) (fun b o hb e => eb b o hb e) g0 g1 g3 g4 g5⟩
  self := fun A i s Q E st h => by
    obtain ⟨⟨old, k⟩, _⟩ := st
    exact wpAny_pyIter_enum k h
section
variable {X : Cx} {elts : List Expr} {x1 : Nat} {tpos : Pos}
/-- enumerate(l, start=j) -/
def iEnumK (K : PySem.W.Frag) (tl : TA) (tj : TA) : TI := fun σ H R => tl σ H fun vs H1 => tj σ H1 fun zs H2 => ∃ a j, vs = [.ref a] ∧ zs = [.int j] ∧ (∃ xs, SqL K H2 a xs) ∧ Builtin.SmallTypes.fitsIndex j = true ∧ R (Ite K a j) H2
def iEnum (K : PySem.W.Frag) (tl : TA) : TI := fun σ H R => tl σ H fun vs H1 => ∃ a, vs = [.ref a] ∧ (∃ xs, SqL K H1 a xs) ∧ R (Ite K a 0) H1
theorem en_it {pins : List (Addr × Obj)} {σ : St} {H : Hp} {s : Shared} {R : It → Hp → Prop} {E : Value → Shared → Prop} {a : Addr} {j : Int} {h1 : Heap} (I : Inv X pins σ H s) (k : IsEnum h1 (s.heap.objs.size + 1) s.heap.objs.size j .none) (st : h1.IsListIter s.heap.objs.size a 0)
    (kp : ∀ b o, s.heap.get? b = some o → h1.get? b = some o) (q : R (Ite X.K a j) H) : wpAny (model X.prog X.w) X.A (pyIter (.ref (s.heap.objs.size + 1))) (PIE X pins σ (.Tuple elts x1 tpos) R) E { s with heap := h1 } := by
  refine wpAny_pyIter_enum k ?_
  have I1 : Inv X pins σ H { s with heap := h1 } := I.kept (t' := s.toks) kp
  refine ⟨s.heap.objs.size + 1, [s.heap.objs.size + 1, s.heap.objs.size], _, _, H, rfl, I1, turn_enum a _ _ j (Nat.succ_ne_self _), ⟨⟨.none, ?_⟩, st⟩, fun b hb => ?_, q⟩
  · have e : j + ((0 : Nat) : Int) = j := by omega
    rw [e]
    exact k
  · rcases List.mem_cons.mp hb with z | z
    · rw [z]; exact I.fpOk (Nat.le_succ _) (I.hok.fresh (Nat.le_succ _))
    · rw [List.mem_singleton.mp z]; exact I.fpOk (Nat.le_refl _) (I.hok.fresh (Nat.le_refl _))
theorem pi_enum {a : Expr} {tl : TA} {p pos : Pos} (hg : Gl X "enumerate") (hm : X.mg "enumerate" = none) (ha : PA X [a] tl) (hs : starEach [a] X.env = [(false, eval a X.env)] := by rfl) :
    PI X (.Tuple elts x1 tpos) (.Call (.Name "enumerate" p) [a] [] pos) (iEnum X.K tl) := by
  intro pins s σ H R I h
  refine Call_ (ld_blt I hg hm boot_enumerate (PyProof.Rows.callWith_type1 (thn (ha pos pins s σ H _ I h) fun us s1 ⟨vs, H1, I1, r1, q1⟩ => ?_) hs rfl))
  obtain ⟨l, rfl, ⟨xs, hq⟩, q⟩ := q1
  obtain ⟨u, rfl, ru⟩ := vals1 r1
  cases ru
  obtain ⟨its, rv, pl, hz⟩ := I1.list hq
  exact call_enumerate_list pl.isList fun h1 k st _ kp => en_it I1 k st kp q
end
/-- the loop over an enumerate of a list that the body leaves as it is -/
theorem for_enum {K : PySem.W.Frag} {a : Addr} {j : Int} {xs : List V} {g : TG} {tb : TS} {D : Ends} {σ : St} {H : Hp} (Pv : Nat → St → Hp → Prop) (h0 : Pv 0 σ H) (hl : ∀ i σ H, i ≤ xs.length → Pv i σ H → SqL K H a xs)
    (hs : ∀ i x σ H p, xs[i]? = some x → Pv i σ H → H p = none → g (.ref p) σ (upd H p (.tup [.int (j + (i : Nat)), x])) fun σ2 H2 => tb { D with nx := Pv (i + 1), ct := Pv (i + 1), bk := D.nx } σ2 H2) (hd : ∀ σ H, Pv xs.length σ H → D.nx σ H) :
    ∃ W : Nat → Nat → St → Hp → Prop, (∃ m, W 0 m σ H) ∧ ∀ i m σ H, W i m σ H →
      ((Ite K a j).stop i H ∧ D.nx σ H) ∨ ((Ite K a j).go i H ∧ ∃ N : St → Hp → Prop, (∀ σ' H', N σ' H' → ∃ m', m' < m ∧ W (i + 1) m' σ' H') ∧ ∀ x H', (Ite K a j).yld i H x H' → g x σ H' fun σ2 H2 => tb { D with nx := N, ct := N, bk := D.nx } σ2 H2) := by
  refine ⟨fun i m σ H => m = xs.length - i ∧ i ≤ xs.length ∧ Pv i σ H, ⟨xs.length, by simp, Nat.zero_le _, h0⟩, ?_⟩
  rintro i m σ H ⟨rfl, hi, p⟩
  have q := hl i σ H hi p
  by_cases hlt : i < xs.length
  · refine .inr ⟨⟨xs, xs[i], q, by simp [hlt]⟩, Pv (i + 1), fun σ' H' p' => ⟨xs.length - (i + 1), by omega, rfl, hlt, p'⟩, fun x H' y => ?_⟩
    obtain ⟨c, z, rfl, hc, rfl, y⟩ := y
    exact hs i z σ H c (y xs q) p hc
  · have e : i = xs.length := by omega
    subst e
    exact .inl ⟨⟨xs, q, rfl⟩, hd σ H p⟩
end L2

namespace L2
open PySem PySem.Spec PyProof.Rows
section
variable {X : Cx} {pins : List (Addr × Obj)} {σ : St} {H : Hp} {s : Shared} {d : Addr} {kvs : List (Key × V)}
/-! ### a dict is held still while a loop walks it -/
theorem Inv.freeze (I : Inv X pins σ H s) (h : H d = some (.dK kvs)) : ∃ o, s.heap.get? d = some o ∧ Inv X pins σ (upd H d (.frz o (.dK kvs))) s := by
  obtain ⟨z, hd, vs, r, o, es, ep, e, c⟩ := I.hok d _ h
  have mu : Mut (H d) := by rw [h]; trivial
  refine ⟨o, e, I.un (h' := s.heap) (t' := s.toks) (Un.write mu (.inl rfl) (fun _ _ _ q => q) ⟨o, e⟩) (I.hok.write mu (.inl rfl) (fun _ _ _ q => q) ⟨o, e⟩ ⟨e, z, hd, vs, r, o, es, ep, e, c⟩)⟩
theorem Inv.thaw {o : Obj} (I : Inv X pins σ H s) (h : H d = some (.frz o (.dK kvs))) (h0 : ∀ o u, X.H₀ d ≠ some (.frz o u)) : Inv X pins σ (upd H d (.dK kvs)) s := by
  have nn : ∀ b, H b = none → b ≠ d := fun b q z => by rw [z, h] at q; cases q
  refine ⟨I.ok, I.os, I.bare, ⟨I.base.keep, I.base.slot, fun b o' e n hx => ?_, I.base.there, fun b xs e => ?_, fun b o' u e => ?_, fun b ps e => ?_⟩, I.loc, I.cell, ?_, fun x c e => ?_, fun p hp => ?_, fun b u e => ?_, I.len⟩
  · have q := I.base.free b o' e n hx
    rw [upd_ne (nn b q)]
    exact q
  · have q := I.base.tups b xs e
    rw [upd_ne (ne_of q h (by intro z; cases z))]
    exact q
  · have q := I.base.frzs b o' u e
    rw [upd_ne (fun z => h0 o' u (by rw [← z]; exact e))]
    exact q
  · obtain ⟨more, q⟩ := I.base.tbls b ps e
    refine ⟨more, ?_⟩
    rw [upd_ne (ne_of q h (by intro z; cases z))]
    exact q
  · rw [upd_ne (nn _ I.free)]
    exact I.free
  · rw [upd_ne (nn _ (I.freeC x c e))]
    exact I.freeC x c e
  · obtain ⟨a, b, c⟩ := I.pin p hp
    exact ⟨a, by rw [upd_ne (nn _ b)]; exact b, c⟩
  · by_cases hb : b = d
    · subst hb
      rw [upd_same] at e
      cases e
      obtain ⟨q, ok⟩ := I.hok b _ h
      exact ok
    · rw [upd_ne hb] at e
      exact (I.hok b u e).stay (fun _ _ _ q => q) (fun c q => by rw [upd_ne (ne_of q h (by intro z; cases z))]; exact q) (fun c xs q => by rw [upd_ne (ne_of q h (by intro z; cases z))]; exact q)
theorem Inv.unfrozen (I : Inv X pins σ H s) (h : H d = some (.dK kvs)) : ∀ o u, X.H₀ d ≠ some (.frz o u) := fun o u e => by
  have q := I.base.frzs d o u e
  rw [h] at q
  cases q
def tFrz (t : TE) : TE := fun σ H Q => ∃ (d : Addr) (kvs : List (Key × V)), H d = some (.dK kvs) ∧ ∀ o, t σ (upd H d (.frz o (.dK kvs))) fun v H' => H' d = some (.frz o (.dK kvs)) ∧ Q v (upd H' d (.dK kvs))
theorem pe_frz {e : Expr} {t : TE} (h : PE X e t) : PE X e (tFrz t) := by
  intro pins s σ H Q I hw
  obtain ⟨d, kvs, hd, q⟩ := hw
  obtain ⟨o, eo, I1⟩ := I.freeze hd
  refine thn (h pins s σ _ _ I1 (q o)) fun v s1 ⟨x, H1, I2, r, hz, q2⟩ => ?_
  exact ⟨x, _, I2.thaw hz (I.unfrozen hd), r, q2⟩
def sFrz (t : TS) : TS := fun D σ H => ∃ (d : Addr) (kvs : List (Key × V)), H d = some (.dK kvs) ∧ ∀ o, t { nx := fun σ' H' => H' d = some (.frz o (.dK kvs)) ∧ D.nx σ' (upd H' d (.dK kvs)), rt := fun v H' => H' d = some (.frz o (.dK kvs)) ∧ D.rt v (upd H' d (.dK kvs)), bk := fun σ' H' => H' d = some (.frz o (.dK kvs)) ∧ D.bk σ' (upd H' d (.dK kvs)), ct := fun σ' H' => H' d = some (.frz o (.dK kvs)) ∧ D.ct σ' (upd H' d (.dK kvs)) } σ (upd H d (.frz o (.dK kvs)))
theorem ps_frz {st : Stmt} {t : TS} (h : PS X st t) : PS X st (sFrz t) := by
  intro pins s σ H D I hw
  obtain ⟨d, kvs, hd, q⟩ := hw
  obtain ⟨o, eo, I1⟩ := I.freeze hd
  refine thn (h pins s σ _ _ I1 (q o)) fun f s1 q1 => ?_
  have un := I.unfrozen hd
  cases f with
  | next => obtain ⟨σ', H', I2, hz, q2⟩ := q1; exact ⟨σ', _, I2.thaw hz un, q2⟩
  | brk => obtain ⟨σ', H', I2, hz, q2⟩ := q1; exact ⟨σ', _, I2.thaw hz un, q2⟩
  | cont => obtain ⟨σ', H', I2, hz, q2⟩ := q1; exact ⟨σ', _, I2.thaw hz un, q2⟩
  | ret u => obtain ⟨v, σ', H', I2, r, hz, q2⟩ := q1; exact ⟨v, σ', _, I2.thaw hz un, r, q2⟩
end
/-- a dict's keys, in order -/
def Itd (d : Addr) (o : Obj) (kvs : List (Key × V)) : It :=
  ⟨fun i H => H d = some (.frz o (.dK kvs)) ∧ i < kvs.length, fun i H x H' => H' = H ∧ ∃ k v, kvs[i]? = some (k, v) ∧ x = kV k, fun i H => H d = some (.frz o (.dK kvs)) ∧ kvs.length = i⟩
theorem rel_key {k : Key} {v : Value} (h : keyIs k v = true) : RelV (kV k) v := by
  rcases keyIs_shape h with ⟨i, t, rfl, rfl⟩ | ⟨x, t, rfl, rfl⟩
  · exact ⟨t, rfl⟩
  · exact ⟨t, rfl⟩
theorem turn_dict {P : Program} {w : World} {K : PySem.W.Frag} {tg : Expr} (d it : Addr) (o : Obj) (kvs : List (Key × V)) {vs : List (Key × Value)} {es : Array DictEntry} {ep : Nat} (rk : KV kvs vs) (hd : o.ExactDict) (he : o.data = .dict es ep) (hk : KeysOf (mixKind P w) es) (hp : Pairs (mixKind P w) es.toList vs) (nd : (vs.map (·.1)).Nodup) :
    Turn P w K tg (Itd d o kvs) [it] it (fun i h => h.IsKeyIter it d i vs.length ep) where
  mem := by simp
  obj := fun i h st b hb => by
    have e : b = it := by simpa using hb
    subst e
    obtain ⟨o, e, c, d⟩ := st
    exact ⟨o, e, fun v z => by rw [d] at z; cases z⟩
  keep := fun i h h' st k => st.at fun o e => k it (by simp) o e
  item := by
    intro X hP hw hK hc i pins s σ H E I hf st hg
    subst hP hw hK
    obtain ⟨hz, hi⟩ := hg
    obtain ⟨eo, _⟩ := I.hok d _ hz
    obtain ⟨f0, f1, f2, f3, f4, f5⟩ := hf it (by simp)
    have hl := KV.length rk
    have hi2 : i < vs.length := by omega
    have ev : vs[i]? = some (vs[i].1, vs[i].2) := List.getElem?_eq_getElem hi2
    have ks : kvs[i]? = some (kvs[i].1, kvs[i].2) := List.getElem?_eq_getElem hi
    have keq : kvs[i].1 = vs[i].1 := by
      have q := KV.keys rk
      have q1 : (kvs.map (·.1))[i]? = (vs.map (·.1))[i]? := by rw [q]
      rw [List.getElem?_map, List.getElem?_map, ks, ev] at q1
      exact Option.some.inj q1
    refine wpAny_pyNext_dict_item st ⟨o, es, eo, hd, he, hk, hp, nd⟩ ev fun key h' hkey st' sb => ?_
    have I1 : Inv X pins σ H { s with heap := h' } := I.turned (t' := s.toks) (fun b o hb e => (sb.2 b hb).trans e) f0 f1 f3 f4 f5
    obtain ⟨o2, e2, c2, d2⟩ := id st'
    refine ⟨key, rfl, go_of (s := { s with heap := h' }) e2 c2 d2 (by decide) ⟨kV kvs[i].1, H, I1, ?_, ⟨rfl, _, _, ks, rfl⟩, st', fun b hb => (hf b hb).1⟩⟩
    rw [keq]
    exact rel_key hkey
  done := by
    intro X hP hw hK hc i pins s σ H E I hf st hg
    subst hP hw hK
    obtain ⟨hz, hi⟩ := hg
    obtain ⟨eo, _⟩ := I.hok d _ hz
    obtain ⟨f0, f1, f2, f3, f4, f5⟩ := hf it (by simp)
    have hl := KV.length rk
    have hin : vs[i]? = none := List.getElem?_eq_none (by omega)
    exact wpAny_pyNext_dict_end (I.ok.hd hc) st ⟨o, es, eo, hd, he, hk, hp, nd⟩ hin fun h' eb => ⟨rfl, I.turned (t' := s.toks) (fun b o hb e => eb b o hb e) f0 f1 f3 f4 f5⟩
  self := fun _ _ _ _ _ st h => wpAny_pyIter_keyiter st h
section
variable {X : Cx} {tg : Expr}
def iDict (tl : TE) : TI := fun σ H R => tl σ H fun x H1 => ∃ d o kvs, x = .ref d ∧ H1 d = some (.frz o (.dK kvs)) ∧ R (Itd d o kvs) H1
theorem pi_dict {l : Expr} {tl : TE} (hl : PE X l tl) : PI X tg l (iDict tl) := by
  intro pins s σ H R I h
  refine thn (hl pins s σ H _ I h) fun v s1 ⟨x, H1, I1, r1, q1⟩ => ?_
  obtain ⟨d, o, kvs, rfl, hz, q⟩ := q1
  cases r1
  obtain ⟨eo, z, hd, vs, rk, o', es, ep, e', xd, dt, ko, pr, nd⟩ := I1.hok d _ hz
  rw [eo] at e'
  cases e'
  refine wpAny_pyIter_dict hd ⟨o, es, eo, xd, dt, ko, pr, nd⟩ ?_
  refine ⟨s1.heap.objs.size, [s1.heap.objs.size], _, _, H1, rfl, I1.kept (t' := s1.toks) fun b o e => Heap.get?_push_of_some _ e, turn_dict d _ o kvs rk xd dt ko pr nd, ⟨_, Heap.get?_push_size _ rfl, rfl, rfl⟩, fun b hb => ?_, q⟩
  have e : b = s1.heap.objs.size := by simpa using hb
  subst e
  exact I1.fpOk (Nat.le_refl _) (I1.hok.fresh (Nat.le_refl _))
theorem seq_dict {d : Addr} {o : Obj} {kvs : List (Key × V)} {H1 : Hp} (h : H1 d = some (.frz o (.dK kvs))) : Seq (Itd d o kvs) H1 (kvs.map fun p => kV p.1) where
  go := fun i H e hi => ⟨e _ _ h, by rw [List.length_map] at hi; exact hi⟩
  yld := fun i H x H' e _ y => by
    obtain ⟨a, k, v, b, c⟩ := y
    refine ⟨a, ?_⟩
    rw [List.getElem?_map, b, c]
    rfl
  stop := fun H e => ⟨e _ _ h, by rw [List.length_map]⟩
/-! ### xs.insert(i, y) at a place that lies in it -/
def rInsert : V → List V → Hp → VK → Prop := fun x vs H Q => ∃ l xs i y, x = .ref l ∧ vs = [.int i, y] ∧ H l = some (.lst xs) ∧ 0 ≤ i ∧ i ≤ ((xs.length : Nat) : Int) ∧ xs.length < sizeLine ∧ Q .non (upd H l (.lst (xs.take i.toNat ++ y :: xs.drop i.toNat)))
/-! ### a def of the text, all in one -/
structure Dfn (P : Program) (w : World) (K : PySem.W.Frag) (mg : Str → Option Value) (base : Heap) (k : Nat) (x : Str) (ps : List Str) (sp : Sp) : Prop where
  ex : ∃ f fd, FnOk P w K mg base CX0 k f fd ps sp ∧ Binds K fd ps [] ∧ PySem.W.keepIn K (.ref f) = true ∧ mg x = some (.ref f)
theorem pe_callD {k : Nat} {x : Str} {ps : List Str} {sp : Sp} {e : Expr} {es : List Expr} {t : TA} {p pos : Pos} (D : Dfn X.prog X.w X.K X.mg X.base k x ps sp) (hr : Room k X.A) (hg : Gl X x) (ha : PA X (e :: es) t) (hdb : (x == ("__debug__" : Str)) = false := by decide)
    (he : starEach (e :: es) X.env = (false, eval e X.env) :: starEach es X.env := by rfl) (hpl : (backTo pos (starEach es X.env)).any (·.1) = false := by rfl) : PE X (.Call (.Name x p) (e :: es) [] pos) (tCall sp [] E0 t) := by
  obtain ⟨f, fd, F, b, kp, m⟩ := D.ex
  exact pe_call F hr hg m kp b .nil pass0 ha hdb he hpl
structure GS (mg : Str → Option Value) (x : Str) (z : Str) : Prop where
  ex : ∃ t, mg x = some (.str z t)
structure GI (mg : Str → Option Value) (x : Str) (z : Int) : Prop where
  ex : ∃ t, mg x = some (.int z t)
theorem pe_gs {x z : Str} {pos : Pos} (G : GS X.mg x z) (hg : Gl X x) (hd : (x == ("__debug__" : Str)) = false := by decide) : PE X (.Name x pos) (tC (.str z)) := by
  obtain ⟨t, e⟩ := G.ex
  exact pe_glob hg e (rel_str _ _) hd
end
end L2

namespace L2
open PySem PySem.Spec PyProof.Rows
section
variable {X : Cx}
/-! ### a class that is made; a method: all in one -/
structure MkD (P : Program) (w : World) (K : PySem.W.Frag) (mg : Str → Option Value) (base : Heap) (k : Nat) (x : Str) (C : Addr) (ps : List Str) (sp : Sp) : Prop where
  ex : ∃ f fd, Mk K C f ∧ FnOk P w K mg base CX0 k f fd ps sp ∧ Binds K fd ps [] ∧ mg x = some (.ref C)
structure MtD (P : Program) (w : World) (K : PySem.W.Frag) (mg : Str → Option Value) (base : Heap) (k : Nat) (m : Str) (C : Addr) (ps : List Str) (sp : Sp) : Prop where
  ex : ∃ f fd, Meth K C m f ∧ FnOk P w K mg base CX0 k f fd ps sp ∧ Binds K fd ps []
theorem pe_ixK {K : PySem.W.Frag} {a b : Expr} {ta tb : TE} {pos : Pos} {r : PySem.W.Frag → R2} (hK : X.K = K) (hr : IxR X (r X.K)) (ha : PE X a ta) (hb : PE X b tb) (hs : PlainIx b) : PE X (.Subscript a b pos) (tOp (r K) ta tb) := by
  subst hK
  exact pe_ix hr ha hb hs
/-! ### the names' values written out anew -/
def tAt (t : TS) : TS := fun D σ H => ∃ σ', σ = σ' ∧ t D σ' H
/-! ### classes by isinstance: tuples, lists, texts, numbers, truths, None -/
end
end L2

namespace PySem.W
open PySem PySem.Spec PySem.Calls PyProof.Rows Builtin Builtin.ObjectAttr Builtin.Getset_descriptor
/-! ### own classes of refusals: made by ValueError's new, by an own __init__ -/
abbrev veMro : List Value := [.type "ValueError", .type "Exception", .type "BaseException", .type "object"]
def excMk (K : Frag) (C : Addr) : Bool := match K.lookup C with
  | some ⟨.type "type", _, .cls cd, sls⟩ => (match cd.mro, sls.toList with
    | .ref C' :: tlm, [_, _, _, _, some (.builtin n), _] => C' == C && n == "ValueError.__new__" && !cd.hasDel && tailIn K veMro tlm
    | _, _ => false)
  | _ => false
def ExcAt (h : Heap) (C : Addr) (tlm : List Value) : Prop := ∃ N nm q bs hdct sn sub ab col dd q0 q1 q2 q3 q5, h.get? C = some (excClassObj nm q C N bs tlm hdct sn sub ab col dd q0 q1 q2 q3 q5 "ValueError.__new__")
abbrev excTup (us : List Value) : Obj := { cls := .type "tuple", data := .seq us.toArray }
abbrev excNew (C t0 : Addr) : Obj := { cls := .ref C, data := .fields #[.ref t0, .none, .none, .none, .bool false, .none] }
section
variable {prog : Program} {w : World} {A : Around} {K : Frag} {C f : Addr} {R : Result → Shared → Prop} {h : Heap} {g : Array GenState} {d : Drawn} {t : Nat} {os : OsState}
end
end PySem.W

namespace PySem.W
open PySem PySem.Spec PySem.Calls PyProof.Rows Builtin Builtin.ObjectAttr Builtin.Getset_descriptor
/-! ### attributes of a refusal -/
def onlyVE : List Value → Bool
  | .ref _ :: r => onlyVE r
  | .type n :: r => (.type n :: r) == veMro
  | _ => false
def excOver (K : Frag) (C : Addr) : Bool := (clsIn K C).any fun cdt => onlyVE cdt.mro
section
variable {prog : Program} {w : World} {A : Around} {K : Frag} {C x : Addr} {s : Shared} {R : Result → Shared → Prop}
variable {E : Value → Shared → Prop} {vs : Array Value} {sl : Array (Option Value)} {nm : Str} {v : Value}
end
end PySem.W

namespace PySem.W
open PySem PySem.Spec PySem.Calls PyProof.Rows Builtin Builtin.ObjectAttr Builtin.Getset_descriptor
section
variable {prog : Program} {w : World} {A : Around} {K : Frag} {C x : Addr} {s : Shared} {E : Value → Shared → Prop} {ox : Obj} {od : Option Obj} {nm : Str} {v : Value} {Q : Value → Shared → Prop} {expr : Bool}
end
end PySem.W

namespace L2
open PySem PyProof.Rows PySem.Spec PySem.Calls
/-! ### refusals: made and not raised; caught; their dicts -/
def XO (e C : Addr) (d : Option Addr) : HO := .ext fun h => ∃ t0, h.get? e = some ⟨.ref C, d, .fields #[.ref t0, .none, .none, .none, .bool false, .none], #[]⟩
def XC (e C : Addr) (d : Option Addr) : HO := .ext fun h => ∃ vs sl, h.get? e = some ⟨.ref C, d, .fields vs, sl⟩
def XD (a : Addr) (fs : List (Str × V)) : HO := .ext fun h => fs.length ≤ 1000 ∧ ∃ mA, h.Ns1 a mA ∧ (∀ f, RelO (fs.lookup f) (mA f)) ∧ PySem.Within mA (fs.map (·.1))
def IsX (H : Hp) (e C : Addr) (d : Option Addr) : Prop := H e = some (XO e C d) ∨ H e = some (XC e C d)
section
variable {P : Program} {w : World} {H : Hp} {h : Heap} {e C a : Addr} {d : Option Addr} {fs : List (Str × V)}
end
/-- what a class of refusals must have -/
structure ClsX (K : PySem.W.Frag) (C : Addr) : Prop where
  hd : PySem.W.hasDictIn K C = true
  po : PySem.W.excOver K C = true
  sa : PySem.W.findIn K (.ref C) "__setattr__" = some (some (.builtin "object.__setattr__"))
  ga : PySem.W.findIn K (.ref C) "__getattribute__" = some (some (.builtin "BaseException.__getattribute__"))
  gn : PySem.W.findIn K (.ref C) "__getattr__" = some none
section
variable {X : Cx} {pins : List (Addr × Obj)} {σ : St} {H : Hp} {s : Shared} {a C dx : Addr} {d : Option Addr} {fs : List (Str × V)} {f : Str} {v y : V} {u : Value} {A : Around} {E : Value → Shared → Prop}
end
end L2

namespace PySem.W
open PySem PySem.Spec PySem.Calls PyProof.Rows Builtin Builtin.ObjectAttr Builtin.Getset_descriptor
section
variable {prog : Program} {w : World} {A : Around} {K : Frag} {C x t0 : Addr} {s : Shared} {E : Value → Shared → Prop} {od : Option Addr} {Q : Value → Shared → Prop}
end
end PySem.W

namespace PySem.W
open PySem PySem.Spec PySem.Calls PyProof.Rows Builtin Builtin.ObjectAttr Builtin.Getset_descriptor
section
variable {prog : Program} {w : World} {A : Around} {K : Frag} {C x : Addr} {s : Shared} {E : Value → Shared → Prop} {ox : Obj} {od : Obj}
structure ClsAt (K : Frag) (C : Addr) : Prop where
  hd : hasDictIn K C = true
  po : excOver K C = true
  ga : findIn K (.ref C) "__getattribute__" = some (some (.builtin "BaseException.__getattribute__"))
  gn : findIn K (.ref C) "__getattr__" = some none
  ca : findIn K (.ref C) "__class__" = some (some (.builtin "object.__class__"))
  cn : specialIn K (.builtin "object.__class__") "__get__" = some (some (.builtin "getset_descriptor.__get__"))
  ct : takesIn K (.builtin "object.__class__") = some true
end
end PySem.W

namespace L2
open PySem PyProof.Rows PySem.Spec PySem.Calls
theorem ClsX.at {K : PySem.W.Frag} {C : Addr} (c : ClsX K C) (ca : PySem.W.findIn K (.ref C) "__class__" = some (some (.builtin "object.__class__")))
    (cn : PySem.W.specialIn K (.builtin "object.__class__") "__get__" = some (some (.builtin "getset_descriptor.__get__"))) (ct : PySem.W.takesIn K (.builtin "object.__class__") = some true) : PySem.W.ClsAt K C :=
  ⟨c.hd, c.po, c.ga, c.gn, ca, cn, ct⟩
/-- what a class of refusals must have to be made -/
structure MkX (K : PySem.W.Frag) (C f : Addr) : Prop where
  makes : PySem.W.excMk K C = true
  init : PySem.W.findIn K (.ref C) "__init__" = some (some (.ref f))
  fn : PySem.W.isFn K (.ref f) = true
  kp : PySem.W.keepIn K (.ref C) = true
def tMakeX (C : Addr) (sp : Sp) (E : XK) (t : TA) : TE := fun σ H Q => t σ H fun vs H1 => ∀ x, H1 x = none → sp (.ref x :: vs) (upd H1 x (XO x C none)) (fun v H2 => v = .non ∧ Q (.ref x) H2) E
section
variable {X : Cx} {CX : CXT} {k : Nat} {f C : Addr} {fd : FuncData} {ps : List Str} {sp : Sp} {E : XK} {x m : Str} {p pos apos : Pos} {e o : Expr} {es : List Expr} {ta : TE} {t : TA}
/-- Base.__init__(self, ..), Base an own class of refusals without an __init__ of its own -/
structure InX (K : PySem.W.Frag) (B : Addr) : Prop where
  sp : PySem.W.specialIn K (.ref B) "__getattribute__" = some (some (.builtin "type.__getattribute__"))
  rd : PySem.W.readsIn K B (.type "type") = true
  fc : PySem.W.findCls K (.ref B) (.type "type") "__init__" = some (.val (.builtin "ValueError.__init__"))
def tInX (K : PySem.W.Frag) (t : TA) : TE := fun σ H Q => t σ H fun vs H1 => ∃ a C d xs, vs = .ref a :: xs ∧ xs.length ≤ 1000 ∧ H1 a = some (XO a C d) ∧ PySem.W.excMk K C = true ∧ Q .non H1
end
end L2

namespace L2
open PySem PyProof.Rows PySem.Spec PySem.Calls
/-! ### a refusal with its values, whatever the addresses -/
def XF (H : Hp) (e C : Addr) (fs : List (Str × V)) : Prop := ∃ dx, H e = some (XO e C (some dx)) ∧ H dx = some (XD dx fs) ∧ dx ≠ e
theorem XF.keep {H H' : Hp} {e C : Addr} {fs : List (Str × V)} (x : XF H e C fs) (k : Same H H') : XF H' e C fs := let ⟨d, a, b, c⟩ := x; ⟨d, k _ _ a, k _ _ b, c⟩
theorem XF.upd {H : Hp} {e C p : Addr} {fs : List (Str × V)} {o : HO} (x : XF H e C fs) (k : ∀ φ, H p ≠ some (.ext φ)) : XF (L2.upd H p o) e C fs := by
  obtain ⟨d, a, b, c⟩ := x
  have h1 : e ≠ p := fun z => k _ (by rw [← z]; exact a)
  have h2 : d ≠ p := fun z => k _ (by rw [← z]; exact b)
  exact ⟨d, by rw [upd_ne h1]; exact a, by rw [upd_ne h2]; exact b, c⟩
def sFldX (K : PySem.W.Frag) (ta tv : TE) (f : Str) : TS := fun D σ H => tv σ H fun y H1 => ta σ H1 fun x H2 =>
  (∃ a C, x = .ref a ∧ H2 a = some (XO a C none) ∧ ClsX K C ∧ NoAttr K C f ∧ ∀ dx, H2 dx = none → dx ≠ a → D.nx σ (upd (upd H2 dx (XD dx [(f, y)])) a (XO a C (some dx)))) ∨
  (∃ a C dx fs, x = .ref a ∧ IsX H2 a C (some dx) ∧ H2 dx = some (XD dx fs) ∧ dx ≠ a ∧ ClsX K C ∧ NoAttr K C f ∧ fs.length < 1000 ∧ D.nx σ (upd H2 dx (XD dx (putF f y fs))))
def tFldX (K : PySem.W.Frag) (ta : TE) (f : Str) : TE := fun σ H Q => ta σ H fun x H1 => ∃ a C fs v, x = .ref a ∧ XF H1 a C fs ∧ ClsX K C ∧ NoAttr K C f ∧ fs.lookup f = some v ∧ Q v H1
/-- isinstance(e, C) of a refusal -/
structure ClsI (K : PySem.W.Frag) (C : Addr) : Prop where
  c : ClsX K C
  ca : PySem.W.findIn K (.ref C) "__class__" = some (some (.builtin "object.__class__"))
  cn : PySem.W.specialIn K (.builtin "object.__class__") "__get__" = some (some (.builtin "getset_descriptor.__get__"))
  ct : PySem.W.takesIn K (.builtin "object.__class__") = some true
def clV : V → Value
  | .ref a => .ref a
  | .ty n => .type n
  | _ => .none
def rIsX (K : PySem.W.Frag) : List V → Hp → VK → Prop := fun xs H Q => ∃ a C fs c b, xs = [.ref a, c] ∧ XF H a C fs ∧ ClsI K C ∧ (∀ u, RelV c u → u = clV c) ∧ PySem.W.kitOne K (.ref C) (clV c) = some b ∧ Q (.bl b) H
/-- d.update(e), two dicts of ints and texts -/
def rUpd : V → List V → Hp → VK → Prop := fun x vs H Q => ∃ d e kvs more, x = .ref d ∧ vs = [.ref e] ∧ H d = some (.dK kvs) ∧ H e = some (.dK more) ∧ d ≠ e ∧ kvs.length + more.length ≤ 1000 ∧ Q .non (upd H d (.dK (mergeK kvs more)))
section
variable {X : Cx} {o e value : Expr} {f : Str} {pos pos' tpos : Pos} {ta tv : TE}
end
end L2

namespace L2
open PySem PyProof.Rows PySem.Spec PySem.Calls
/-! ### equality of lists and tuples within each other, where they are equal -/
def Deq (K : PySem.W.Frag) (H : Hp) : Nat → V → V → Prop
  | 0, x, y => x = y ∧ flatV x = true
  | n + 1, x, y => (x = y ∧ flatV x = true) ∨ ∃ a b xs ys, x = .ref a ∧ y = .ref b ∧ ((SqL K H a xs ∧ SqL K H b ys) ∨ (SqT K H a xs ∧ SqT K H b ys)) ∧ xs.length = ys.length ∧ ∀ j, j < xs.length → Deq K H n (xs.getD j .non) (ys.getD j .non)
theorem deq_eqAt {X : Cx} {pins : List (Addr × Obj)} {σ : St} {H : Hp} {s : Shared} (I : Inv X pins σ H s) : ∀ (n : Nat) (A : Around) (x y : V) (u v : Value), A.units + n < cLine → Deq X.K H n x y → RelV x u → RelV y v → SeqAt.EqAt A s u v true
  | 0, A, x, y, u, v, _, ⟨e, f⟩, rx, ry => by
    subst e
    have := eqAt_V (A := A) (s := s) rx ry f f
    rwa [eqV_refl f] at this
  | n + 1, A, x, y, u, v, hu, h, rx, ry => by
    rcases h with ⟨e, f⟩ | ⟨a, b, xs, ys, rfl, rfl, hs, hl, he⟩
    · subst e
      have := eqAt_V (A := A) (s := s) rx ry f f
      rwa [eqV_refl f] at this
    · cases rx
      cases ry
      by_cases hab : a = b
      · subst hab; exact SeqAt.EqAt.same _
      have hu1 : A.in1.units + n < cLine := by
        have : A.in1.units = A.units + 1 := by first | rfl | exact Around.units_in1 A
        omega
      refine SeqAt.EqAt.of_refs hab ?_
      rcases hs with ⟨h1, h2⟩ | ⟨h1, h2⟩
      · obtain ⟨its, r1, l1, _⟩ := I.list h1
        obtain ⟨jts, r2, l2, _⟩ := I.list h2
        have e1 := r1.length
        have e2 := r2.length
        have := SeqAt.RcAt.lists (A := A) (e := fun _ => true) l1.isList l2.isList (by simp; omega) (by omega) (fun j q1 q2 => deq_eqAt I n A.in1 _ _ _ _ hu1 (he j (by simp at q1; omega)) (vals_at r1 j q1) (vals_at r2 j q2))
        rwa [show (List.range its.toArray.size).all (fun _ => true) = true from List.all_eq_true.mpr fun _ _ => rfl] at this
      · obtain ⟨its, r1, l1, _⟩ := I.tuple h1
        obtain ⟨jts, r2, l2, _⟩ := I.tuple h2
        have e1 := r1.length
        have e2 := r2.length
        have := SeqAt.RcAt.tuples (A := A) (e := fun _ => true) l1 l2 (by omega) (fun j q1 q2 => deq_eqAt I n A.in1 _ _ _ _ hu1 (he j (by simp at q1; omega)) (vals_at r1 j q1) (vals_at r2 j q2))
        rw [show (List.range (min its.toArray.size jts.toArray.size)).all (fun _ => true) = true from List.all_eq_true.mpr fun _ _ => rfl, Bool.true_and, beq_iff_eq.mpr (by simp; omega)] at this
        exact this
def rEqD (K : PySem.W.Frag) (n : Nat) : R2 := fun x y H Q => ∃ a b xs ys, x = .ref a ∧ y = .ref b ∧ SqL K H a xs ∧ SqL K H b ys ∧ xs.length = ys.length ∧ (∀ j, j < xs.length → Deq K H n (xs.getD j .non) (ys.getD j .non)) ∧ Q (.bl true) H
/-! ### a class of refusals, all in one -/
structure MkXD (P : Program) (w : World) (K : PySem.W.Frag) (mg : Str → Option Value) (base : Heap) (k : Nat) (x : Str) (C : Addr) (ps : List Str) (sp : Sp) : Prop where
  ex : ∃ f fd, MkX K C f ∧ FnOk P w K mg base CX0 k f fd ps sp ∧ Binds K fd ps [] ∧ mg x = some (.ref C)
  few : ps.length ≤ 1000
/-- what is seen of a class of refusals -/
def xcls (K : PySem.W.Frag) (C : Addr) (fs : List Str) : Bool :=
  PySem.W.hasDictIn K C && PySem.W.excOver K C && PySem.W.findIn K (.ref C) "__setattr__" == some (some (.builtin "object.__setattr__")) && PySem.W.findIn K (.ref C) "__getattribute__" == some (some (.builtin "BaseException.__getattribute__")) &&
  PySem.W.findIn K (.ref C) "__getattr__" == some none && PySem.W.findIn K (.ref C) "__class__" == some (some (.builtin "object.__class__")) && fs.all fun f => PySem.W.findIn K (.ref C) f == some none
structure XCl (K : PySem.W.Frag) (C : Addr) (fs : List Str) : Prop where
  i : ClsI K C
  n : ∀ f ∈ fs, NoAttr K C f
  m : PySem.W.excMk K C = true
theorem XCl.of {K : PySem.W.Frag} {C : Addr} {fs : List Str} (h : xcls K C fs = true) (m : PySem.W.excMk K C = true) (cn : PySem.W.specialIn K (.builtin "object.__class__") "__get__" = some (some (.builtin "getset_descriptor.__get__"))) (ct : PySem.W.takesIn K (.builtin "object.__class__") = some true) : XCl K C fs := by
  unfold xcls at h
  simp only [Bool.and_eq_true, beq_iff_eq, List.all_eq_true] at h
  obtain ⟨⟨⟨⟨⟨⟨h1, h2⟩, h3⟩, h4⟩, h5⟩, h6⟩, h7⟩ := h
  exact ⟨⟨⟨h1, h2, h3, h4, h5⟩, h6, cn, ct⟩, fun f hf => h7 f hf, m⟩
end L2

namespace L2
open PySem PyProof.Rows PySem.Spec PySem.Calls
/-- which class is under which, of a list of classes of refusals and what they are all under -/
def kitTab (K : PySem.W.Frag) (cs : List Addr) (b : Addr) : Bool :=
  (List.range cs.length).all fun i => PySem.W.kitOne K (.ref (cs.getD i 0)) (.ref b) == some true && PySem.W.kitOne K (.ref (cs.getD i 0)) (.type "ValueError") == some true && (List.range cs.length).all fun j => PySem.W.kitOne K (.ref (cs.getD i 0)) (.ref (cs.getD j 0)) == some (i == j)
theorem valV_at {kvs : List (Key × V)} {ks : List Key} {j : Nat} {k : Key} {v : V} (e : kvs.map (·.1) = ks) (n : ks.Nodup) (h : kvs[j]? = some (k, v)) : valV kvs k = some v := by
  subst e
  unfold valV
  induction kvs generalizing j with
  | nil => cases h
  | cons p r ih =>
    rw [List.map_cons, List.nodup_cons] at n
    cases j with
    | zero =>
      cases Option.some.inj h
      rw [List.find?_cons_of_pos (by simp)]
      rfl
    | succ j =>
      have h' : r[j]? = some (k, v) := h
      have ne : p.1 ≠ k := fun z => n.1 (List.mem_map.mpr ⟨(k, v), List.mem_of_getElem? h', z.symm⟩)
      rw [List.find?_cons_of_neg (by simpa using ne)]
      exact ih h' n.2
theorem DGet.look {H : Hp} {a : Addr} {kvs : List (Key × V)} {ks : List Key} {j : Nat} {k : Key} {v : V} (eH : H a = some (.dK kvs)) (e : kvs.map (·.1) = ks) (n : ks.Nodup) (h : kvs[j]? = some (k, v)) : DGet H a (kV k) (some v) := by
  rw [← valV_at e n h]
  exact DGet.k eH
/-! ### a text's own copy, of texts, lists of these, a pair of a text and such a list, a list of one such pair -/
def spC (m : Nat) : Sp := fun vs H Q _ =>
  (1 ≤ m ∧ ∃ z : Str, vs = [.str z] ∧ Q (.str z) H) ∨
  (2 ≤ m ∧ ∃ (a : Addr) (zs : List Str), vs = [.ref a] ∧ H a = some (.lst (zs.map V.str)) ∧ zs.length ≤ 100 ∧ ∀ p H', Same H H' → H p = none → H' p = some (.lst (zs.map V.str)) → Q (.ref p) H') ∨
  (3 ≤ m ∧ ∃ (a l : Addr) (z : Str) (zs : List Str), vs = [.ref a] ∧ H a = some (.tup [.str z, .ref l]) ∧ H l = some (.lst (zs.map V.str)) ∧ zs.length ≤ 100 ∧
    ∀ p q H', Same H H' → H p = none → H q = none → H' p = some (.tup [.str z, .ref q]) → H' q = some (.lst (zs.map V.str)) → Q (.ref p) H') ∨
  (4 ≤ m ∧ ∃ (a b l : Addr) (z : Str) (zs : List Str), vs = [.ref a] ∧ H a = some (.lst [.ref b]) ∧ H b = some (.tup [.str z, .ref l]) ∧ H l = some (.lst (zs.map V.str)) ∧ zs.length ≤ 100 ∧
    ∀ r p q H', Same H H' → H r = none → H' r = some (.lst [.ref p]) → H' p = some (.tup [.str z, .ref q]) → H' q = some (.lst (zs.map V.str)) → Q (.ref r) H')
theorem Fun.never {P : Program} {w : World} {K : PySem.W.Frag} {mg : Str → Option Value} {base : Heap} {x qual : Str} {st : Stmt} {f : Addr} {fd : FuncData} (_F : Fun K x qual st f fd) : FnOk P w K mg base CX0 0 f fd ["value"] (spC 0) := by
  have no : ∀ vs H Q E, spC 0 vs H Q E → False := fun vs H Q E h => by
    rcases h with h | h | h | h <;> exact absurd h.1 (by decide)
  exact ⟨fun vs H Q E q => (no _ _ _ _ q).elim, fun A outer s H args us vs Q E _ _ _ _ hs => (no _ _ _ _ hs).elim⟩
end L2

namespace PySem.W
open PySem
/-! ### an exception passes a frame: what stays -/
structure Noted (e : Addr) (cl : Value) (d : Option Addr) (fr : List Addr) (off : Addr → Prop) (h h' : Heap) : Prop where
  exc : ∃ vs sl T oT ts, h'.get? e = some ⟨cl, d, .fields vs, sl⟩ ∧ vs[1]? = some (.ref T) ∧ T ≠ e ∧ h.objs.size ≤ T ∧ h'.get? T = some oT ∧ oT.data = .fields ts ∧ ts[3]? = some .none
  keep : ∀ b o, b ≠ e → ¬ off b → b ∉ fr → h.get? b = some o → h'.get? b = some o
  slot : ∀ b o, b ≠ e → ¬ off b → h.get? b = some o → ∃ sl, h'.get? b = some { o with slots := sl }
abbrev tbObj (ws : Array Value) : Obj := { cls := .type "traceback", dict := none, data := .fields ws }
section
variable {M : Model} {E : Value → Shared → Prop} {A : Around} {s : Shared}
/-- the record of the way so far -/
def HeadAt (h : Heap) (e T : Addr) : Prop := T ≠ e ∧ ∃ oT ts, h.get? T = some oT ∧ oT.data = .fields ts ∧ ts[3]? = some .none
end
end PySem.W

namespace L2
open PySem PyProof.Rows PySem.Spec PySem.Calls
/-! ### refusals that pass: how one lies behind a call -/
def TrX (n : Nat) (H : Hp) (ea : Addr) (h : Heap) : Prop := ∃ cl d vs sl T, h.get? ea = some ⟨cl, d, .fields vs, sl⟩ ∧ vs[1]? = some (.ref T) ∧ PySem.W.HeadAt h ea T ∧ n ≤ T ∧ H T = none
def CXe (P : Program) (w : World) : CXT := fun outer H s E e s' => ∃ ea C d H', e = .ref ea ∧ s'.os = s.os ∧ AllBare s'.gens ∧ Un (frs outer) [] H H' s.heap s'.heap ∧ HOk P w H' s'.heap ∧ H' ea = some (XC ea C d) ∧
  TrX s.heap.objs.size H' ea s'.heap ∧ E (.ref C) (some ea) H'
/-- .. in a body -/
def TrI (X : Cx) (pins : List (Addr × Obj)) (H : Hp) (ea : Addr) (h : Heap) : Prop := ∃ cl d vs sl T, h.get? ea = some ⟨cl, d, .fields vs, sl⟩ ∧ vs[1]? = some (.ref T) ∧ PySem.W.HeadAt h ea T ∧ X.s₀.heap.objs.size ≤ T ∧ H T = none ∧
  T ≠ X.env.locals ∧ (∀ x c, X.env.cells.lookup x = some c → c ≠ T) ∧ ∀ p ∈ X.pn ++ pins, p.1 ≠ T
/-- the frame of a def runs on top -/
structure Top (X : Cx) : Prop where
  ex : X.ex = []
  stk : X.stack = X.env :: X.outer
  fr : X.env.frame = some X.env.locals
def PassesS (X : Cx) (G : St → XK) : Prop := ∀ (pins : List (Addr × Obj)) (σ : St) (H : Hp) (s : Shared) (e : Value) (s' : Shared), Inv X pins σ H s → CXe X.prog X.w X.stack H s (G σ) e s' → X.xe e s'
def RaisesS (X : Cx) (G : St → XK) : Prop := ∀ (pins : List (Addr × Obj)) (σ : St) (H : Hp) (s : Shared) (ea C : Addr) (d : Option Addr), Inv X pins σ H s → H ea = some (XO ea C d) → G σ (.ref C) (some ea) (upd H ea (XC ea C d)) → X.xe (.ref ea) s
abbrev G0 : St → XK := fun _ _ _ _ => False
theorem passE0 {X : Cx} : PassesS X G0 := fun _ _ _ _ _ _ _ ⟨_, _, _, _, _, _, _, _, _, _, _, z⟩ => z.elim
section
variable {X : Cx} {pins : List (Addr × Obj)} {σ : St} {H H' : Hp} {s s' : Shared} {ea C : Addr} {d : Option Addr} {h' : Heap}
theorem TrI.tr (t : TrI X pins H ea h') : TrX X.s₀.heap.objs.size H ea h' := let ⟨cl, d, vs, sl, T, a, b, c, e, f, _⟩ := t; ⟨cl, d, vs, sl, T, a, b, c, e, f⟩
end
/-! ### a def that lets refusals pass -/
section
variable {P : Program} {w : World} {K : PySem.W.Frag} {mg : Str → Option Value} {base : Heap} {N ps : List Str} {qual x : Str} {scope : Scope} {f : Addr} {cd : Value} {A : Around} {outer : List Env} {s : Shared} {H : Hp} {E : XK} {k : Nat}
abbrev cxE (P : Program) (w : World) (K : PySem.W.Frag) (mg : Str → Option Value) (base : Heap) (N : List Str) (qual : Str) (scope : Scope) (f : Addr) (cd : Value) (A : Around) (outer : List Env) (s : Shared) (H : Hp) (E : XK) : Cx :=
  cxOf (CXe P w) P w K mg base N qual scope f cd A outer s H E
theorem FnOk.lift {CX : CXT} {fd : FuncData} {sp : Sp} (F : FnOk P w K mg base CX0 k f fd ps sp) : FnOk P w K mg base CX k f fd ps sp :=
  ⟨F.len, fun A outer s H args us vs Q E hr e0 hb r h => codeAny_mono (F.run A outer s H args us vs Q E hr e0 hb r h) fun r s' q => match r, q with
    | .ok (.ret _), q => q
    | .ok .next, q => q
    | .ok .brk, q => q
    | .ok .cont, q => q
    | .error _, q => False.elim q⟩
structure DfE (P : Program) (w : World) (K : PySem.W.Frag) (mg : Str → Option Value) (base : Heap) (k : Nat) (x : Str) (ps : List Str) (sp : Sp) : Prop where
  ex : ∃ f fd, FnOk P w K mg base (CXe P w) k f fd ps sp ∧ Binds K fd ps [] ∧ PySem.W.keepIn K (.ref f) = true ∧ mg x = some (.ref f)
structure MtE (P : Program) (w : World) (K : PySem.W.Frag) (mg : Str → Option Value) (base : Heap) (k : Nat) (m : Str) (C : Addr) (ps : List Str) (sp : Sp) : Prop where
  ex : ∃ f fd, Meth K C m f ∧ FnOk P w K mg base (CXe P w) k f fd ps sp ∧ Binds K fd ps []
theorem MtD.e {m : Str} {C : Addr} {sp : Sp} (D : MtD P w K mg base k m C ps sp) : MtE P w K mg base k m C ps sp := let ⟨f, fd, a, b, c⟩ := D.ex; ⟨f, fd, a, b.lift, c⟩
theorem Dfn.e {sp : Sp} (D : Dfn P w K mg base k x ps sp) : DfE P w K mg base k x ps sp := let ⟨f, fd, a, b, c⟩ := D.ex; ⟨f, fd, a.lift, b, c⟩
end
/-! ### calls -/
def tCallE (sp : Sp) (G : St → XK) (t : TA) : TE := fun σ H Q => t σ H fun vs H1 => sp vs H1 Q (G σ)
/-- o.m(..), whatever own class o is of: the method is told by the reading -/
def tMethE (P : Program) (w : World) (K : PySem.W.Frag) (mg : Str → Option Value) (base : Heap) (k : Nat) (m : Str) (G : St → XK) (ta : TE) (t : TA) : TE := fun σ H Q => ta σ H fun x H1 => ∃ a C dx fs ps sp, x = .ref a ∧ H1 a = some (.ins C dx fs) ∧ fs.lookup m = none ∧ Cls K C ∧ MtE P w K mg base k m C ps sp ∧
  t σ H1 fun vs H2 => sp (x :: vs) H2 Q (G σ)
section
variable {X : Cx} {k : Nat} {ps : List Str} {sp : Sp} {G : St → XK} {x m : Str} {p pos apos : Pos} {e o : Expr} {es : List Expr} {ta : TE} {t : TA}
theorem run_fnE {pins : List (Addr × Obj)} {σ : St} {H : Hp} {s : Shared} {Q : VK} {us : List Value} {vs : List V} {f : Addr} {fd : FuncData} (F : FnOk X.prog X.w X.K X.mg X.base (CXe X.prog X.w) k f fd ps sp) (hr : Room k X.A) (hb : Binds X.K fd ps []) (hx : PassesS X G)
    (I : Inv X pins σ H s) (r : Vals vs us) (h : sp vs H Q (G σ)) : wpAny (model X.prog X.w) X.A (call (.ref f) us) (EP X pins σ Q) X.xe s := by
  have hl : us.length = ps.length := by rw [← r.length]; exact F.len _ _ _ _ h
  have hb2 := hb s us I.kIn (by rw [List.append_nil]; exact hl)
  rw [List.append_nil] at hb2
  refine wpAny_call (codeAny_mono (F.run X.A X.stack s H ⟨us, []⟩ us vs Q (G σ) hr I.env0 hb2 r h) fun r s' hq => ?_)
  cases r with
  | error e => exact hx pins σ H s e s' I hq
  | ok fl =>
    cases fl with
    | ret u => exact I.after hq
    | next => exact False.elim hq
    | brk => exact False.elim hq
    | cont => exact False.elim hq
theorem pe_methE {pl : Sem Bool} (k : Nat) (hx : PassesS X G) (hr : Room k X.A) (he : PE X o ta) (ha : PA X (e :: es) t)
    (hst : starEach (e :: es) X.env = (false, eval e X.env) :: starEach es X.env := by rfl) (hpl : (backTo pos (starEach es X.env)).any (·.1) = false := by rfl)
    (ht : eval (.Call (.Attribute o m apos) (e :: es) [] pos) X.env = (do
      let ov ← eval o X.env
      standAt apos.atName
      let (f, first) ← holding [ov] (getMethod ov m pl)
      callWith pos f first (backTo pos (starEach (e :: es) X.env)) (backToKw pos (keywordEach [] X.env))) := by rfl) :
    PE X (.Call (.Attribute o m apos) (e :: es) [] pos) (tMethE X.prog X.w X.K X.mg X.base k m G ta t) := by
  intro pins s σ H Q I h
  refine PySem.W.methodCall_KW (pl := pl) (thn (he pins s σ H _ I h) fun u s1 ⟨x, H1, I1, rx, a, C, dx, fs, ps, sp, ex, ea, l, c, D, q⟩ => ?_) ht
  subst ex
  obtain rfl : u = Value.ref a := rx
  obtain ⟨f, fd, hm, F, b⟩ := D.ex
  refine getmeth_ok I1 ea c hm l ?_
  refine PySem.W.callWith_K (first := [.ref a]) (h₀ := X.base) I.ok.mod.kin hm.kp (thn (ha pos pins s1 σ H1 _ I1 q) fun us s2 ⟨vs, H2, I2, r, q2⟩ => ⟨I2.kIn, ?_⟩) hst hpl
  exact run_fnE (us := .ref a :: us) (vs := .ref a :: vs) F hr b hx I2 (.cons rfl r) q2
end
end L2

namespace PySem.W
open PySem PyProof.Rows PySem.Spec PySem.Calls
/-! ### raising and catching own refusals -/
def mroHas (K : Frag) (C : Addr) (c : Value) : Bool := match K.lookup C with
  | some ⟨_, _, .cls cd, _⟩ => cd.mro.contains c
  | _ => false
section
variable {M : Model} {A : Around} {E : Value → Shared → Prop} {env : Env} {K : Frag}
end
end PySem.W
namespace L2
open PySem PyProof.Rows PySem.Spec PySem.Calls
def tRaise (K : PySem.W.Frag) (G : St → XK) (te : TE) : TS := fun _ σ H => te σ H fun v H1 => ∃ ea C d, v = .ref ea ∧ H1 ea = some (XO ea C d) ∧ PySem.W.excMk K C = true ∧ G σ (.ref C) (some ea) (upd H1 ea (XC ea C d))
abbrev Cx.caught (X : Cx) (ea : Addr) : Cx := { X with A := X.A.mark (some (.ref ea)), calm := false, xe := fun _ _ => False }
abbrev Cx.inTry (X : Cx) (ps : List (Addr × Obj)) (xe : Value → Shared → Prop) : Cx := { X with pn := X.pn ++ ps, xe := xe }
section
variable {X : Cx} {pins : List (Addr × Obj)} {σ : St} {H : Hp} {s : Shared} {ea : Addr}
theorem Cx.Ok.caught (ok : X.Ok) : (X.caught ea).Ok :=
  ⟨ok.mod, ok.kind, ok.glob, ok.blt, ok.above, ok.inj, ok.has, ok.cab, (fun z => nomatch z), ok.frames, ok.stk, ok.exf, ok.bs, ok.bsz, ok.noex, ok.exfs, ok.funs, ok.frf⟩
theorem Inv.caught (I : Inv X pins σ H s) : Inv (X.caught ea) pins σ H s := ⟨I.ok.caught, I.os, I.bare, I.base, I.loc, I.cell, I.free, I.freeC, I.pin, I.hok, I.len⟩
theorem Cx.Ok.inTry {ps : List (Addr × Obj)} {xe : Value → Shared → Prop} (ok : X.Ok) : (X.inTry ps xe).Ok :=
  ⟨ok.mod, ok.kind, ok.glob, ok.blt, ok.above, ok.inj, ok.has, ok.cab, ok.hd, ok.frames, ok.stk, ok.exf, ok.bs, ok.bsz, ok.noex, ok.exfs, ok.funs, ok.frf⟩
theorem Inv.inTry {xe : Value → Shared → Prop} (I : Inv X pins σ H s) : Inv (X.inTry pins xe) [] σ H s := ⟨I.ok.inTry, I.os, I.bare, I.base, I.loc, I.cell, I.free, I.freeC, fun p hp => I.pin p (by rw [← List.append_nil (X.pn ++ pins)]; exact hp), I.hok, I.len⟩
end
/-! ### handlers -/
abbrev TH := Ends → St → Hp → Addr → Addr → Prop
def PH (X : Cx) (hs : List ExceptHandler) (t : TH) : Prop := ∀ (pins : List (Addr × Obj)) (s : Shared) (σ : St) (H : Hp) (D : Ends) (ea C : Addr) (d : Option Addr), Inv X pins σ H s → H ea = some (XC ea C d) → TrI X pins H ea s.heap → t D σ H C ea →
  wpAny (model X.prog X.w) X.A (handleBy (.ref ea) X.env hs) (SP X pins D) X.xe s
def tNoH : TH := fun _ _ _ _ _ => False
def Ends.less (D : Ends) (i : Nat) : Ends := { nx := fun σ H => D.nx (σ.set i none) H, rt := D.rt, bk := fun σ H => D.bk (σ.set i none) H, ct := fun σ H => D.ct (σ.set i none) H }
def tAs (K : PySem.W.Frag) (B : Addr) (i : Nat) (ts : TS) (tr : TH) : TH := fun D σ H C ea => PySem.W.excMk K C = true ∧ PySem.W.excMk K B = true ∧ ∃ b, PySem.W.mroHas K C (.ref B) = b ∧ if b = true then ts (D.less i) (σ.set i (some (.ref ea))) H else tr D σ H C ea
def tTry (tb : (St → XK) → TS) (th : TH) : TS := fun D σ H => tb (fun σ' c oa H' => ∃ C ea, c = .ref C ∧ oa = some ea ∧ th D σ' H' C ea) D σ H
section
variable {X : Cx}
end
end L2

namespace L2
open PySem PyProof.Rows PySem.Spec PySem.Calls
/-! ### own classes by isinstance; caught refusals; Base.__init__ of own classes -/
def XG (H : Hp) (e C : Addr) (fs : List (Str × V)) : Prop := ∃ dx, IsX H e C (some dx) ∧ H dx = some (XD dx fs) ∧ dx ≠ e
theorem XF.g {H : Hp} {e C : Addr} {fs : List (Str × V)} (x : XF H e C fs) : XG H e C fs := let ⟨d, a, b, c⟩ := x; ⟨d, .inl a, b, c⟩
theorem XG.keep {H H' : Hp} {e C : Addr} {fs : List (Str × V)} (x : XG H e C fs) (k : Same H H') : XG H' e C fs := by
  obtain ⟨d, a, b, c⟩ := x
  rcases a with a | a
  · exact ⟨d, .inl (k _ _ a), k _ _ b, c⟩
  · exact ⟨d, .inr (k _ _ a), k _ _ b, c⟩
/-- a raised one -/
theorem XF.raised {H : Hp} {e C : Addr} {fs : List (Str × V)} (x : XF H e C fs) : ∃ dx, H e = some (XO e C (some dx)) ∧ XG (L2.upd H e (XC e C (some dx))) e C fs :=
  let ⟨d, a, b, c⟩ := x
  ⟨d, a, d, .inr upd_same, by rw [upd_ne c]; exact b, c⟩
def rIsO (K : PySem.W.Frag) : List V → Hp → VK → Prop := fun xs H Q => ∃ x c t b, xs = [x, c] ∧ TyOf K H x t ∧ (∀ u, RelV c u → u = clV c) ∧ PySem.W.kitOne K t (clV c) = some b ∧ Q (.bl b) H
def rIsG (K : PySem.W.Frag) : List V → Hp → VK → Prop := fun xs H Q => ∃ a C fs c b, xs = [.ref a, c] ∧ XG H a C fs ∧ ClsI K C ∧ (∀ u, RelV c u → u = clV c) ∧ PySem.W.kitOne K (.ref C) (clV c) = some b ∧ Q (.bl b) H
def rIsGT (K : PySem.W.Frag) : List V → Hp → VK → Prop := fun xs H Q => ∃ a C fs tp cs b, xs = [.ref a, .ref tp] ∧ XG H a C fs ∧ ClsI K C ∧ H tp = some (.tup cs) ∧ (∀ c ∈ cs, ∀ u, RelV c u → u = clV c) ∧ PySem.W.kitAny K (.ref C) (cs.map clV) = some b ∧ Q (.bl b) H
def tFldG (K : PySem.W.Frag) (ta : TE) (f : Str) : TE := fun σ H Q => ta σ H fun x H1 => ∃ a C fs v, x = .ref a ∧ XG H1 a C fs ∧ ClsX K C ∧ NoAttr K C f ∧ fs.lookup f = some v ∧ Q v H1
section
variable {X : Cx} {e o : Expr} {es : List Expr} {f x : Str} {p pos apos : Pos} {ta : TE} {t : TA} {k : Nat} {ps : List Str} {sp : Sp}
/-- Base.__init__(self, ..), Base an own class with an __init__ of its own -/
structure InO (K : PySem.W.Frag) (B f : Addr) : Prop where
  sp : PySem.W.specialIn K (.ref B) "__getattribute__" = some (some (.builtin "type.__getattribute__"))
  rd : PySem.W.readsIn K B (.type "type") = true
  fc : PySem.W.findCls K (.ref B) (.type "type") "__init__" = some (.val (.ref f))
structure InD (P : Program) (w : World) (K : PySem.W.Frag) (mg : Str → Option Value) (base : Heap) (k : Nat) (x : Str) (B : Addr) (ps : List Str) (sp : Sp) : Prop where
  ex : ∃ f fd, InO K B f ∧ FnOk P w K mg base CX0 k f fd ps sp ∧ Binds K fd ps [] ∧ PySem.W.keepIn K (.ref f) = true ∧ mg x = some (.ref B)
theorem pe_makeD0 {C : Addr} (D : MkD X.prog X.w X.K X.mg X.base k x C ps sp) (hr : Room (k + 1) X.A) (hg : Gl X x) (hdb : (x == ("__debug__" : Str)) = false := by decide) : PE X (.Call (.Name x p) [] [] pos) (tMake C sp [] E0 tNil) := by
  obtain ⟨f, fd, M, F, b, m⟩ := D.ex
  exact pe_make0 M F hr hg m b .nil pass0 hdb
end
section
variable {P : Program} {w : World} {K : PySem.W.Frag} {mg : Str → Option Value} {base : Heap} {j k : Nat} {x m : Str} {C : Addr} {ps : List Str} {sp : Sp}
theorem MtE.mono (D : MtE P w K mg base j m C ps sp) (h : j ≤ k) : MtE P w K mg base k m C ps sp := let ⟨f, fd, a, b, c⟩ := D.ex; ⟨f, fd, a, b.mono h, c⟩
theorem DfE.mono (D : DfE P w K mg base j x ps sp) (h : j ≤ k) : DfE P w K mg base k x ps sp := let ⟨f, fd, a, b⟩ := D.ex; ⟨f, fd, a.mono h, b⟩
end
end L2
namespace L2
open PySem PyProof.Rows PySem.Spec PySem.Calls
structure OwnTy (K : PySem.W.Frag) (C : Addr) : Prop where
  ha : PySem.W.findIn K (.ref C) "__class__" = some (some (.builtin "object.__class__"))
  hn : PySem.W.specialIn K (.builtin "object.__class__") "__get__" = some (some (.builtin "getset_descriptor.__get__"))
  tk : PySem.W.takesIn K (.builtin "object.__class__") = some true
  hm : PySem.W.mroIn K C (.type "object") = some true
theorem OwnTy.ty {K : PySem.W.Frag} {C a dx : Addr} {H : Hp} {fs : List (Str × V)} (o : OwnTy K C) (cl : Cls K C) (e : H a = some (.ins C dx fs)) : TyOf K H (.ref a) (.ref C) := .ins e cl o.ha o.hn o.tk o.hm
theorem ixN_nat {n j : Nat} (h : j < n) : ixN n (j : Int) = some j := by
  unfold ixN
  simp [h]
end L2
namespace L2
open PySem PyProof.Rows PySem.Spec PySem.Calls
section
variable {X : Cx} {P : Program} {w : World} {K : PySem.W.Frag} {mg : Str → Option Value} {base : Heap} {G : St → XK} {m : Str} {pos apos : Pos} {e o : Expr} {es : List Expr} {ta : TE} {t : TA}
end
end L2
namespace L2
open PySem PyProof.Rows PySem.Spec PySem.Calls
section
variable {X : Cx} {K : PySem.W.Frag} {e : Expr} {f : Str} {pos : Pos} {ta : TE}
end
end L2

namespace L2
open PySem PySem.Spec PyProof.Rows
/-! ### ranges with a step -/
def Its (lo d : Int) (n : Nat) : It := ⟨fun i _ => i < n, fun i H x H' => H' = H ∧ x = .int (lo + i * d), fun i _ => n ≤ i⟩
section
variable {X : Cx} {tg : Expr}
/-- range(i, j, d), d above 0 -/
def iRng3 (ta : TA) : TI := fun σ H R => ta σ H fun vs H1 => ∃ i j d : Int, vs = [.int i, .int j, .int d] ∧ (-(2 ^ 60) ≤ i ∧ i < 2 ^ 60 ∧ -(2 ^ 60) ≤ j ∧ j < 2 ^ 60 ∧ 0 < d ∧ d < 2 ^ 29) ∧ R (Its i d (if i < j then (j - i - 1) / d + 1 else 0).toNat) H1
end
end L2
namespace L2
open PySem PySem.Spec PyProof.Rows
/-! ### a comprehension whose items are new things -/
def New (H H' : Hp) (G : Hp → Prop) : Prop := ∃ S : Addr → Prop, (∀ b, S b → H b = none ∧ ∃ o, H' b = some o) ∧ ∀ H3, (∀ b, S b → H3 b = H' b) → G H3
theorem compB_mk {J : It} {tc : TT} {te : TE} {σf : Option V → St} {H1 : Hp} {Q : VK} {xs : List V} (S : Seq J H1 xs) (G : V → V → Hp → Prop) (hz : xs.length < sizeLine)
    (hc : ∀ x ∈ xs, ∀ (H' : Hp) (R : Bool → Hp → Prop), Same H1 H' → R true H' → tc (σf (some x)) H' R)
    (he : ∀ x ∈ xs, ∀ (H' : Hp) (R : VK), Same H1 H' → (∀ y H'', Same H' H'' → New H' H'' (G x y) → R y H'') → te (σf (some x)) H' R)
    (q : ∀ D H' ys, Same H1 H' → H1 D = none → H' D = some (.lst ys) → ys.length = xs.length → (∀ (i : Nat) x y, xs[i]? = some x → ys[i]? = some y → G x y H') → Q (.ref D) H') : CompB J tc te σf H1 Q := by
  intro D hD
  refine ⟨fun i m ys H2 => m = xs.length - i ∧ i ≤ xs.length ∧ Same H1 H2 ∧ H2 D = some (.lst ys) ∧ ys.length = i ∧ ∀ (k : Nat) x y, xs[k]? = some x → ys[k]? = some y → ∃ Z : Addr → Prop, (∀ b, Z b → b ≠ D ∧ ∃ o, H2 b = some o) ∧ ∀ H3, (∀ b, Z b → H3 b = H2 b) → G x y H3,
    ⟨xs.length, rfl, Nat.zero_le _, same_new hD _, upd_same, rfl, fun k x y _ e => by simp at e⟩, ?_⟩
  rintro i m ys H2 ⟨rfl, hi, sm, hD2, hl, hg⟩
  refine ⟨hD2, ?_⟩
  by_cases hlt : i < xs.length
  · refine .inr ⟨S.go i H2 sm hlt, by omega, fun x H3 y => ?_⟩
    obtain ⟨e, hx⟩ := S.yld i H2 x H3 sm hlt y
    subst e
    have mem : x ∈ xs := List.mem_of_getElem? hx
    refine hc x mem _ _ sm (iteT (he x mem _ _ sm fun yv H5 s5 ny => ⟨s5 _ _ hD2, xs.length - (i + 1), by omega, rfl, hlt, same_on hD (sm.trans s5) _, upd_same, by rw [List.length_append, hl]; rfl, fun k x' y' ex ey => ?_⟩))
    by_cases hk : k < i
    · rw [List.getElem?_append_left (by omega)] at ey
      obtain ⟨Z, z1, z2⟩ := hg k x' y' ex ey
      refine ⟨Z, fun b hb => ?_, fun H6 h6 => z2 H6 fun b hb => ?_⟩
      · obtain ⟨nb, o, ho⟩ := z1 b hb
        exact ⟨nb, o, by rw [upd_ne nb]; exact s5 _ _ ho⟩
      · obtain ⟨nb, o, ho⟩ := z1 b hb
        rw [h6 b hb, upd_ne nb, s5 _ _ ho, ho]
    · have ek : k = i := by
        have := (List.getElem?_eq_some_iff.mp ey).1
        rw [List.length_append, hl] at this
        have : k < i + 1 := this
        omega
      subst ek
      rw [List.getElem?_append_right (by omega), hl, Nat.sub_self] at ey
      obtain rfl : yv = y' := Option.some.inj ey
      obtain rfl : x = x' := Option.some.inj (hx.symm.trans ex)
      obtain ⟨Z, z1, z2⟩ := ny
      have nD : ∀ b, Z b → b ≠ D := fun b hb e => by
        have := (z1 b hb).1
        rw [e, hD2] at this
        cases this
      refine ⟨Z, fun b hb => ?_, fun H6 h6 => z2 H6 fun b hb => ?_⟩
      · obtain ⟨_, o, ho⟩ := z1 b hb
        exact ⟨nD b hb, o, by rw [upd_ne (nD b hb)]; exact ho⟩
      · rw [h6 b hb, upd_ne (nD b hb)]
  · have e : i = xs.length := by omega
    refine .inl ⟨by rw [e]; exact S.stop H2 sm, q D H2 ys sm hD hD2 (by omega) fun k x y ex ey => ?_⟩
    obtain ⟨Z, _, z2⟩ := hg k x y ex ey
    exact z2 H2 fun _ _ => rfl
end L2
namespace L2
open PySem PySem.Spec PyProof.Rows
/-! ### xs.index(y), of flat things -/
def ofVal : Value → V
  | .bool b => .bl b
  | .int i _ => .int i
  | .str x _ => .str x
  | .bytes b _ => .byt b
  | .float b _ => .flt b
  | .ref a => .ref a
  | .type n => .ty n
  | _ => .non
def rIndex : V → List V → Hp → VK → Prop := fun x vs H Q => ∃ l xs y j, x = .ref l ∧ vs = [y] ∧ H l = some (.lst xs) ∧ xs.all flatV = true ∧ flatV y = true ∧ xs.length ≤ 1000 ∧ j < xs.length ∧ eqV (xs.getD j .non) y = true ∧ (∀ m, m < j → eqV (xs.getD m .non) y = false) ∧ Q (.int (j : Nat)) H
end L2

namespace L2
open PySem PyProof.Rows PySem.Spec PySem.Calls
/-! ### == and != of what is equal all through -/
def rDq (K : PySem.W.Frag) (n : Nat) (b : Bool) : R2 := fun x y H Q => ∃ a c xs ys, x = .ref a ∧ y = .ref c ∧ ((SqL K H a xs ∧ SqL K H c ys) ∨ (SqT K H a xs ∧ SqT K H c ys)) ∧ xs.length = ys.length ∧ (∀ j, j < xs.length → Deq K H n (xs.getD j .non) (ys.getD j .non)) ∧ Q (.bl b) H
theorem in1_units {A : Around} {n : Nat} (h : A.units + (n + 1) < cLine) : A.in1.units + n < cLine := by
  have : A.in1.units = A.units + 1 := by first | rfl | exact Around.units_in1 _
  omega
end L2
namespace L2
open PySem PyProof.Rows PySem.Spec PySem.Calls
theorem hu_n {A : Around} {k : Nat} (hr : Room k A) (n : Nat) (h : n ≤ 60) : A.units + (n + 1) < cLine := Nat.lt_of_le_of_lt (Nat.add_le_add_left (by omega : n + 1 ≤ 64) _) hr.units
end L2


namespace L2
open PySem PyProof.Rows PySem.Spec PySem.Calls
/-! ### comprehensions over pairs -/
def inSt2 (frees : List (Str × Nat)) (σ : St) (x y : Option V) : St := x :: y :: frees.map fun p => (σ[p.2]?).join
def CompB2 (K : PySem.W.Frag) (J : It) (tc : TT) (te : TE) (σf : Option V → Option V → St) (H1 : Hp) (Q : VK) : Prop := ∀ D, H1 D = none →
  ∃ W : Nat → Nat → List V → Hp → Prop, (∃ m, W 0 m [] (upd H1 D (.lst []))) ∧ ∀ i m ys H2, W i m ys H2 → H2 D = some (.lst ys) ∧
    ((J.stop i H2 ∧ Q (.ref D) H2) ∨ (J.go i H2 ∧ ys.length < sizeLine ∧ ∀ z H3, J.yld i H2 z H3 → ∃ a x x2, z = .ref a ∧ SqT K H3 a [x, x2] ∧ tc (σf (some x) (some x2)) H3 fun b H4 =>
      if b = true then te (σf (some x) (some x2)) H4 fun y H5 => H5 D = some (.lst ys) ∧ ∃ m', m' < m ∧ W (i + 1) m' (ys ++ [y]) (upd H5 D (.lst (ys ++ [y]))) else ∃ m', m' < m ∧ W (i + 1) m' ys H4))
section
variable {X : Cx} {elt iter : Expr} {x x2 : Str} {px px2 tp pos : Pos} {kk : Nat} {ifs : List Expr} {scope : Scope} {frees : List (Str × Nat)} {tc : TT} {te : TE}
structure CompOk2 (X : Cx) (scope : Scope) (x x2 : Str) (frees : List (Str × Nat)) : Prop where
  cell : ∀ y ∈ scope.names, y.2 ≠ .cell
  kind : scope.kind = .function
  own : scope.names.lookup x = some .local
  own2 : scope.names.lookup x2 = some .local
  names : ∀ y ∈ scope.names, y.2 = .local → scope.names.lookup y.1 = some .local
  fr : FreesOk X scope frees
  nd : (x :: x2 :: frees.map (·.1)).Nodup
  cl : ∀ p ∈ scope.names, p.2 = .free → (X.env.cells.lookup p.1).isSome = true
  calm : X.calm = true
/-- [elt for x in iter if ..] -/
def tComp2 (K : PySem.W.Frag) (frees : List (Str × Nat)) (tc : TT) (te : TE) (wi : TI) : TE := fun σ H Q => wi σ H fun J H1 => CompB2 K J tc te (inSt2 frees σ) H1 Q
end
end L2

namespace L2
open PySem PySem.Spec PyProof.Rows
/-! ### list(range(i, j)) -/
def rngV (i : Int) (n : Nat) : List V := (List.range n).map fun k => V.int (i + (k : Nat))
theorem vals_of : ∀ {xs : List V} {us : List Value}, xs.length = us.length → (∀ (k : Nat) x u, xs[k]? = some x → us[k]? = some u → RelV x u) → Vals xs us
  | [], [], _, _ => .nil
  | x :: xs, u :: us, e, h => .cons (h 0 x u rfl rfl) (vals_of (Nat.succ.inj e) fun k y w h1 h2 => h (k + 1) y w h1 h2)
  | [], _ :: _, e, _ => nomatch e
  | _ :: _, [], e, _ => nomatch e
section
variable {X : Cx}
def tListRange (ta : TA) : TE := fun σ H Q => ta σ H fun vs H1 => ∃ i j : Int, vs = [.int i, .int j] ∧ (-(2 ^ 62) ≤ i ∧ i < 2 ^ 62 ∧ -(2 ^ 62) ≤ j ∧ j < 2 ^ 62) ∧ (j - i).toNat ≤ sizeLine ∧ (j - i).toNat ≤ 2 ^ 24 ∧ ∀ l, H1 l = none → Q (.ref l) (upd H1 l (.lst (rngV i (j - i).toNat)))
end
end L2
namespace L2
open PySem PySem.Spec PyProof.Rows
def rListOf (K : PySem.W.Frag) : List V → Hp → VK → Prop := fun xs H Q => ∃ p ys, xs = [.ref p] ∧ (SqL K H p ys ∨ SqT K H p ys) ∧ ∀ l, H l = none → Q (.ref l) (upd H l (.lst ys))
end L2

namespace PySem
open Sem (wp)
theorem list_keys_miss : typeLookup (.type "list") "keys" = pure none := am_miss_of_fast (by decide +kernel)
theorem noKeys_list {prog : Program} {w : World} {A : Around} {E : Value → Shared → Prop} {s : Shared} {a : Addr} {xs : Array Value} {n : Nat} {Q : Option Value → Shared → Prop}
    (hx : s.heap.get? a = some { cls := .type "list", dict := none, data := .seq xs n }) (hA : A.handled = none)
    (h : ∀ h' tk, (∀ b ob, s.heap.get? b = some ob → h'.get? b = some ob) → Q none { s with heap := h', toks := tk }) :
    wpAny (model prog w) A (getAttr? (.ref a) "keys") Q E s := by
  obtain ⟨hp, g, d, tk, os⟩ := s
  have hT : ∀ tk', (⟨hp, g, d, tk', os⟩ : Shared).TypeIs (.ref a) "list" := fun _ => ⟨_, hx, rfl⟩
  have g1 := sub_AttributeError
  have g3 := F.slot_list_getattribute.lookup
  have g4 := F.slot_list_getattribute.bind (.ref a)
  have g5 := am_list_getattr_none
  unfold getAttr? getAttrBy? getAttrBy
  repeat (any_goals (first | assumption | exact hT _ | ((with_reducible show wpAny _ _ (call (Value.builtin "list.__getattribute__") _ _) _ _ _); refine call_meets F.slot_list_getattribute (hT _) am_entry_list_getattribute (F.args_list_getattribute_2 _ _) (meets_getattribute_miss_list a xs n _ "keys" _ list_keys_miss (by decide +kernel) (by size_fits)) ⟨hx, hA, fun h' tk' e hx => ?_⟩) | wp_step))
  obtain ⟨t', u', he⟩ := hx.there
  show wpAny (model prog w) A (getattributeRaised _ _ _ _ _ _ _) _ _ _
  have hTe : ∀ tk', (⟨h', g, d, tk', os⟩ : Shared).TypeIs (.ref e) "AttributeError" := fun _ => ⟨_, he, rfl⟩
  unfold getattributeRaised
  repeat (any_goals (first | assumption | exact hTe _ | wp_step))
  exact h _ _ hx.keeps
end PySem

namespace PySem
open Sem (wp)
theorem entry_pairs_loop : entryFor table "dict.update.loop" = some Builtin.«dict.update.loop» := entryFor_of_tree (by kernel_rfl)
theorem plain_pairs_loop : plainId "dict.update.loop" = true := by decide +kernel
section
variable {prog : Program} {w : World} {K : Type} [DecidableEq K] {knd : KeyKind prog w K} {A : Around} {R : Result → Shared → Prop}
/-- the pairs, put in one behind another -/
def putAll (ps : List (K × Value)) : List (K × Value) := ps.foldl (fun acc p => stored acc p.1 p.2) []
theorem stored_few (kvs : List (K × Value)) (k : K) (v : Value) : (stored kvs k v).length ≤ kvs.length + 1 := by
  unfold stored
  split
  · rw [List.length_map]; exact Nat.le_succ _
  · rw [List.length_append]; exact Nat.le_refl _
theorem putAll_snoc (ps : List (K × Value)) (p : K × Value) : putAll (ps ++ [p]) = stored (putAll ps) p.1 p.2 := by
  unfold putAll
  rw [List.foldl_append]
  rfl
theorem foldl_few : ∀ (ps acc : List (K × Value)), (ps.foldl (fun acc p => stored acc p.1 p.2) acc).length ≤ acc.length + ps.length
  | [], _ => Nat.le_refl _
  | p :: r, acc => by
    have h1 := foldl_few r (stored acc p.1 p.2)
    have h2 := stored_few acc p.1 p.2
    rw [List.foldl_cons, List.length_cons]
    omega
theorem pairs_loop {h₀ : Heap} {l it D : Addr} {items : Array Value} {ps : List (K × Value)} (hA : A.handled = none) (hl : h₀.IsList l items) (nit : h₀.get? it = none) (nD : h₀.get? D = none) (ne : it ≠ D)
    (hn : items.size = ps.length) (hi : ∀ (i : Nat) p, ps[i]? = some p → ∃ t key, items[i]? = some (.ref t) ∧ knd.is p.1 key = true ∧ h₀.IsTuple t #[key, p.2]) (hz : ps.length ≤ sizeLine) :
    ∀ (k i : Nat) (s : Shared) (tk : Tok), ps.length - i = k → i ≤ ps.length → s.heap.IsListIter it l i → (∀ b o, h₀.get? b = some o → s.heap.get? b = some o) → s.heap.DictOf knd D (putAll (ps.take i)) →
      (∀ h' tk', (∀ b o, b ≠ it → b ≠ D → s.heap.get? b = some o → h'.get? b = some o) → h'.DictOf knd D (putAll ps) → R (.ok (.ret .none)) { s with heap := h', toks := tk' }) →
      codeAny (model prog w) A (.builtin "dict.update.loop" ⟨[.ref D, .ref it, .int i tk, .none], []⟩) R s := by
  intro k
  induction k with
  | zero =>
    intro i s tk hk hi' hit kp hD hR
    have e : i = ps.length := by omega
    subst e
    refine codeAny_builtin entry_pairs_loop ?_
    rw [Around.under_plainId plain_pairs_loop _]
    show wpAny _ A.in1 (pyNext (.ref it) >>= _) _ _ s
    refine wpAny_bind (wpAny_pyNext_list_end (i := ps.length) (items := items) hA hit ?_ ?_ fun h' hx => ?_)
    · exact let ⟨o, ho, r⟩ := hl; ⟨o, kp _ _ ho, r⟩
    · exact Array.getElem?_eq_none (by omega)
    · show wpAny _ A.in1 (Builtin.Dict.addKeywords D [] >>= fun _ => ret Value.none) _ _ _
      refine wpAny_bind (wpAny_pure (wpAny_pure (hR h' s.toks (fun b o nb _ e => hx b o nb e) ?_)))
      rw [List.take_length] at hD
      exact hD.extBut hx (Ne.symm ne)
  | succ k ih =>
    intro i s tk hk hi' hit kp hD hR
    obtain ⟨p, hp⟩ : ∃ p, ps[i]? = some p := ⟨_, List.getElem?_eq_getElem (by omega)⟩
    obtain ⟨t, key, ht, hkey, htup⟩ := hi i p hp
    refine codeAny_builtin entry_pairs_loop ?_
    rw [Around.under_plainId plain_pairs_loop _]
    show wpAny _ A.in1 (pyNext (.ref it) >>= _) _ _ s
    refine wpAny_bind (wpAny_pyNext_list_item (i := i) (items := items) hit (let ⟨o, ho, r⟩ := hl; ⟨o, kp _ _ ho, r⟩) ht fun h' hit' hs => ?_)
    have kp' : ∀ b o, h₀.get? b = some o → h'.get? b = some o := fun b o e => (hs.2 b (fun z => by rw [z, nit] at e; cases e)).trans (kp b o e)
    obtain ⟨ot, hot, hct, nt, hdt⟩ := htup
    have hot' := kp' _ _ hot
    have hT : (⟨h', s.gens, s.drawn, s.toks, s.os⟩ : Shared).TypeIs (.ref t) "tuple" := ⟨_, hot', hct⟩
    have tk1 : ps.take (i + 1) = ps.take i ++ [p] := by rw [List.take_add_one, hp]; rfl
    have pz : (putAll (ps.take i)).length ≤ sizeLine := by
      have h1 := foldl_few (ps.take i) []
      rw [List.length_take] at h1
      unfold putAll
      simp only [List.length_nil] at h1
      omega
    show wpAny _ A.in1 (holding [Value.ref t] _ >>= _) _ _ _
    refine wpAny_bind (wpAny_holding ?_)
    refine wpAny_bind (wpAny_tryCatch ?_)
    unfold Builtin.Dict.pairItems
    refine wpAny_bind (wpAny_typeOf hT ?_)
    rw [if_pos (by decide)]
    refine wpAny_bind (wpAny_seqItems hot' hdt (wpAny_pure ?_))
    show wpAny _ A.in1 (holding [key, p.2] (dictSet D key p.2)) _ _ _
    refine wpAny_holding ?_
    have hD' : Heap.DictOf knd h' D (putAll (ps.take i)) := hD.sameBut hs (Ne.symm ne)
    refine wpAny_dictSet_pairs (s := ⟨h', s.gens, s.drawn, s.toks, s.os⟩) (hsz := pz) hkey hD' fun h2 hD2 hs2 => ?_
    rw [← putAll_snoc, ← tk1] at hD2
    refine wpAny_pure ⟨plainId_quiet plain_pairs_loop _, ?_⟩
    have hit2 : h2.IsListIter it l (i + 1) := let ⟨o, ho, r⟩ := hit'; ⟨o, (hs2.2 it ne).trans ho, r⟩
    refine ih (i + 1) ⟨h2, s.gens, s.drawn, s.toks + 1, s.os⟩ 0 (by omega) (by omega) hit2 (fun b o e => (hs2.2 b (fun z => by rw [z, nD] at e; cases e)).trans (kp' b o e)) hD2 fun h3 tk3 k3 hD3 => ?_
    exact hR h3 tk3 (fun b o n1 n2 e => k3 b o n1 n2 ((hs2.2 b n2).trans ((hs.2 b n1).trans e))) hD3
theorem dict_of_pairs {E : Value → Shared → Prop} {s : Shared} {l : Addr} {items : Array Value} {n : Nat} {ps : List (K × Value)} {Q : Value → Shared → Prop} (hA : A.handled = none) (hx : s.heap.get? l = some { cls := .type "list", dict := none, data := .seq items n })
    (hn : items.size = ps.length) (hi : ∀ (i : Nat) p, ps[i]? = some p → ∃ t key, items[i]? = some (.ref t) ∧ knd.is p.1 key = true ∧ s.heap.IsTuple t #[key, p.2]) (hz : ps.length ≤ sizeLine)
    (h : ∀ h' tk, (∀ b o, s.heap.get? b = some o → h'.get? b = some o) → h'.DictOf knd s.heap.objs.size (putAll ps) → Q (.ref s.heap.objs.size) { s with heap := h', toks := tk }) :
    wpAny (model prog w) A (call (.type "dict") [.ref l]) Q E s := by
  refine callType_codes (Q₁ := fun obj s₁ => obj = .ref s.heap.objs.size ∧ s₁ = { s with heap := s.heap.push { cls := .type "dict", data := .dict #[] } }) F.kt_called_dict (F.kt_typeCall_dict_1 _) F.entry_dict_init (kt_code_dict_new _ ⟨rfl, rfl⟩) ?_
  rintro obj s₁ ⟨rfl, rfl⟩
  have hnew : (s.heap.push { cls := .type "dict", data := .dict #[] }).DictOf knd s.heap.objs.size [] := Heap.DictOf.new s.heap
  have hx' : (s.heap.push { cls := .type "dict", data := .dict #[] }).get? l = some { cls := .type "list", dict := none, data := .seq items n } := Heap.get?_push_of_some _ hx
  refine ⟨hnew.typeIs, F.args_dict_init_2 _ _, ?_⟩
  unfold Builtin.«dict.__init__»
  refine wpAny_bind ?_
  unfold Builtin.Dict.selfAndRest
  refine wpAny_bind (wpAny_notOrdered_dict hnew.typeIs ?_)
  show wpAny _ _ (pure (s.heap.objs.size, [Value.ref l])) _ _ _
  refine wpAny_pure ?_
  show wpAny _ _ (Builtin.Dict.updateFrom "dict.__init__" s.heap.objs.size (.ref l) [] .none) _ _ _
  unfold Builtin.Dict.updateFrom
  refine wpAny_bind (wpAny_typeOf (T := "list") ⟨_, hx', rfl⟩ ?_)
  rw [if_pos (by decide)]
  refine wpAny_bind (noKeys_list hx' hA fun h1 tk1 k1 => ?_)
  simp only [Option.isNone_none, if_true]
  refine wpAny_bind (wpAny_rule (wpAny_bind (wpAny_pyIter_list (items := items) ⟨_, k1 _ _ hx', rfl, n, rfl⟩ ?_)))
  have hsz : s.heap.objs.size < h1.objs.size := by
    obtain ⟨o, _, _, ho, _⟩ := hnew
    exact Heap.lt_size (k1 _ _ ho)
  refine wpAny_pure ⟨plainId_quiet plain_pairs_loop _, ?_⟩
  have keep : ∀ b o, s.heap.get? b = some o → (h1.push { cls := .type "list_iterator", data := .fields #[.ref l, .int 0 0] }).get? b = some o := fun b o e => Heap.get?_push_of_some _ (k1 _ _ (Heap.get?_push_of_some _ e))
  refine pairs_loop (A := A.in1) (R := wants (fun r s₂ => r = Value.none ∧ Q (Value.ref s.heap.objs.size) s₂) E) (h₀ := s.heap) (l := l) (items := items) (ps := ps) hA ⟨_, hx, rfl, n, rfl⟩ (Heap.get?_none_of_le (Nat.le_of_lt hsz)) (Heap.get?_none_of_le (Nat.le_refl _)) (Ne.symm (Nat.ne_of_lt hsz)) hn hi hz ps.length 0 ⟨h1.push { cls := .type "list_iterator", data := .fields #[.ref l, .int 0 0] }, s.gens, s.drawn, tk1, s.os⟩ 0 (Nat.sub_zero _) (Nat.zero_le _) ⟨_, Heap.get?_push_size _ rfl, rfl, rfl⟩ keep ?_ fun h' tk' k' hD' => ?_
  · obtain ⟨o, es, ep, ho, r⟩ := hnew
    exact ⟨o, es, ep, Heap.get?_push_of_some _ (k1 _ _ ho), r⟩
  · refine ⟨rfl, h h' tk' (fun b o e => k' b o ?_ ?_ (keep b o e)) hD'⟩
    · intro z
      exact absurd (Heap.lt_size e) (by rw [z]; exact Nat.not_lt.mpr (Nat.le_of_lt hsz))
    · intro z
      exact absurd (Heap.lt_size e) (by rw [z]; exact Nat.lt_irrefl _)
end
end PySem
namespace L2
open PySem PySem.Spec PyProof.Rows
theorem kv_mk : ∀ {kvs : List (Key × V)} {us : List Value}, (kvs.map (·.2)).length = us.length → (∀ (i : Nat) q u, kvs[i]? = some q → us[i]? = some u → RelV q.2 u) → ∃ vs : List (Key × Value), KV kvs vs ∧ vs.map (·.1) = kvs.map (·.1) ∧ vs.map (·.2) = us
  | [], [], _, _ => ⟨[], .nil, rfl, rfl⟩
  | q :: r, u :: us, e, h => by
    obtain ⟨vs, h1, h2, h3⟩ := kv_mk (kvs := r) (us := us) (Nat.succ.inj e) fun i q u e1 e2 => h (i + 1) q u e1 e2
    exact ⟨(q.1, u) :: vs, .cons ⟨rfl, h 0 q u rfl rfl⟩ h1, by rw [List.map_cons, List.map_cons, h2], by rw [List.map_cons, h3]⟩
  | [], _ :: _, e, _ => nomatch e
  | _ :: _, [], e, _ => nomatch e
def rDictPairs (K : PySem.W.Frag) : List V → Hp → VK → Prop := fun xs H Q => ∃ p ts kvs, xs = [.ref p] ∧ H p = some (.lst ts) ∧ ts.length = kvs.length ∧ (∀ (i : Nat) y (q : Key × V), ts[i]? = some y → kvs[i]? = some q → ∃ t, y = .ref t ∧ SqT K H t [kV q.1, q.2]) ∧ (kvs.map (·.1)).Nodup ∧
  ∀ d, H d = none → Q (.ref d) (upd H d (.dK kvs))
theorem call_dict_pairs {X : Cx} (hc : X.calm = true) : CallR X (.type "dict") (rDictPairs X.K) := by
  intro pins s σ H xs us Q I r h
  obtain ⟨p, ts, kvs, rfl, hp, lt, ht, nd, q⟩ := h
  obtain ⟨u, rfl, rx⟩ := vals1 r
  cases rx
  obtain ⟨hz, its, n, rv, e⟩ := Rd.ok (u := .lst ts) (.inl hp) I.hok
  have li := rv.length
  have at1 : ∀ (i : Nat) q, kvs[i]? = some q → ∃ t key w', its[i]? = some (.ref t) ∧ RelV (kV q.1) key ∧ RelV q.2 w' ∧ s.heap.IsTuple t #[key, w'] := fun i q eq => by
    have hi : i < kvs.length := (List.getElem?_eq_some_iff.mp eq).1
    obtain ⟨y, ey⟩ : ∃ y, ts[i]? = some y := ⟨_, List.getElem?_eq_getElem (by omega)⟩
    obtain ⟨t, rfl, hq⟩ := ht i y q ey eq
    obtain ⟨u, eu, ru⟩ := Vals.get rv ey
    cases ru
    obtain ⟨jt, rj, tj, _⟩ := I.tuple hq
    cases rj with
    | cons r1 rr =>
      cases rr with
      | cons r2 rr =>
        cases rr
        exact ⟨t, _, _, eu, r1, r2, tj⟩
  obtain ⟨ws, lw, gw⟩ : ∃ ws : List Value, ws.length = kvs.length ∧ ∀ (i : Nat) q u, kvs[i]? = some q → ws[i]? = some u → RelV q.2 u ∧ ∃ t key, its[i]? = some (.ref t) ∧ RelV (kV q.1) key ∧ s.heap.IsTuple t #[key, u] := by
    have ch : ∀ i : Fin kvs.length, ∃ w', RelV (kvs[i]).2 w' ∧ ∃ t key, its[i.1]? = some (.ref t) ∧ RelV (kV (kvs[i]).1) key ∧ s.heap.IsTuple t #[key, w'] := fun i => by
      obtain ⟨t, key, w', h1, h2, h3, h4⟩ := at1 i.1 kvs[i] (List.getElem?_eq_getElem i.2)
      exact ⟨w', h3, t, key, h1, h2, h4⟩
    refine ⟨List.ofFn fun i => Classical.choose (ch i), List.length_ofFn, fun i q u e1 e2 => ?_⟩
    obtain ⟨hi, rfl⟩ := List.getElem?_eq_some_iff.mp e1
    rw [List.getElem?_ofFn, dif_pos hi] at e2
    obtain rfl := Option.some.inj e2
    exact Classical.choose_spec (ch ⟨i, hi⟩)
  obtain ⟨vs, kv, k1, k2⟩ := kv_mk (kvs := kvs) (us := ws) (by rw [List.length_map, lw]) fun i q u e1 e2 => (gw i q u e1 e2).1
  have lv : vs.length = kvs.length := by rw [← List.length_map (f := (·.1)), k1, List.length_map]
  refine dict_of_pairs (knd := mixKind X.prog X.w) (ps := vs) (I.ok.hd hc) e (by rw [List.size_toArray]; omega) (fun i p ep => ?_) (by omega) fun h' tk keep hd => ?_
  · have hi : i < vs.length := (List.getElem?_eq_some_iff.mp ep).1
    have e1 : kvs[i]? = some kvs[i] := List.getElem?_eq_getElem (by omega)
    have e2 : ws[i]? = some p.2 := by rw [← k2, List.getElem?_map, ep]; rfl
    have e3 : kvs[i].1 = p.1 := by
      have h1 : (vs.map (·.1))[i]? = some p.1 := by rw [List.getElem?_map, ep]; rfl
      rw [k1, List.getElem?_map, e1] at h1
      exact Option.some.inj h1
    obtain ⟨_, t, key, h1, h2, h3⟩ := gw i _ _ e1 e2
    refine ⟨t, key, by rw [List.getElem?_toArray]; exact h1, ?_, h3⟩
    rw [← e3]
    exact kV_is h2
  · rw [show putAll vs = vs from merged_nil_of_nodup vs (by rw [k1]; exact nd)] at hd
    refine ⟨.ref s.heap.objs.size, _, I.laid (t' := tk) keep (Nat.le_refl _) (dk_new (by omega) (beq_eq_false_iff_ne.mpr (Ne.symm (Nat.ne_of_lt I.big))) kv hd), rfl, q _ (I.hok.fresh (Nat.le_refl _))⟩
def rDictOf : List V → Hp → VK → Prop := fun xs H Q => ∃ a kvs, xs = [.ref a] ∧ Rd H a (.dK kvs) ∧ ∀ d, H d = none → Q (.ref d) (upd H d (.dK kvs))
theorem call_dict_copy {X : Cx} : CallR X (.type "dict") rDictOf := by
  intro pins s σ H xs us Q I r h
  obtain ⟨a, kvs, rfl, e, q⟩ := h
  obtain ⟨u, rfl, rx⟩ := vals1 r
  cases rx
  exact d_copyOf I e fun p s' hp I' => ⟨.ref p, _, I', rfl, q p hp⟩
theorem bt_dict : bootBuiltins "dict" = some (.type "dict") := by decide +kernel
end L2

namespace L2
open PySem PyProof.Rows PySem.Spec PySem.Calls
/-! ### xs[i] op= v -/
section
variable {X : Cx}
def rGetL : V → V → Hp → VK → Prop := fun o i H Q => ∃ p xs k, o = .ref p ∧ i = .int k ∧ H p = some (.lst xs) ∧ 0 ≤ k ∧ k < ((xs.length : Nat) : Int) ∧ ∀ v, xs[k.toNat]? = some v → Q v H
/-! ### tuples of flat things, as long as each other: == and != -/
def rEqT (K : PySem.W.Frag) (neg : Bool) : R2 := fun x y H Q => ∃ p q xs ys, x = .ref p ∧ y = .ref q ∧ SqT K H p xs ∧ SqT K H q ys ∧ xs.length = ys.length ∧ xs.all flatV = true ∧ ys.all flatV = true ∧ Q (.bl (if neg then !eqVs xs ys else eqVs xs ys)) H
end
end L2

namespace L2
open PySem PySem.Spec PyProof.Rows
/-! ### except X: without a name -/
section
variable {X : Cx}
def tPl (K : PySem.W.Frag) (B : Addr) (ts : TS) (tr : TH) : TH := fun D σ H C ea => PySem.W.excMk K C = true ∧ PySem.W.excMk K B = true ∧ ∃ b, PySem.W.mroHas K C (.ref B) = b ∧ if b = true then ts D σ H else tr D σ H C ea
end
end L2

namespace L2
open PySem PyProof.Rows PySem.Spec PySem.Calls
/-! ### a list or a tuple is no string -/
section
variable {X : Cx}
def rNeS (K : PySem.W.Frag) : R2 := fun x y H Q => (∃ a i xs, x = .ref a ∧ y = .str i ∧ (SqL K H a xs ∨ SqT K H a xs) ∧ Q (.bl true) H) ∨ rNe x y H Q
/-! ### the smaller of a pair -/
end
end L2

namespace L2
open PySem PySem.Spec PyProof.Rows
/-! ### a comprehension with a condition whose items are new things -/
end L2

namespace L2
open PySem PySem.Spec PyProof.Rows
/-! ### list(d): the keys of a dict -/
section
variable {X : Cx}
def rListDict : List V → Hp → VK → Prop := fun xs H Q => ∃ p kvs, xs = [.ref p] ∧ H p = some (.dK kvs) ∧ ∀ l, H l = none → Q (.ref l) (upd H l (.lst (kvs.map fun q => kV q.1)))
theorem call_list_dict (hc : X.calm = true) : CallR X (.type "list") rListDict := by
  intro pins s σ H xs us Q I r h
  obtain ⟨p, kvs, rfl, hp, q⟩ := h
  obtain ⟨u, rfl, rx⟩ := vals1 r
  cases rx
  obtain ⟨z, hd, vs, rk, o, es, ep, e', xd, dt, ko, pr, nd⟩ := I.hok p _ hp
  have hl := KV.length rk
  refine PySem.W.kdl_call (PySem.W.kdl_dict (knd := mixKind X.prog X.w) (kvs := vs) (ep := ep) hd) (I.ok.hd hc) ⟨o, es, e', xd, dt, ko, pr, nd⟩ (by omega) (fun h' tk acc' c' kp e it => ?_)
  refine ⟨.ref s.heap.objs.size, _, I.laid (t' := tk) kp (Nat.le_refl _) (show ObjOk X.prog X.w _ h' _ (.lst (kvs.map fun q => kV q.1)) from ⟨by rw [List.length_map]; exact z, acc'.toList, c', vals_of ?_ fun k x u hx hu => ?_, e⟩), rfl, q _ (I.hok.fresh (Nat.le_refl _))⟩
  · have h1 : acc'.toList.length = vs.length := it.1
    rw [List.length_map, h1]
    exact hl
  · have hu' : acc'[k]? = some u := by simpa using hu
    obtain ⟨k', x', e1, e2⟩ := it.2 k u hu'
    rw [List.getElem?_map] at hx
    obtain ⟨y, ey, rfl⟩ := Option.map_eq_some_iff.mp hx
    have q1 : (kvs.map (·.1))[k]? = (vs.map (·.1))[k]? := by rw [KV.keys rk]
    rw [List.getElem?_map, List.getElem?_map, ey, e1] at q1
    have q2 : y.1 = k' := Option.some.inj q1
    show RelV (kV y.1) u
    rw [q2]
    exact rel_key e2
end
end L2

namespace L2
open PySem PySem.Spec PyProof.Rows
/-! ### sorted() of texts: a list of them, or the keys of a dict -/
section
variable {X : Cx}
def rSortedL (K : PySem.W.Frag) : List V → Hp → VK → Prop := fun xs H Q => ∃ p ss, xs = [.ref p] ∧ SqL K H p (ss.map V.str) ∧ ss.length < 64 ∧ ∀ l ss', H l = none → List.Perm ss' ss → sortedS ss' = true → Q (.ref l) (upd H l (.lst (ss'.map V.str)))
end
end L2
namespace L2
open PySem PySem.Calls PyProof.Rows PyProof.V PySem.Spec PySem.W
end L2
namespace L2
open PySem PySem.Spec PyProof.Rows
section
variable {X : Cx}
/-- the n times that a list holds a flat thing -/
def rCount : V → List V → Hp → VK → Prop := fun x vs H Q => ∃ l xs y, x = .ref l ∧ vs = [y] ∧ H l = some (.lst xs) ∧ xs.all flatV = true ∧ flatV y = true ∧ Q (.int ((xs.countP fun z => eqV z y : Nat) : Int)) H
/-- sorted() of a dict whose keys are texts -/
def rSortedD : List V → Hp → VK → Prop := fun xs H Q => ∃ p kvs ss, xs = [.ref p] ∧ H p = some (.dK kvs) ∧ kvs.map (fun q => kV q.1) = ss.map V.str ∧ ss.length < 64 ∧ ∀ l ss', H l = none → List.Perm ss' ss → sortedS ss' = true → Q (.ref l) (upd H l (.lst (ss'.map V.str)))
end
end L2
namespace L2
open PySem PySem.Spec PyProof.Rows
section
variable {X : Cx}
/-- z.index(y), where y stands in z -/
def rSIndex : V → List V → Hp → VK → Prop := fun x vs H Q => ∃ z y i rest, x = .str z ∧ vs = [.str y] ∧ Builtin.Str.occurrences z y 0 z.length 1 = i :: rest ∧ Q (.int ((i : Nat) : Int)) H
end
end L2
namespace L2
open PySem PyProof.Rows PySem.Spec PySem.Calls
section
variable {X : Cx}
/-! ### d.setdefault(k, v) -/
def rSetD : V → List V → Hp → VK → Prop := fun x vs H Q => ∃ d kvs k y, x = .ref d ∧ vs = [kV k, y] ∧ H d = some (.dK kvs) ∧ kvs.length < 1000 ∧ (∀ u, valV kvs k = some u → Q u H) ∧ (valV kvs k = none → Q y (upd H d (.dK (kvs ++ [(k, y)]))))
theorem mt_setdefault : MtR X "dict.setdefault" rSetD := by
  intro pins s σ H x vs v us Q I rx rv h
  obtain ⟨d, kvs, k, y, rfl, rfl, hd, hz, q1, q2⟩ := h
  cases rx
  obtain ⟨u, w', rfl, r1, r2⟩ := vals2 rv
  obtain ⟨z1, m1, vs1, k1, d1⟩ := dk_of I.hok hd
  have l1 := k1.length
  have hv := k1.val k
  refine call_meetsIn PySem.F.slot_dict_setdefault d1.typeIs PySem.F.entry_dict_setdefault (PySem.F.args_dict_setdefault_3 _ _ _) (kt_meets_setdefault (mixKind X.prog X.w) d (kV_is r1) m1 w')
    ⟨vs1, d1, (by rw [← l1, sizeLine_eq]; omega), (fun v' hv' => ?_), (fun hn h' hm hs => ?_)⟩
  · rw [hv'] at hv
    cases e : valV kvs k with
    | none => rw [e] at hv; exact hv.elim
    | some y' =>
      rw [e] at hv
      exact ⟨y', H, I.tok _, hv, q1 y' e⟩
  · rw [hn] at hv
    cases e : valV kvs k with
    | some y' => rw [e] at hv; exact hv.elim
    | none =>
      have kp := k1.put k r2
      rw [putK_new y e] at kp
      refine ⟨y, _, ?_, r2, q2 e⟩
      exact d_write I (by rw [hd]; exact True.intro) hs (let ⟨o, _, _, hq, _⟩ := hm; ⟨o, hq⟩) (dk_new (by rw [List.length_append, sizeLine_eq]; show kvs.length + 1 ≤ _; omega) m1 kp hm)
/-! ### dicts of flat values compared -/
def hasD (kb : List (Key × V)) (p : Key × V) : Bool := match valV kb p.1 with
  | some y => eqV p.2 y
  | none => false
def eqD (ka kb : List (Key × V)) : Bool := ka.length == kb.length && ka.all (hasD kb)
theorem valV_mem {kb : List (Key × V)} {k : Key} {y : V} (e : valV kb k = some y) : ∃ p ∈ kb, p.2 = y := by
  unfold valV at e
  cases f : kb.find? (fun kv => decide (kv.1 = k)) with
  | none => rw [f] at e; cases e
  | some p => rw [f] at e; exact ⟨p, List.mem_of_find?_eq_some f, Option.some.inj e⟩
theorem keqHits {A : Around} {s : Shared} {kb : List (Key × V)} {vb : List (Key × Value)} (rb : KV kb vb) (fb : ∀ p ∈ kb, flatV p.2 = true) : ∀ {ka : List (Key × V)} {va : List (Key × Value)}, KV ka va → (∀ p ∈ ka, flatV p.2 = true) → PySem.W.KeqHits A s vb va (ka.all (hasD kb))
  | _, _, .nil, _ => .nil
  | (k, x) :: ka, (k', u) :: va, .cons ⟨e, r⟩ t, fa => by
    have e' : k = k' := e
    subst e'
    have ih := keqHits (A := A) (s := s) rb fb t fun p hp => fa p (.tail _ hp)
    have hv := rb.val k
    rw [List.all_cons]
    cases f : valV kb k with
    | none =>
      rw [f] at hv
      cases g : valueAt vb k with
      | some y => rw [g] at hv; exact hv.elim
      | none =>
        have : hasD kb (k, x) = false := by unfold hasD; rw [show (k, x).1 = k from rfl, f]
        rw [this, Bool.false_and]
        exact .miss g
    | some y =>
      rw [f] at hv
      cases g : valueAt vb k with
      | none => rw [g] at hv; exact hv.elim
      | some y' =>
        rw [g] at hv
        have : hasD kb (k, x) = eqV x y := by unfold hasD; rw [show (k, x).1 = k from rfl, f]
        rw [this]
        obtain ⟨p, hp, hy⟩ := valV_mem f
        exact .hit g (eqAt_V r hv (fa _ (.head _)) (by rw [← hy]; exact fb p hp)) ih
def rEqDk (neg : Bool) : R2 := fun x y H Q => ∃ a b ka kb, x = .ref a ∧ y = .ref b ∧ H a = some (.dK ka) ∧ H b = some (.dK kb) ∧ (∀ p ∈ ka, flatV p.2 = true) ∧ (∀ p ∈ kb, flatV p.2 = true) ∧ Q (.bl (if neg then !eqD ka kb else eqD ka kb)) H
/-! ### slices with a step -/
def pickV (xs : List V) (lo hi st : Option Int) : List V := (sliceRange (sliceBounds lo hi st xs.length).1 (sliceBounds lo hi st xs.length).2.1 (sliceBounds lo hi st xs.length).2.2).filterMap (xs[·]?)
def tSl3 (K : PySem.W.Frag) (te : TE) (tl th ts : TO) : TE := fun σ H Q => te σ H fun x H1 => tl σ H1 fun l H2 => th σ H2 fun u H3 => ts σ H3 fun c H4 => ∃ a xs, x = .ref a ∧ SqL K H4 a xs ∧ c ≠ some 0 ∧ ∀ p, H4 p = none → Q (.ref p) (upd H4 p (.lst (pickV xs l u c)))
def thirds (n : Nat) : List Nat := (List.range n).filter fun k => k % 3 == 1
/-! ### a comprehension with a pair as target and a condition -/
/-! ### a comprehension whose items are new things, told by their kinds -/
/-! ### a comprehension of which just some items are known to stand -/
end
end L2

namespace L2
open PySem PyProof.Rows PySem.Spec PySem.Calls
/-! ### d.keys(), d.values() and the lists of them -/
def KW (v d : Addr) : HO := .ext fun h => PySem.W.KdlKeysView h v d
def VW (v d : Addr) : HO := .ext fun h => h.IsValuesView v d
section
variable {X : Cx}
def rKeys : V → List V → Hp → VK → Prop := fun x vs H Q => ∃ d kvs, x = .ref d ∧ vs = [] ∧ H d = some (.dK kvs) ∧ ∀ v, H v = none → Q (.ref v) (upd H v (KW v d))
def rListKeys : List V → Hp → VK → Prop := fun xs H Q => ∃ v d kvs, xs = [.ref v] ∧ H v = some (KW v d) ∧ H d = some (.dK kvs) ∧ ∀ l, H l = none → Q (.ref l) (upd H l (.lst (kvs.map fun q => kV q.1)))
def rValues : V → List V → Hp → VK → Prop := fun x vs H Q => ∃ d kvs, x = .ref d ∧ vs = [] ∧ H d = some (.dK kvs) ∧ ∀ v, H v = none → Q (.ref v) (upd H v (VW v d))
theorem kv_at {κ : Type} {R : κ × V → κ × Value → Prop} : ∀ {kvs : List (κ × V)} {vs : List (κ × Value)} {k : Nat} {p : κ × V} {q : κ × Value}, Paired R kvs vs → kvs[k]? = some p → vs[k]? = some q → R p q
  | _, _, k, _, _, .nil, e, _ => by simp at e
  | _, _, 0, _, _, .cons r _, e, e' => by
    obtain rfl := Option.some.inj e
    obtain rfl := Option.some.inj e'
    exact r
  | _, _, k + 1, _, _, .cons _ t, e, e' => kv_at (k := k) t e e'
def rListVals : List V → Hp → VK → Prop := fun xs H Q => ∃ v d kvs, xs = [.ref v] ∧ H v = some (VW v d) ∧ H d = some (.dK kvs) ∧ ∀ l, H l = none → Q (.ref l) (upd H l (.lst (kvs.map fun q => q.2)))
end
end L2

namespace L2
open PySem PyProof.Rows PySem.Spec PySem.Calls
/-! ### for k, v in d.items() -/
def IW (v d : Addr) : HO := .ext fun h => h.IsItemsView v d
/-- a dict's pairs, in order -/
def Itm (d : Addr) (o : Obj) (kvs : List (Key × V)) : It :=
  ⟨fun i H => H d = some (.frz o (.dK kvs)) ∧ i < kvs.length, fun i H x H' => ∃ p k v, x = .ref p ∧ H p = none ∧ H' = upd H p (.tup [kV k, v]) ∧ kvs[i]? = some (k, v), fun i H => H d = some (.frz o (.dK kvs)) ∧ kvs.length = i⟩
theorem turn_items {P : Program} {w : World} {K : PySem.W.Frag} {elts : List Expr} {x1} {pos : Pos} (d it : Addr) (o : Obj) (kvs : List (Key × V)) {vs : List (Key × Value)} {es : Array DictEntry} {ep : Nat} (rk : KV kvs vs) (hd : o.ExactDict) (he : o.data = .dict es ep) (hk : KeysOf (mixKind P w) es) (hp : Pairs (mixKind P w) es.toList vs) (nd : (vs.map (·.1)).Nodup) :
    Turn P w K (.Tuple elts x1 pos) (Itm d o kvs) [it] it (fun i h => ∃ ok ov, IsItemIter h it d i vs.length ep ok ov) where
  mem := by simp
  obj := fun i h st b hb => by
    have e : b = it := by simpa using hb
    subst e
    obtain ⟨ok, ov, k⟩ := st
    exact ⟨_, k, fun v z => by cases z⟩
  keep := fun i h h' st k => by
    obtain ⟨ok, ov, q⟩ := st
    exact ⟨ok, ov, k it (by simp) _ q⟩
  item := by
    intro X hP hw hK hc i pins s σ H E I hf st hg
    subst hP hw hK
    obtain ⟨hz, hi⟩ := hg
    obtain ⟨eo, _⟩ := I.hok d _ hz
    obtain ⟨f0, f1, f2, f3, f4, f5⟩ := hf it (by simp)
    obtain ⟨ok, ov, k⟩ := st
    have hl := KV.length rk
    have hi2 : i < vs.length := by omega
    have ev : vs[i]? = some (vs[i].1, vs[i].2) := List.getElem?_eq_getElem hi2
    have ks : kvs[i]? = some (kvs[i].1, kvs[i].2) := List.getElem?_eq_getElem hi
    have keq : kvs[i].1 = vs[i].1 := by
      have q := KV.keys rk
      have q1 : (kvs.map (·.1))[i]? = (vs.map (·.1))[i]? := by rw [q]
      rw [List.getElem?_map, List.getElem?_map, ks, ev] at q1
      exact Option.some.inj q1
    have rvl : RelV kvs[i].2 vs[i].2 := (kv_at rk (List.getElem?_eq_getElem hi) (List.getElem?_eq_getElem hi2)).2
    refine wpAny_pyNext_items_item k ⟨o, es, eo, hd, he, hk, hp, nd⟩ ev fun key hz2 hkey ko tup sz kp => ?_
    refine ⟨_, rfl, ?_⟩
    refine wpAny_letOwnedTupleGo_items ko fun h3 k3 s3 => ?_
    have lt1 : it < s.heap.objs.size := Heap.lt_size k
    have tup3 : h3.get? s.heap.objs.size = some { cls := .type "tuple", data := .seq #[key, vs[i].2] } := (s3.2 _ (Nat.ne_of_gt lt1)).trans tup
    have fr : H s.heap.objs.size = none := I.hok.fresh (Nat.le_refl _)
    have I2 : Inv X pins σ (upd H s.heap.objs.size (.tup [kV kvs[i].1, kvs[i].2])) { s with heap := h3 } := by
      refine I.step (t' := s.toks) (g' := s.gens) (d' := s.drawn) (ch := [it]) (fun b hb => ?_) (fun b o _ _ hc e _ => ?_) (fun b o _ _ hc e _ => ?_) (fun b o _ e n => ?_) (fun b o hc e => ?_) (fun b xs e => ?_) (fun b o xs e => ?_) (fun b ps e => ⟨#[], ?_⟩) (fun m hm => ?_) (fun b v e => ?_) I.bare
      · rw [List.mem_singleton.mp hb]; exact ⟨f3, f1, f4, f5⟩
      · exact (s3.2 b (fun z => hc (by simp [z]))).trans (kp b o (fun z => hc (by simp [z])) e)
      · exact ⟨o.slots, (s3.2 b (fun z => hc (by simp [z]))).trans (kp b o (fun z => hc (by simp [z])) e)⟩
      · rw [upd_ne (Nat.ne_of_lt (Heap.lt_size e))]; exact n
      · exact ⟨o, (s3.2 b (fun z => hc (by simp [z]))).trans (kp b o (fun z => hc (by simp [z])) e)⟩
      · rw [upd_ne (ne_of_none e fr)]; exact e
      · rw [upd_ne (ne_of_none e fr)]; exact e
      · rw [upd_ne (ne_of_none e fr), e]; simp
      · obtain ⟨o, es, ep, ho, q⟩ := hm
        exact ⟨o, es, ep, (s3.2 _ (Ne.symm f1)).trans (kp _ o (Ne.symm f1) ho), q⟩
      · by_cases hb : b = s.heap.objs.size
        · subst hb
          rw [upd_same] at e
          cases e
          exact ⟨small (by show 2 ≤ 1000; decide), [key, vs[i].2], .cons (by rw [keq]; exact rel_key hkey) (.cons rvl .nil), _, tup3, rfl, _, rfl⟩
        · rw [upd_ne hb] at e
          have nn : ∀ c v, H c = some v → c ≠ it := fun c v q z => by rw [z, f0] at q; cases q
          refine (I.hok b v e).stay (fun c v' hc q => ?_) (fun c q => by rw [upd_ne (ne_of_none q fr)]; exact q) (fun c xs q => by rw [upd_ne (ne_of_none q fr)]; exact q)
          have m : c ≠ it := by
            rcases hc with z | z
            · rw [z]; exact nn b v e
            · exact nn c _ z
          exact (s3.2 c m).trans (kp c v' m q)
    refine ⟨.ref s.heap.objs.size, _, I2, rfl, ⟨_, _, _, rfl, fr, rfl, ks⟩, ⟨_, _, k3⟩, fun b hb => ?_⟩
    rw [upd_ne (fun z => ?_)]
    · exact (hf b hb).1
    · rw [z] at hb
      exact Nat.ne_of_gt lt1 (List.mem_singleton.mp hb)
  done := by
    intro X hP hw hK hc i pins s σ H E I hf st hg
    subst hP hw hK
    obtain ⟨hz, hi⟩ := hg
    obtain ⟨eo, _⟩ := I.hok d _ hz
    obtain ⟨f0, f1, f2, f3, f4, f5⟩ := hf it (by simp)
    obtain ⟨ok, ov, k⟩ := st
    have hl := KV.length rk
    have hin : vs[i]? = none := List.getElem?_eq_none (by omega)
    exact wpAny_pyNext_items_end (I.ok.hd hc) k ⟨o, es, eo, hd, he, hk, hp, nd⟩ hin fun h' eb => ⟨rfl, I.turned (t' := s.toks) (fun b o hb e => eb b o hb e) f0 f1 f3 f4 f5⟩
  self := fun A i s Q E st h => by
    obtain ⟨ok, ov, k⟩ := st
    exact PySem.W.kcp_self k h
section
variable {X : Cx} {elts : List Expr} {x1 : Nat} {tpos : Pos}
def rItems : V → List V → Hp → VK → Prop := fun x vs H Q => ∃ d o kvs, x = .ref d ∧ vs = [] ∧ H d = some (.frz o (.dK kvs)) ∧ ∀ v, H v = none → Q (.ref v) (upd H v (IW v d))
theorem mt_items : MtR X "dict.items" rItems := by
  intro pins s σ H x vs v us Q I rx rv h
  obtain ⟨d, o, kvs, rfl, rfl, hz, q⟩ := h
  cases rx
  cases rv
  obtain ⟨eo, z, hd, vs1, rk, o', es, ep, e', xd, dt, ko, pr, nd⟩ := I.hok d _ hz
  have d1 : s.heap.DictAt (mixKind X.prog X.w) d vs1 ep := ⟨o', es, e', xd, dt, ko, pr, nd⟩
  have d2 : s.heap.DictOf (mixKind X.prog X.w) d vs1 := d1.dictOf
  refine call_meetsIn PySem.F.slot_dict_items d2.typeIs PySem.F.entry_dict_items (PySem.F.args_dict_items_1 _) (meets_dict_items (mixKind X.prog X.w) d hd) ⟨⟨vs1, d2⟩, ?_⟩
  refine ⟨.ref s.heap.objs.size, _, I.laid (t' := s.toks) (o := IW s.heap.objs.size d) (fun b ob q => Heap.get?_push_of_some _ q) (Nat.le_refl _) ?_, rfl, q _ (I.hok.fresh (Nat.le_refl _))⟩
  refine ⟨⟨_, Heap.get?_push_size _ rfl, rfl, rfl⟩, ⟨_, Heap.get?_push_size _ rfl⟩, fun h1 h2 ⟨o, ho, r⟩ k => ⟨o, k o ho, r⟩⟩
def iItems (tl : TE) : TI := fun σ H R => tl σ H fun x H1 => ∃ v d o kvs, x = .ref v ∧ H1 v = some (IW v d) ∧ H1 d = some (.frz o (.dK kvs)) ∧ R (Itm d o kvs) H1
theorem pi_items {l : Expr} {tl : TE} (hl : PE X l tl) : PI X (.Tuple elts x1 tpos) l (iItems tl) := by
  intro pins s σ H R I h
  refine thn (hl pins s σ H _ I h) fun v s1 ⟨x, H1, I1, r1, q1⟩ => ?_
  obtain ⟨v, d, o, kvs, rfl, hv, hz, q⟩ := q1
  cases r1
  obtain ⟨eo, z, hd, vs, rk, o', es, ep, e', xd, dt, ko, pr, nd⟩ := I1.hok d _ hz
  rw [eo] at e'
  cases e'
  obtain ⟨kv, _, _⟩ := (show ObjOk X.prog X.w H1 s1.heap v (IW v d) from I1.hok v _ hv)
  refine wpAny_pyIter_items kv (knd := mixKind X.prog X.w) ⟨o, es, eo, xd, dt, ko, pr, nd⟩ ?_
  refine ⟨s1.heap.objs.size, [s1.heap.objs.size], _, _, H1, rfl, I1.kept (t' := s1.toks) fun b o e => Heap.get?_push_of_some _ e, turn_items d _ o kvs rk xd dt ko pr nd, ⟨_, _, Heap.get?_push_size _ rfl⟩, fun b hb => ?_, q⟩
  have e : b = s1.heap.objs.size := by simpa using hb
  subst e
  exact I1.fpOk (Nat.le_refl _) (I1.hok.fresh (Nat.le_refl _))
end
end L2

namespace L2
open PySem PyProof.Rows PySem.Spec PySem.Calls
/-! ### == of tuples that hold dicts of flat things: the program and its world are fixed -/
theorem eqBool_apart {P : Program} {w : World} {A : Around} {E : Value → Shared → Prop} {s : Shared} {Q : Bool → Shared → Prop} {a b : Addr} (ne : a ≠ b)
    (h : ∀ R : Value → Shared → Prop, R (.bool true) s → wpAny (model P w) A (compareOp .Eq (.ref a) (.ref b)) R E s) (q : Q true s) : wpAny (model P w) A (eqBool (.ref a) (.ref b)) Q E s := by
  unfold eqBool
  exact wpAny_holding (wpAny_ite_split (fun c => absurd (by injection eq_of_beq c) ne) fun _ => wpAny_bind (h _ (wpAny_truthy_bool q)))
def DeqD (H : Hp) (x y : V) : Prop := (x = y ∧ flatV x = true) ∨ ∃ a b ka kb, x = .ref a ∧ y = .ref b ∧ H a = some (.dK ka) ∧ H b = some (.dK kb) ∧ (∀ p ∈ ka, flatV p.2 = true) ∧ (∀ p ∈ kb, flatV p.2 = true) ∧ eqD ka kb = true
def rTd (K : PySem.W.Frag) : R2 := fun x y H Q => ∃ a c xs ys, x = .ref a ∧ y = .ref c ∧ SqT K H a xs ∧ SqT K H c ys ∧ xs.length = ys.length ∧ (∀ j, j < xs.length → DeqD H (xs.getD j .non) (ys.getD j .non)) ∧ Q (.bl true) H
theorem deqD_in {X : Cx} {pins : List (Addr × Obj)} {σ : St} {H : Hp} {s : Shared} (I : Inv X pins σ H s) {x y : V} {u v : Value} (hu : X.A.in1.units < cLine) (h : DeqD H x y) (rx : RelV x u) (ry : RelV y v) {E : Value → Shared → Prop} {Q : Bool → Shared → Prop} (q : Q true s) : wpAny (model X.prog X.w) X.A.in1 (eqBool u v) Q E s := by
  rcases h with ⟨e, f⟩ | ⟨a, b, ka, kb, rfl, rfl, ha, hb, fa, fb, e⟩
  · subst e
    have z := eqAt_V (A := X.A.in1) (s := s) rx ry f f
    rw [eqV_refl f] at z
    exact z _ _ _ _ q
  · cases rx
    cases ry
    by_cases hab : a = b
    · subst hab
      exact SeqAt.EqAt.same _ _ _ _ _ q
    obtain ⟨_, m1, va, k1, d1⟩ := dk_of I.hok ha
    obtain ⟨_, m2, vb, k2, d2⟩ := dk_of I.hok hb
    refine eqBool_apart hab (fun R hR => ?_) q
    refine PySem.W.keq_eq m1 m2 d1 d2 hu (fun _ => keqHits k2 fb k1 fa) ?_
    rw [← k1.length, ← k2.length]
    have e' : (ka.length == kb.length && ka.all (hasD kb)) = true := e
    rw [e']
    exact hR
end L2

namespace L2
open PySem PyProof.Rows PySem.Spec PySem.Calls
/-! ### a comprehension over a range whose items change the world, by an invariant -/
theorem compB_rng {lo : Int} {n : Nat} {tc : TT} {te : TE} {σf : Option V → St} {H1 : Hp} {Q : VK} (Pv : Addr → Nat → List V → Hp → Prop) (hz : n < sizeLine)
    (h0 : ∀ D, H1 D = none → Pv D 0 [] (upd H1 D (.lst [])))
    (hD : ∀ D i ys H, Pv D i ys H → H D = some (.lst ys) ∧ ys.length ≤ i)
    (hs : ∀ D i ys H (N : List V → Hp → Prop), i < n → H1 D = none → Pv D i ys H → (∀ ys' H', Pv D (i + 1) ys' H' → N ys' H') → tc (σf (some (.int (lo + i)))) H fun b H4 => if b = true then te (σf (some (.int (lo + i)))) H4 fun y H5 => H5 D = some (.lst ys) ∧ N (ys ++ [y]) (upd H5 D (.lst (ys ++ [y]))) else N ys H4)
    (q : ∀ D ys H, H1 D = none → Pv D n ys H → Q (.ref D) H) : CompB (Itr lo n) tc te σf H1 Q := by
  intro D hD1
  refine ⟨fun i m ys H2 => m = n - i ∧ i ≤ n ∧ Pv D i ys H2, ⟨n, rfl, Nat.zero_le _, h0 D hD1⟩, ?_⟩
  rintro i m ys H2 ⟨rfl, hi, p⟩
  obtain ⟨d1, d2⟩ := hD D i ys H2 p
  refine ⟨d1, ?_⟩
  by_cases hlt : i < n
  · refine .inr ⟨hlt, by omega, fun x H3 y => ?_⟩
    obtain ⟨rfl, rfl⟩ := y
    exact hs D i ys _ (fun ys' H' => ∃ m', m' < n - i ∧ (m' = n - (i + 1) ∧ i + 1 ≤ n ∧ Pv D (i + 1) ys' H')) hlt hD1 p fun ys' H' z => ⟨n - (i + 1), by omega, rfl, hlt, z⟩
  · have e : i = n := by omega
    subst e
    exact .inl ⟨Nat.le_refl _, q D ys H2 hD1 p⟩
theorem for_items {d : Addr} {o : Obj} {kvs : List (Key × V)} {g : TG} {tb : TS} {D : Ends} {σ : St} {H : Hp} (Pv : Nat → St → Hp → Prop) (h0 : Pv 0 σ H) (hl : ∀ i σ H, i ≤ kvs.length → Pv i σ H → H d = some (.frz o (.dK kvs)))
    (hs : ∀ i k v p σ H, kvs[i]? = some (k, v) → H p = none → Pv i σ H → g (.ref p) σ (upd H p (.tup [kV k, v])) fun σ2 H2 => tb { D with nx := Pv (i + 1), ct := Pv (i + 1), bk := D.nx } σ2 H2) (hd : ∀ σ H, Pv kvs.length σ H → D.nx σ H) :
    ∃ W : Nat → Nat → St → Hp → Prop, (∃ m, W 0 m σ H) ∧ ∀ i m σ H, W i m σ H →
      ((Itm d o kvs).stop i H ∧ D.nx σ H) ∨ ((Itm d o kvs).go i H ∧ ∃ N : St → Hp → Prop, (∀ σ' H', N σ' H' → ∃ m', m' < m ∧ W (i + 1) m' σ' H') ∧ ∀ x H', (Itm d o kvs).yld i H x H' → g x σ H' fun σ2 H2 => tb { D with nx := N, ct := N, bk := D.nx } σ2 H2) := by
  refine ⟨fun i m σ H => m = kvs.length - i ∧ i ≤ kvs.length ∧ Pv i σ H, ⟨kvs.length, by simp, Nat.zero_le _, h0⟩, ?_⟩
  rintro i m σ H ⟨rfl, hi, p⟩
  have q := hl i σ H hi p
  by_cases hlt : i < kvs.length
  · refine .inr ⟨⟨q, hlt⟩, Pv (i + 1), fun σ' H' p' => ⟨kvs.length - (i + 1), by omega, rfl, hlt, p'⟩, fun x H' y => ?_⟩
    obtain ⟨a, k, v, rfl, na, rfl, e⟩ := y
    exact hs i k v a σ _ e na p
  · have e : i = kvs.length := by omega
    subst e
    exact .inl ⟨⟨q, rfl⟩, hd σ H p⟩
section
variable {X : Cx}
def tItems0 (to : TE) : TE := fun σ H Q => to σ H fun x H1 => rItems x [] H1 Q
theorem pe_items0 {o : Expr} {to : TE} {apos cpos : Pos} (ho : PE X o to) (hbase : attributeBase o "items" X.env (eval o X.env) = eval o X.env := by rfl) (hline : (apos.endLine == cpos.line) = true := by rfl) : PE X (.Call (.Attribute o "items" apos) [] [] cpos) (tItems0 to) := by
  intro pins s σ H Q I h
  refine wpAny_Call_method0_late hbase hline (thn (ho pins s σ H _ I h) fun v s1 ⟨x, H1, I1, r1, q1⟩ => ?_)
  have q2 := q1
  obtain ⟨d, o, kvs, rfl, _, hz, _⟩ := q2
  have r2 := r1
  cases r1
  obtain ⟨_, _, _, _, _, o', _, _, e', xd, _⟩ := I1.hok d _ hz
  exact ⟨"dict", "dict.items", PySem.F.plainAttrs_dict, PySem.F.slot_dict_items, PySem.F.type_dict_items, ⟨o', e', xd.1⟩, fun a e => by cases e; exact ⟨o', e', xd.2.1⟩, Calls.callWith_builtin rfl (PySem.evalArgs_none (mt_items pins s1 σ H1 (.ref d) [] _ [] Q I1 r2 .nil q1))⟩
end
end L2

namespace L2
open PySem PyProof.Rows PySem.Spec PySem.Calls
/-! ### == and != of lists and tuples of flat things, to any depth, with either answer -/
def DeqB (K : PySem.W.Frag) (H : Hp) : Nat → V → V → Bool → Prop
  | 0, x, y, b => flatV x = true ∧ flatV y = true ∧ b = eqV x y
  | n + 1, x, y, b => (flatV x = true ∧ flatV y = true ∧ b = eqV x y) ∨ ∃ a c xs ys, x = .ref a ∧ y = .ref c ∧ (a = c → b = true) ∧ ((SqL K H a xs ∧ SqL K H c ys) ∨ (SqT K H a xs ∧ SqT K H c ys)) ∧ xs.length = ys.length ∧ ∃ e : Nat → Bool, (∀ j, j < xs.length → DeqB K H n (xs.getD j .non) (ys.getD j .non) (e j)) ∧ b = (List.range xs.length).all e
theorem deqB_eqAt {X : Cx} {pins : List (Addr × Obj)} {σ : St} {H : Hp} {s : Shared} (I : Inv X pins σ H s) : ∀ (n : Nat) (A : Around) (x y : V) (b : Bool) (u v : Value), A.units + n < cLine → DeqB X.K H n x y b → RelV x u → RelV y v → SeqAt.EqAt A s u v b
  | 0, A, x, y, b, u, v, _, ⟨f, g, e⟩, rx, ry => by
    subst e
    exact eqAt_V (A := A) (s := s) rx ry f g
  | n + 1, A, x, y, bb, u, v, hu, h, rx, ry => by
    rcases h with ⟨f, g, e⟩ | ⟨a, b, xs, ys, rfl, rfl, same, hs, hl, e, he, eb⟩
    · subst e
      exact eqAt_V (A := A) (s := s) rx ry f g
    · cases rx
      cases ry
      by_cases hab : a = b
      · rw [same hab]; subst hab; exact SeqAt.EqAt.same _
      have hu1 : A.in1.units + n < cLine := in1_units hu
      refine SeqAt.EqAt.of_refs hab ?_
      subst eb
      rcases hs with ⟨h1, h2⟩ | ⟨h1, h2⟩
      · obtain ⟨its, r1, l1, _⟩ := I.list h1
        obtain ⟨jts, r2, l2, _⟩ := I.list h2
        have e1 := r1.length
        have e2 := r2.length
        have := SeqAt.RcAt.lists (A := A) (e := e) l1.isList l2.isList (by simp; omega) (by omega) (fun j q1 q2 => deqB_eqAt I n A.in1 _ _ _ _ _ hu1 (he j (by simp at q1; omega)) (vals_at r1 j q1) (vals_at r2 j q2))
        rwa [show its.toArray.size = xs.length by simp; omega] at this
      · obtain ⟨its, r1, l1, _⟩ := I.tuple h1
        obtain ⟨jts, r2, l2, _⟩ := I.tuple h2
        have e1 := r1.length
        have e2 := r2.length
        have := SeqAt.RcAt.tuples (A := A) (e := e) l1 l2 (by omega) (fun j q1 q2 => deqB_eqAt I n A.in1 _ _ _ _ _ hu1 (he j (by simp at q1; omega)) (vals_at r1 j q1) (vals_at r2 j q2))
        rw [show min its.toArray.size jts.toArray.size = xs.length by simp; omega, show (its.toArray.size == jts.toArray.size) = true from beq_iff_eq.mpr (by simp; omega), Bool.and_true] at this
        exact this
def rDb (K : PySem.W.Frag) (n : Nat) (neg : Bool) : R2 := fun x y H Q => ∃ a c xs ys, x = .ref a ∧ y = .ref c ∧ ((SqL K H a xs ∧ SqL K H c ys ∧ xs.length ≠ ys.length ∧ Q (.bl neg) H) ∨
  (((SqL K H a xs ∧ SqL K H c ys) ∨ (SqT K H a xs ∧ SqT K H c ys)) ∧ xs.length = ys.length ∧ ∃ e : Nat → Bool, (∀ j, j < xs.length → DeqB K H n (xs.getD j .non) (ys.getD j .non) (e j)) ∧ Q (.bl (if neg then !(List.range xs.length).all e else (List.range xs.length).all e)) H))
theorem op_eq_db {X : Cx} {n : Nat} (hu : X.A.units + (n + 1) < cLine) : OpR X (compareOp .Eq) (rDb X.K n false) := by
  intro pins s σ H x y v u Q I rx ry h
  obtain ⟨a, c, xs, ys, rfl, rfl, h⟩ := h
  cases rx
  cases ry
  rcases h with ⟨h1, h2, hl, q⟩ | ⟨hs, hl, e, he, q⟩
  · obtain ⟨its, r1, l1, _⟩ := I.list h1
    obtain ⟨jts, r2, l2, _⟩ := I.list h2
    have e1 := r1.length
    have e2 := r2.length
    exact SeqAt.RcAt.lists_lengths l1.isList l2.isList (by simp [bne_iff_ne]; omega) (by omega) X.prog X.w _ _ ⟨.bl false, H, I, rfl, q⟩
  rcases hs with ⟨h1, h2⟩ | ⟨h1, h2⟩
  · obtain ⟨its, r1, l1, _⟩ := I.list h1
    obtain ⟨jts, r2, l2, _⟩ := I.list h2
    have e1 := r1.length
    have e2 := r2.length
    have := SeqAt.RcAt.lists (A := X.A) (e := e) l1.isList l2.isList (by simp; omega) (by omega) (fun j q1 q2 => deqB_eqAt I n X.A.in1 _ _ _ _ _ (in1_units hu) (he j (by simp at q1; omega)) (vals_at r1 j q1) (vals_at r2 j q2))
    rw [show its.toArray.size = xs.length by simp; omega] at this
    exact this X.prog X.w _ _ ⟨.bl _, H, I, rfl, q⟩
  · obtain ⟨its, r1, l1, _⟩ := I.tuple h1
    obtain ⟨jts, r2, l2, _⟩ := I.tuple h2
    have e1 := r1.length
    have e2 := r2.length
    have := SeqAt.RcAt.tuples (A := X.A) (e := e) l1 l2 (by omega) (fun j q1 q2 => deqB_eqAt I n X.A.in1 _ _ _ _ _ (in1_units hu) (he j (by simp at q1; omega)) (vals_at r1 j q1) (vals_at r2 j q2))
    rw [show min its.toArray.size jts.toArray.size = xs.length by simp; omega, show (its.toArray.size == jts.toArray.size) = true from beq_iff_eq.mpr (by simp; omega), Bool.and_true] at this
    exact this X.prog X.w _ _ ⟨.bl _, H, I, rfl, q⟩
theorem op_ne_db {X : Cx} {n : Nat} (hu : X.A.units + (n + 1) < cLine) : OpR X (compareOp .NotEq) (rDb X.K n true) := by
  intro pins s σ H x y v u Q I rx ry h
  obtain ⟨a, c, xs, ys, rfl, rfl, h⟩ := h
  cases rx
  cases ry
  rcases h with ⟨h1, h2, hl, q⟩ | ⟨hs, hl, e, he, q⟩
  · obtain ⟨its, r1, l1, _⟩ := I.list h1
    obtain ⟨jts, r2, l2, _⟩ := I.list h2
    have e1 := r1.length
    have e2 := r2.length
    exact SeqAt.RcNeAt.lists_lengths l1.isList l2.isList (by simp [bne_iff_ne]; omega) (by omega) X.prog X.w _ _ ⟨.bl true, H, I, rfl, q⟩
  rcases hs with ⟨h1, h2⟩ | ⟨h1, h2⟩
  · obtain ⟨its, r1, l1, _⟩ := I.list h1
    obtain ⟨jts, r2, l2, _⟩ := I.list h2
    have e1 := r1.length
    have e2 := r2.length
    have := SeqAt.RcNeAt.lists (A := X.A) (e := e) l1.isList l2.isList (by simp; omega) (by omega) (fun j q1 q2 => deqB_eqAt I n X.A.in1 _ _ _ _ _ (in1_units hu) (he j (by simp at q1; omega)) (vals_at r1 j q1) (vals_at r2 j q2))
    rw [show its.toArray.size = xs.length by simp; omega] at this
    exact this X.prog X.w _ _ ⟨.bl _, H, I, rfl, q⟩
  · obtain ⟨its, r1, l1, _⟩ := I.tuple h1
    obtain ⟨jts, r2, l2, _⟩ := I.tuple h2
    have e1 := r1.length
    have e2 := r2.length
    have := SeqAt.RcNeAt.tuples (A := X.A) (e := e) l1 l2 (by omega) (fun j q1 q2 => deqB_eqAt I n X.A.in1 _ _ _ _ _ (in1_units hu) (he j (by simp at q1; omega)) (vals_at r1 j q1) (vals_at r2 j q2))
    rw [show min its.toArray.size jts.toArray.size = xs.length by simp; omega, show (its.toArray.size == jts.toArray.size) = true from beq_iff_eq.mpr (by simp; omega), Bool.and_true] at this
    exact this X.prog X.w _ _ ⟨.bl _, H, I, rfl, q⟩
/-! ### != of lists that hold dicts of flat things, or lists, all equal: the program and its world are fixed -/
theorem ne_loopIn {P : Program} {w : World} (l b : Addr) (xs ys : Array Value) (n m : Nat) (dd de : Option Addr) (sl sm : Array (Option Value)) (hsz : xs.size = ys.size) (k : Nat) :
    ∀ i : Nat, xs.size - i = k → MeetsIn P w (Builtin.«list.__eq__.loop» ⟨[.ref l, .ref b, rawInt i, rawInt 3], []⟩)
      (fun A R s => s.heap.get? l = some { cls := .type "list", dict := dd, data := .seq xs n, slots := sl } ∧ s.heap.get? b = some { cls := .type "list", dict := de, data := .seq ys m, slots := sm } ∧
        (∀ j (h1 : j < xs.size) (h2 : j < ys.size) (E : Value → Shared → Prop) (Q : Bool → Shared → Prop), Q true s → wpAny (model P w) A.in1 (eqBool xs[j] ys[j]) Q E s) ∧
        R (.ok (.ret (.bool false))) s) := by
  induction k with
  | zero =>
    intro i hk A R s h
    obtain ⟨hp, g, d, tk, os⟩ := s; obtain ⟨hl, hb, he, h⟩ := h
    wp_walk using wpAny_loadPart' hl, wpAny_loadPart' hb
    have hi1 : xs[((i : Nat) : Int).toNat]? = none := by simp; omega
    have hi2 : ys[((i : Nat) : Int).toNat]? = none := by simp; omega
    rw [hi1, hi2]
    wp_walk using wpAny_loadPart' hl, wpAny_loadPart' hb
    show R (.ok (.ret (.bool (xs.size != ys.size)))) _
    rw [hsz]
    simpa using h
  | succ k ih =>
    intro i hk A R s h
    obtain ⟨hp, g, d, tk, os⟩ := s; obtain ⟨hl, hb, he, h⟩ := h
    wp_walk using wpAny_loadPart' hl, wpAny_loadPart' hb
    have hlt : i < xs.size := by omega
    have hlt2 : i < ys.size := by omega
    have hi1 : xs[((i : Nat) : Int).toNat]? = some xs[i] := by simp [hlt]
    have hi2 : ys[((i : Nat) : Int).toNat]? = some ys[i] := by simp [hlt2]
    have hc : ((i : Int) + 1) = ((i + 1 : Nat) : Int) := by push_cast; rfl
    rw [hi1, hi2]
    refine wpAny_bind (he i hlt hlt2 _ _ ?_)
    wp_walk
    rw [hc]
    exact ⟨plainId_quiet PySem.MeetsSeq3.plain_eq_loop _, codeAny_builtin PySem.MeetsSeq3.entry_eq_loop (by
      rw [Around.under_plainId PySem.MeetsSeq3.plain_eq_loop _]
      exact ih (i + 1) (by omega) A R _ ⟨hl, hb, he, h⟩)⟩
theorem list_neIn {P : Program} {w : World} (l b : Addr) (xs ys : Array Value) (n m : Nat) (dd de : Option Addr) (sl sm : Array (Option Value)) (hsz : xs.size = ys.size) :
    MeetsIn P w (Builtin.«list.__ne__» ⟨[.ref l, .ref b], []⟩)
      (fun A R s => s.heap.get? l = some { cls := .type "list", dict := dd, data := .seq xs n, slots := sl } ∧ s.heap.get? b = some { cls := .type "list", dict := de, data := .seq ys m, slots := sm } ∧
        (∀ j (h1 : j < xs.size) (h2 : j < ys.size) (E : Value → Shared → Prop) (Q : Bool → Shared → Prop), Q true s → wpAny (model P w) A.in1 (eqBool xs[j] ys[j]) Q E s) ∧
        R (.ok (.ret (.bool false))) s) := by
  intro A R s h
  obtain ⟨hp, g, d, tk, os⟩ := s; obtain ⟨hl, hb, he, h⟩ := h
  have f3 := AutoSeq1.sub_list_list
  have hne : ¬ (xs.size != ys.size) = true := by simp [hsz]
  wp_walk using wpAny_loadPart' hl, wpAny_loadPart' hb
  exact ⟨plainId_quiet PySem.MeetsSeq3.plain_eq_loop _, codeAny_builtin PySem.MeetsSeq3.entry_eq_loop (by
    rw [Around.under_plainId PySem.MeetsSeq3.plain_eq_loop _]
    exact ne_loopIn l b xs ys n m dd de sl sm hsz _ 0 rfl A R _ ⟨hl, hb, he, h⟩)⟩
def rNeLd (K : PySem.W.Frag) : R2 := fun x y H Q => ∃ a c xs ys, x = .ref a ∧ y = .ref c ∧ SqL K H a xs ∧ SqL K H c ys ∧ xs.length = ys.length ∧ (∀ j, j < xs.length → Deq K H 2 (xs.getD j .non) (ys.getD j .non) ∨ DeqD H (xs.getD j .non) (ys.getD j .non)) ∧ Q (.bl false) H
theorem op_ne_ld {X : Cx} (hu : X.A.units + (2 + 1) < cLine) : OpR X (compareOp .NotEq) (rNeLd X.K) := by
  intro pins s σ H x y v u Q I rx ry h
  obtain ⟨a, c, xs, ys, rfl, rfl, h1, h2, hl, he, q⟩ := h
  cases rx
  cases ry
  obtain ⟨its, r1, l1, _⟩ := I.list h1
  obtain ⟨jts, r2, l2, _⟩ := I.list h2
  have e1 := r1.length
  have e2 := r2.length
  obtain ⟨⟨c1, dd, da, sl⟩, ho, hc, n, hd⟩ := id l1.isList
  obtain ⟨⟨c2, de, db, sm⟩, ho2, hc2, m, hd2⟩ := id l2.isList
  obtain rfl := hc
  obtain rfl := hd
  obtain rfl := hc2
  obtain rfl := hd2
  refine wpAny_richCompare_same_room (op := .NotEq) ⟨_, ho, rfl⟩ ⟨_, ho2, rfl⟩ PySem.F.slot_list_ne (call_meetsIn PySem.F.slot_list_ne ⟨_, ho, rfl⟩ PySem.F.entry_list_ne (PySem.F.args_list_ne_2 _ _) (list_neIn a c its.toArray jts.toArray n m dd de sl sm (by simp; omega)) ⟨ho, ho2, fun j q1 q2 E Q' hq => ?_, ?_⟩) (by omega)
  · have hj : j < xs.length := by simp at q1; omega
    rcases he j hj with z | z
    · exact deq_eqAt I 2 X.A.in1 _ _ _ _ (in1_units hu) z (vals_at r1 j q1) (vals_at r2 j q2) _ _ _ _ hq
    · exact deqD_in I (by have := in1_units hu; omega) z (vals_at r1 j q1) (vals_at r2 j q2) hq
  · exact ⟨(fun z => nomatch z), .bl false, H, I, rfl, q⟩
/-! ### a comprehension by an invariant -/
theorem compB_inv {J : It} {tc : TT} {te : TE} {σf : Option V → St} {H1 : Hp} {Q : VK} {xs : List V} (S : Seq J H1 xs) (Pv : Addr → Nat → List V → Hp → Prop) (hz : xs.length < sizeLine)
    (h0 : ∀ D, H1 D = none → Pv D 0 [] (upd H1 D (.lst [])))
    (hD : ∀ D i ys H, Pv D i ys H → Same H1 H ∧ H D = some (.lst ys) ∧ ys.length ≤ i)
    (hs : ∀ D i x ys H (N : List V → Hp → Prop), xs[i]? = some x → H1 D = none → Pv D i ys H → (∀ ys' H', Pv D (i + 1) ys' H' → N ys' H') → tc (σf (some x)) H fun b H4 => if b = true then te (σf (some x)) H4 fun y H5 => H5 D = some (.lst ys) ∧ N (ys ++ [y]) (upd H5 D (.lst (ys ++ [y]))) else N ys H4)
    (q : ∀ D ys H, H1 D = none → Pv D xs.length ys H → Q (.ref D) H) : CompB J tc te σf H1 Q := by
  intro D hD1
  refine ⟨fun i m ys H2 => m = xs.length - i ∧ i ≤ xs.length ∧ Pv D i ys H2, ⟨xs.length, rfl, Nat.zero_le _, h0 D hD1⟩, ?_⟩
  rintro i m ys H2 ⟨rfl, hi, p⟩
  obtain ⟨d0, d1, d2⟩ := hD D i ys H2 p
  refine ⟨d1, ?_⟩
  by_cases hlt : i < xs.length
  · refine .inr ⟨S.go i H2 d0 hlt, by omega, fun x H3 y => ?_⟩
    obtain ⟨rfl, hx⟩ := S.yld i H2 x H3 d0 hlt y
    exact hs D i x ys _ (fun ys' H' => ∃ m', m' < xs.length - i ∧ (m' = xs.length - (i + 1) ∧ i + 1 ≤ xs.length ∧ Pv D (i + 1) ys' H')) hx hD1 p fun ys' H' z => ⟨xs.length - (i + 1), by omega, rfl, hlt, z⟩
  · have e : i = xs.length := by omega
    subst e
    exact .inl ⟨S.stop H2 d0, q D ys H2 hD1 p⟩
end L2

namespace My
open PySem L2
/-- figures, by their codes; what is a number, what it writes -/
def fig : List Nat := List.range' 48 10
def isnum (z : Str) : Bool := decide ((1 : Int) ≤ (z.length : Nat)) && decide (((z.length : Nat) : Int) ≤ 9) && (z.cps.toList.all fun c => decide (c ∈ fig)) && (decide (z = ⟨#[48]⟩) || !decide (z.cps.toList.headD 0 = 48))
def val (z : Str) : Int := ((NumText.digitsVal z.cps.toList : Nat) : Int)
def wr (z : Str) : V := if isnum z = true then .int (val z) else .non
def inNum (z : Str) (lo hi : Int) : V := if (isnum z && decide (lo ≤ val z) && decide (val z ≤ hi)) = true then .int (val z) else .non
/-- small letters, figures, by their codes -/
def low : List Nat := List.range' 97 26
def good (z : Str) : Bool := decide ((1 : Int) ≤ (z.length : Nat)) && decide (((z.length : Nat) : Int) ≤ 12) && decide (z.cps.toList.headD 0 ∈ low) && z.cps.toList.all fun c => decide (c ∈ low ++ fig)
/-- what is_layout tells of a text -/
def lay (z : Str) : Bool := decide (z = Str.ofString "both") || (Txt.startswith z (Str.ofString "up:") && decide (¬ inNum (Txt.slice z (some 3) none) 2 16 = V.non))
/-- the fifteen texts behind both -/
def goods : List V := (((List.range 15).map fun i => V.int (2 + ((i : Nat) : Int))).filter fun _ => true).map fun v => match v with | .int n => V.str (Str.ofString "up:" ++ Str.ofString (toString n)) | _ => .non
def goodTexts : List Str := (List.range 15).map fun i => Str.ofString "up:" ++ Str.ofString (toString (2 + ((i : Nat) : Int)))
end My

namespace My
open PySem L2
open Blk (sg sg_inj sg_app)
/-! ### parts between a sign c -/
def Jc (c : Nat) : List (List Nat) → List Nat
  | [] => []
  | [x] => x
  | x :: y :: r => x ++ c :: Jc c (y :: r)
def Cc (c : Nat) : List Nat → List (List Nat)
  | [] => [[]]
  | d :: r => if d = c then [] :: Cc c r else match Cc c r with
    | [] => [[d]]
    | p :: ps => (d :: p) :: ps
/-! ### beginnings -/
theorem sg_len (z : Str) : (sg z).length = z.length := len_toList z
/-! ### numbers written -/
def tn (n : Int) : Str := Str.ofString (toString n)
end My

namespace My
open PySem L2
open Blk (sg sg_inj sg_app)
/-- what a word tells: a plain value, or a pair of pages -/
inductive VO where
  | v (x : V) | pair (a b : Int)
  deriving DecidableEq
def non : VO := .v .non
abbrev cX : Str := Str.ofString "x"
abbrev cCol : Str := Str.ofString "colour:"
abbrev cPap : Str := Str.ofString "paper:"
abbrev cCov : Str := Str.ofString "cover:"
abbrev cAft : Str := Str.ofString "after:"
abbrev cSta : Str := Str.ofString "staple"
abbrev cLay : Str := Str.ofString "layout"
abbrev cOne : Str := Str.ofString "one"
abbrev cPla : Str := Str.ofString "plain"
abbrev cDash : Str := Str.ofString "-"
abbrev cBlank : Str := Str.ofString " "
/-- the rest of a text behind a beginning -/
def rst (z p : Str) : Str := Txt.slice z (some ((p.length : Nat) : Int)) none
def readCol (span : Str) (pages : Int) : VO := match Txt.split span cDash with
  | [a, b] => (match inNum a 1 pages with
    | .int f => (match inNum b f pages with
      | .int l => .pair f l
      | _ => non)
    | _ => non)
  | _ => non
def three : List Str := [cPap, cCov, cAft]
def four : List Str := [cX, cCol, cPap, cCov]
def valueOf (z : Str) (pages : Int) : VO :=
  if z = cSta then .v (.bl true) else if lay z = true then .v (.str z) else if Txt.startswith z cX = true then .v (inNum (rst z cX) 1 99) else if Txt.startswith z cCol = true then readCol (rst z cCol) pages
  else match three.find? (fun p => Txt.startswith z p && good (rst z p)) with
    | some p => .v (.str (rst z p))
    | none => non
def sortOf (z : Str) : Str := if lay z = true then cLay else (four.find? fun p => Txt.startswith z p).getD z
def readTail (pages : Int) : List Str → Nat → List (Str × VO) → Except Nat (List (Str × VO))
  | [], _, t => .ok t
  | w :: r, p, t => if valueOf w pages = non ∨ sortOf w ∈ t.map (·.1) then .error p else readTail pages r (p + 1) (t ++ [(sortOf w, valueOf w pages)])
def toldV (t : List (Str × VO)) (k : Str) : Option VO := (t.find? fun p => decide (p.1 = k)).map (·.2)
/-- a job as it is read -/
structure JF where
  name : Str
  asker : Str
  pages : Int
  copies : VO
  layout : VO
  paper : VO
  cover : VO
  colour : VO
  staple : VO
  after : List VO
def readHead (ws : List Str) : Except Nat Int :=
  if good (ws.getD 0 cBlank) = false then .error 0 else if ws.length < 2 then .error ws.length else if good (ws.getD 1 cBlank) = false then .error 1 else if ws.length < 3 then .error ws.length else
  match inNum (ws.getD 2 cBlank) 1 999 with
  | .int n => .ok n
  | _ => .error 2
def toldJob (ws : List Str) (pages : Int) (t : List (Str × VO)) : JF :=
  { name := ws.getD 0 cBlank, asker := ws.getD 1 cBlank, pages := pages, copies := (toldV t cX).getD (.v (.int 1)), layout := (toldV t cLay).getD (.v (.str cOne)), paper := (toldV t cPap).getD (.v (.str cPla)), cover := (toldV t cCov).getD non, colour := (toldV t cCol).getD non,
    staple := (toldV t cSta).getD (.v (.bl false)), after := (t.filter fun p => Txt.startswith p.1 cAft).map (·.2) }
def readJ (z : Str) : Except Nat JF := match readHead (Txt.split z cBlank) with
  | .error p => .error p
  | .ok n => match readTail n ((Txt.split z cBlank).drop 3) 3 [] with
    | .error p => .error p
    | .ok t => .ok (toldJob (Txt.split z cBlank) n t)
/-! ### a job's own values -/
structure Jb where
  name : Str
  asker : Str
  pages : Int
  copies : Int
  layout : Str
  paper : Str
  cover : Option Str
  colour : Option (Int × Int)
  staple : Bool
  after : List Str
structure Jb.Ok (j : Jb) : Prop where
  name : good j.name = true
  asker : good j.asker = true
  p0 : 1 ≤ j.pages
  p1 : j.pages ≤ 999
  c0 : 1 ≤ j.copies
  c1 : j.copies ≤ 99
  lay : j.layout ∈ cOne :: Str.ofString "both" :: goodTexts
  paper : good j.paper = true
  cover : ∀ z, j.cover = some z → good z = true
  colour : ∀ a b, j.colour = some (a, b) → 1 ≤ a ∧ a ≤ b ∧ b ≤ j.pages
  after : ∀ z ∈ j.after, good z = true
  nd : j.after.Nodup
  few : j.after.length ≤ 3
def Jb.jf (j : Jb) : JF := { name := j.name, asker := j.asker, pages := j.pages, copies := .v (.int j.copies), layout := .v (.str j.layout), paper := .v (.str j.paper), cover := (match j.cover with | some z => .v (.str z) | none => non), colour := (match j.colour with | some (a, b) => .pair a b | none => non), staple := .v (.bl j.staple), after := j.after.map fun z => .v (.str z) }
/-- the words that may be told: is it, the word, its sort, what it tells -/
def Jb.ents (j : Jb) (told : Bool) : List (Bool × Str × Str × VO) :=
  [(!decide (j.copies = 1) || told, cX ++ tn j.copies, cX, .v (.int j.copies)), (!decide (j.layout = cOne), j.layout, cLay, .v (.str j.layout)),
   (j.colour.isSome, cCol ++ tn (j.colour.getD (1, 1)).1 ++ cDash ++ tn (j.colour.getD (1, 1)).2, cCol, .pair (j.colour.getD (1, 1)).1 (j.colour.getD (1, 1)).2),
   (!decide (j.paper = cPla) || told, cPap ++ j.paper, cPap, .v (.str j.paper)), (j.cover.isSome, cCov ++ j.cover.getD cPla, cCov, .v (.str (j.cover.getD cPla))), (j.staple, cSta, cSta, .v (.bl true))]
def Jb.words (j : Jb) (told : Bool) : List Str := ((j.ents told).filter (·.1)).map (·.2.1)
def Jb.afts (j : Jb) : List Str := j.after.map fun n => cAft ++ n
/-! ### what each word is worth -/
end My

namespace My
open PySem L2
open Blk (sg sg_inj sg_app)
def sorts : List Str := [cX, cLay, cCol, cPap, cCov, cSta]
def told (pages : Int) (M : List Str) : List (Str × VO) := M.map fun w => (sortOf w, valueOf w pages)
/-- the words behind the head, mixed: those of the sorts in any order, those after which it comes in theirs -/
structure Mix (ws as M : List Str) : Prop where
  perm : M.Perm (ws ++ as)
  afts : (M.filter fun w => Txt.startswith w cAft) = as
def Jb.head (j : Jb) : List Str := [j.name, j.asker, tn j.pages]
end My

namespace My
open PySem L2
open Blk (sg sg_inj sg_app)
/-! ### what stands for a word's worth on the heap -/
def HoldsV (H : Hp) (x : V) : VO → Prop
  | .v y => x = y
  | .pair a b => ∃ p, x = .ref p ∧ H p = some (.tup [.int a, .int b])
theorem HoldsV.same {H H' : Hp} {x : V} {o : VO} (h : HoldsV H x o) (e : Same H H') : HoldsV H' x o := by
  cases o with
  | v y => exact h
  | pair a b => obtain ⟨p, h1, h2⟩ := h; exact ⟨p, h1, e _ _ h2⟩
theorem HoldsV.upd {H : Hp} {x : V} {o : VO} {D : Addr} {kvs : List (Key × V)} {u : HO} (h : HoldsV H x o) (hD : H D = some (.dK kvs)) : HoldsV (L2.upd H D u) x o := by
  cases o with
  | v y => exact h
  | pair a b =>
    obtain ⟨p, h1, h2⟩ := h
    exact ⟨p, h1, by rw [upd_ne (ne_of h2 hD (by intro z; cases z))]; exact h2⟩
/-- the dict of what was told -/
def TR (H : Hp) (q : Key × V) (p : Str × VO) : Prop := q.1 = Sum.inr p.1 ∧ HoldsV H q.2 p.2
structure Told (H : Hp) (D : Addr) (kvs : List (Key × V)) (t : List (Str × VO)) : Prop where
  at_ : H D = some (.dK kvs)
  rel : Paired (TR H) kvs t
  nd : (t.map (·.1)).Nodup
theorem Told.look {H : Hp} {D : Addr} {kvs : List (Key × V)} {t : List (Str × VO)} (T : Told H D kvs t) (k : Str) : match valV kvs (Sum.inr k : Key), toldV t k with | some x, some o => HoldsV H x o | none, none => True | _, _ => False := by
  have key : ∀ {kvs : List (Key × V)} {t : List (Str × VO)}, Paired (TR H) kvs t → match valV kvs (Sum.inr k : Key), toldV t k with | some x, some o => HoldsV H x o | none, none => True | _, _ => False := by
    intro kvs t r
    induction r with
    | nil => trivial
    | @cons q p kvs t h r ih =>
      obtain ⟨h1, h2⟩ := h
      by_cases e : p.1 = k
      · rw [valV_pos (by rw [h1, e])]
        unfold toldV
        rw [List.find?_cons_of_pos (h := by exact decide_eq_true e)]
        exact h2
      · rw [valV_neg (by rw [h1]; intro z; injection z with z; exact e z)]
        unfold toldV
        rw [List.find?_cons_of_neg (h := by rw [decide_eq_false e]; decide)]
        exact ih
  exact key T.rel
theorem Told.has {H : Hp} {D : Addr} {kvs : List (Key × V)} {t : List (Str × VO)} (T : Told H D kvs t) (k : Str) : (valV kvs (Sum.inr k : Key)).isSome = decide (k ∈ t.map (·.1)) := by
  have q := T.look k
  cases e2 : toldV t k with
  | none =>
    have nm : k ∉ t.map (·.1) := fun m => by
      obtain ⟨p, hp, rfl⟩ := List.mem_map.mp m
      unfold toldV at e2
      rw [Option.map_eq_none_iff] at e2
      have := List.find?_eq_none.mp e2 p hp
      exact this (decide_eq_true rfl)
    rw [decide_eq_false nm]
    cases e1 : valV kvs (Sum.inr k : Key) with
    | none => rfl
    | some x => rw [e1, e2] at q; exact q.elim
  | some o =>
    have m : k ∈ t.map (·.1) := by
      unfold toldV at e2
      obtain ⟨p, hp, _⟩ := Option.map_eq_some_iff.mp e2
      exact List.mem_map.mpr ⟨p, List.mem_of_find?_eq_some hp, by have q := List.find?_some hp; exact of_decide_eq_true q⟩
    rw [decide_eq_true m]
    cases e1 : valV kvs (Sum.inr k : Key) with
    | none => rw [e1, e2] at q; exact q.elim
    | some x => rfl
theorem Told.same {H H' : Hp} {D : Addr} {kvs : List (Key × V)} {t : List (Str × VO)} (T : Told H D kvs t) (e : Same H H') : Told H' D kvs t := ⟨e _ _ T.at_, Paired.mapP T.rel fun _ _ h => ⟨h.1, h.2.same e⟩, T.nd⟩
theorem paired_snoc {α β : Type} {R : α → β → Prop} : ∀ {xs : List α} {ys : List β} {x : α} {y : β}, Paired R xs ys → R x y → Paired R (xs ++ [x]) (ys ++ [y])
  | _, _, _, _, .nil, h => .cons h .nil
  | _, _, _, _, .cons a b, h => .cons a (paired_snoc b h)
theorem Told.put {H : Hp} {D : Addr} {kvs : List (Key × V)} {t : List (Str × VO)} (T : Told H D kvs t) {k : Str} {x : V} {o : VO} (hx : HoldsV H x o) (hn : valV kvs (Sum.inr k : Key) = none) :
    Told (upd H D (.dK (putK kvs (Sum.inr k) x))) D (kvs ++ [(Sum.inr k, x)]) (t ++ [(k, o)]) := by
  have hk : k ∉ t.map (·.1) := fun m => by
    have q := T.has k
    rw [hn, decide_eq_true m] at q
    cases q
  refine ⟨?_, ?_, by rw [List.map_append]; exact nd_snoc T.nd hk⟩
  · rw [upd_same, putK_new x hn]
  · exact paired_snoc (Paired.mapP T.rel fun _ _ h => ⟨h.1, h.2.upd T.at_⟩) ⟨rfl, hx.upd T.at_⟩
theorem Told.keys {H : Hp} {kvs : List (Key × V)} {t : List (Str × VO)} (r : Paired (TR H) kvs t) : kvs.map (·.1) = (t.map (·.1)).map Sum.inr := by
  induction r with
  | nil => rfl
  | cons h r ih => rw [List.map_cons, List.map_cons, List.map_cons, ih, h.1]
def luV (kvs : List (Key × V)) : V → V
  | .str s => (valV kvs (Sum.inr s : Key)).getD .non
  | _ => .non
def afterP : V → Bool
  | .str x => Txt.startswith x cAft
  | _ => false
theorem Told.after {H : Hp} {D : Addr} {kvs : List (Key × V)} {t : List (Str × VO)} (T : Told H D kvs t) (g : V → V) (hg : ∀ q ∈ kvs, g (kV q.1) = q.2) :
    Paired (fun a o => HoldsV H a o) (((kvs.map fun p => kV p.1).filter afterP).map g) ((t.filter fun p => Txt.startswith p.1 cAft).map (·.2)) := by
  rw [List.filter_map, List.map_map]
  have e : (kvs.filter (afterP ∘ fun p => kV p.1)).map (g ∘ fun p => kV p.1) = (kvs.filter (afterP ∘ fun p => kV p.1)).map (·.2) := List.map_congr_left fun q hq => hg q (List.mem_filter.mp hq).1
  rw [e]
  clear e hg
  have key : ∀ {kvs : List (Key × V)} {t : List (Str × VO)}, Paired (TR H) kvs t → Paired (fun a o => HoldsV H a o) ((kvs.filter (afterP ∘ fun p => kV p.1)).map (·.2)) ((t.filter fun p => Txt.startswith p.1 cAft).map (·.2)) := by
    intro kvs t r
    induction r with
    | nil => exact .nil
    | @cons q p kvs t h r ih =>
      obtain ⟨h1, h2⟩ := h
      have e1 : (afterP ∘ fun p : Key × V => kV p.1) q = Txt.startswith p.1 cAft := by
        show afterP (kV q.1) = _
        rw [h1]
        rfl
      cases hs : Txt.startswith p.1 cAft with
      | true =>
        rw [List.filter_cons_of_pos (by rw [e1, hs]), List.filter_cons_of_pos (by exact hs)]
        exact .cons h2 ih
      | false =>
        rw [List.filter_cons_of_neg (by rw [e1, hs]; decide), List.filter_cons_of_neg (by rw [hs]; decide)]
        exact ih
  exact key T.rel
theorem Told.nodup {H : Hp} {D : Addr} {kvs : List (Key × V)} {t : List (Str × VO)} (T : Told H D kvs t) : (kvs.map (·.1)).Nodup := by
  rw [Told.keys T.rel]
  exact List.Pairwise.map _ (fun a b h e => h (by injection e)) T.nd
theorem Told.len {H : Hp} {D : Addr} {kvs : List (Key × V)} {t : List (Str × VO)} (T : Told H D kvs t) : kvs.length = t.length := Paired.length T.rel
/-! ### a job on the heap -/
def jobF (a b c d e f g h i j : V) : List (Str × V) := [("name", a), ("asker", b), ("pages", c), ("copies", d), ("layout", e), ("paper", f), ("cover", g), ("colour", h), ("staple", i), ("after", j)]
structure JobAt (C : Addr) (H : Hp) (x : Addr) (f : JF) : Prop where
  ex : ∃ (dx pa : Addr) (d e p g h i : V) (as : List V), H x = some (.ins C dx (jobF (.str f.name) (.str f.asker) (.int f.pages) d e p g h i (.ref pa))) ∧ HoldsV H d f.copies ∧ HoldsV H e f.layout ∧ HoldsV H p f.paper ∧ HoldsV H g f.cover ∧ HoldsV H h f.colour ∧ HoldsV H i f.staple ∧
    H pa = some (.tup as) ∧ Paired (fun a o => HoldsV H a o) as f.after
theorem JobAt.same {C : Addr} {H H' : Hp} {x : Addr} {f : JF} (J : JobAt C H x f) (e : Same H H') : JobAt C H' x f := by
  obtain ⟨dx, pa, v1, v2, v3, v4, v5, v6, as, h0, h1, h2, h3, h4, h5, h6, h7, h8⟩ := J.ex
  exact ⟨dx, pa, v1, v2, v3, v4, v5, v6, as, e _ _ h0, h1.same e, h2.same e, h3.same e, h4.same e, h5.same e, h6.same e, e _ _ h7, Paired.mapP h8 fun _ _ h => h.same e⟩
theorem cut_from (xs : List V) (k : Nat) : cutV xs (some (k : Int)) none = xs.drop k := by
  unfold cutV
  rw [HT.sIx_nat, HT.sIx_none]
  by_cases h : k ≤ xs.length
  · rw [Nat.min_eq_left h]
    exact List.take_of_length_le (by rw [List.length_drop]; omega)
  · rw [Nat.min_eq_right (by omega), List.drop_of_length_le (Nat.le_refl _), List.drop_of_length_le (by omega), List.take_nil]
theorem cut_to (xs : List V) (k : Nat) : cutV xs none (some (k : Int)) = xs.take k := by
  unfold cutV
  rw [HT.sIx_nat, HT.sIx_none]
  by_cases h : k ≤ xs.length
  · rw [Nat.min_eq_left h]
    rfl
  · rw [Nat.min_eq_right (by omega), List.drop_zero, Nat.sub_zero, List.take_of_length_le (Nat.le_refl _), List.take_of_length_le (by omega)]
end My

namespace My
open PySem L2
open Blk (sg sg_inj sg_app)
/-! ### names that differ at one place -/
def nmC (f r : Nat) (size place l : Nat) : List Nat := (f :: List.replicate (size - 1) r).set place l
def nm (f r : Nat) (size place l : Nat) : Str := ⟨(nmC f r size place l).toArray⟩
def ltr (s : Nat) (j : Nat) : Nat := 97 + (s + 5 * j) % 26
def nms (f r size place s : Nat) (m : Nat) : List Str := (List.range m).map fun j => nm f r size place (ltr s j)
structure NamesOk (ns : List Str) (m : Nat) : Prop where
  len : ns.length = m
  good : ∀ z ∈ ns, good z = true
  nd : ns.Nodup
def six : List Str := [Str.ofString "x2", Str.ofString "staple", Str.ofString "both", Str.ofString "up2", Str.ofString "plain", Str.ofString "after"]
def one (c : Nat) : Str := ⟨#[c]⟩
/-! ### the values that are due, on the heap -/
def optV : Option Str → V
  | some z => .str z
  | none => .non
structure Due (H : Hp) (t : Addr) (j : Jb) : Prop where
  ex : ∃ (vc : V) (pa : Addr), H t = some (.tup [.str j.name, .str j.asker, .int j.pages, .int j.copies, .str j.layout, .str j.paper, optV j.cover, vc, .bl j.staple, .ref pa]) ∧ HoldsV H vc j.jf.colour ∧ H pa = some (.tup (j.after.map V.str))
theorem Due.same {H H' : Hp} {t : Addr} {j : Jb} (D : Due H t j) (e : Same H H') : Due H' t j := by
  obtain ⟨vc, pa, h1, h2, h3⟩ := D.ex
  exact ⟨vc, pa, e _ _ h1, h2.same e, e _ _ h3⟩
end My

namespace My
open PySem L2
open Blk (sg sg_inj sg_app)
/-! ### words put in at drawn places -/
theorem ins_perm {α : Type} (M : List α) (i : Nat) (y : α) : (M.take i ++ y :: M.drop i).Perm (M ++ [y]) := by
  have a : (M.take i ++ y :: M.drop i).Perm (y :: (M.take i ++ M.drop i)) := List.perm_middle
  rw [List.take_append_drop] at a
  exact a.trans (List.perm_append_singleton y M).symm
structure Mid (ws as : List Str) (A : Nat) (M : List Str) : Prop where
  perm : M.Perm (ws ++ as)
  le : A ≤ M.length
  pre : ((M.take A).filter fun w => Txt.startswith w cAft) = as
  post : ((M.drop A).filter fun w => Txt.startswith w cAft) = []
theorem Mid.start {ws M : List Str} (p : M.Perm ws) (h : ∀ w ∈ ws, Txt.startswith w cAft = false) : Mid ws [] 0 M := by
  refine ⟨by rw [List.append_nil]; exact p, Nat.zero_le _, by simp, ?_⟩
  rw [List.drop_zero]
  exact List.filter_eq_nil_iff.mpr fun w hw => by rw [h w (p.mem_iff.mp hw)]; decide
theorem Mid.put {ws as M : List Str} {A B : Nat} {y : Str} (m : Mid ws as A M) (h1 : A ≤ B) (h2 : B ≤ M.length) (hy : Txt.startswith y cAft = true) : Mid ws (as ++ [y]) (B + 1) (M.take B ++ y :: M.drop B) := by
  have hl : (M.take B).length = B := by rw [List.length_take]; omega
  refine ⟨?_, ?_, ?_, ?_⟩
  · exact (ins_perm M B y).trans (by rw [← List.append_assoc]; exact m.perm.append_right [y])
  · rw [List.length_append, List.length_cons, hl, List.length_drop]
    omega
  · have e : (M.take B ++ y :: M.drop B).take (B + 1) = M.take B ++ [y] := by
      rw [List.take_append, hl, List.take_of_length_le (by omega), show B + 1 - B = 1 by omega]
      rfl
    rw [e, List.filter_append]
    have e2 : ((M.take B).filter fun w => Txt.startswith w cAft) = as := by
      have e3 : M.take B = M.take A ++ (M.drop A).take (B - A) := by
        rw [← List.take_append_drop A (M.take B), List.take_take, Nat.min_eq_left h1, List.drop_take]
      rw [e3, List.filter_append, m.pre]
      have e4 : (((M.drop A).take (B - A)).filter fun w => Txt.startswith w cAft) = [] := by
        refine List.filter_eq_nil_iff.mpr fun w hw => ?_
        exact List.filter_eq_nil_iff.mp m.post w (List.mem_of_mem_take hw)
      rw [e4, List.append_nil]
    rw [e2]
    simp [hy]
  · have e : (M.take B ++ y :: M.drop B).drop (B + 1) = M.drop B := by
      rw [List.drop_append, hl, List.drop_of_length_le (by omega), show B + 1 - B = 1 by omega]
      rfl
    rw [e]
    refine List.filter_eq_nil_iff.mpr fun w hw => ?_
    have : w ∈ M.drop A := by
      have e3 : M.drop B = (M.drop A).drop (B - A) := by rw [List.drop_drop]; congr 1; omega
      rw [e3] at hw
      exact List.mem_of_mem_drop hw
    exact List.filter_eq_nil_iff.mp m.post w this
theorem Mid.done {ws as M : List Str} {A : Nat} (m : Mid ws as A M) : Mix ws as M := by
  refine ⟨m.perm, ?_⟩
  rw [← List.take_append_drop A M, List.filter_append, m.pre, m.post, List.append_nil]
end My

namespace My
open PySem L2
def top (i : Nat) : Stmt := PySem.Challenge.pw_spoolhall_k68_first_wrong.main.body.getD i (.Pass ⟨0, 0, 0, 0⟩)
abbrev s_Account_init : Stmt := inClass (top 6) 0
abbrev s_Account_allows : Stmt := inClass (top 6) 1
abbrev s_Account_has_for : Stmt := inClass (top 6) 2
abbrev s_Account_enter : Stmt := inClass (top 6) 3
abbrev s_Account_add_ink : Stmt := inClass (top 6) 4
abbrev s_first_wrong : Stmt := top 7
abbrev s__law_draw : Stmt := top 9
abbrev s__law_great : Stmt := top 10
abbrev s__law_whole : Stmt := top 11
abbrev s__law_names : Stmt := top 12
abbrev s__law_number : Stmt := top 13
abbrev s__law_any_row : Stmt := top 14
abbrev s__law_fresh : Stmt := top 15
abbrev s__law_goes : Stmt := top 16
abbrev s__law_feed : Stmt := top 17
abbrev s__law_right_row : Stmt := top 18
abbrev s__law_right_rows : Stmt := top 19
abbrev s__law_paths : Stmt := top 20
abbrev s__law_turned : Stmt := top 21
abbrev s__law_spoilt : Stmt := top 22
abbrev s__law_due : Stmt := top 23
abbrev s__law_asked : Stmt := top 24
abbrev s_law : Stmt := top 25
structure Txt (K : PySem.W.Frag) (mg : Str → Option Value) (cAccount : Addr) : Prop where
  len : mg "len" = none
  range : mg "range" = none
  enumerate : mg "enumerate" = none
  int : mg "int" = none
  bool : mg "bool" = none
  list : mg "list" = none
  isinstance : mg "isinstance" = none
  dict : mg "dict" = none
  LOAD : GS mg "LOAD" (Str.ofString "load")
  INK : GS mg "INK" (Str.ofString "ink")
  FEED : GS mg "FEED" (Str.ofString "feed")
  OUT : GS mg "OUT" (Str.ofString "out")
  LOST : GS mg "LOST" (Str.ofString "lost")
  cl_Account : Cls K cAccount
  mg_Account : mg "Account" = some (.ref cAccount)
  n_Account_stacks : NoAttr K cAccount "stacks"
  n_Account_black : NoAttr K cAccount "black"
  n_Account_coloured : NoAttr K cAccount "coloured"
  n_Account_fed_tags : NoAttr K cAccount "fed_tags"
end My

seal L2.PE L2.PS L2.PSs L2.PT L2.PW L2.PA L2.PI L2.PG L2.PGs L2.PSet L2.PIfs L2.PO L2.PK L2.CallR L2.OpR L2.IxR L2.SlR L2.UnR
namespace My
open PySem L2
open Blk (sg sg_inj sg_app)
section
variable {P : Program} {w : World} {K : PySem.W.Frag} {mg : Str → Option Value} {base : Heap}
theorem int_of {ns : List Int} {j : Nat} {v : V} (h : (ns.map V.int)[j]? = some v) : ∃ z, v = V.int z := by
  rw [List.getElem?_map] at h
  cases e : ns[j]? with
  | none => rw [e] at h; cases h
  | some z => rw [e] at h; exact ⟨z, (Option.some.inj h).symm⟩
/-- the script stands at a -/
structure Scr (K : PySem.W.Frag) (H : Hp) (a : Addr) : Prop where
  ex : ∃ ns : List Int, SqL K H a (ns.map V.int) ∧ ns.length ≤ 63
theorem Scr.same {K : PySem.W.Frag} {H H' : Hp} {a : Addr} (s : Scr K H a) (e : Same H H') : Scr K H' a := by
  obtain ⟨ns, h, l⟩ := s.ex
  exact ⟨ns, e.seq h, l⟩

end
end My

namespace My
open PySem L2
open Blk (sg sg_inj sg_app)
section
variable {P : Program} {w : World} {K : PySem.W.Frag} {mg : Str → Option Value} {base : Heap}
theorem iteYes {c A B : Prop} [Decidable c] (hc : c) (h : A) : if decide c = true then A else B := by
  rw [if_pos (decide_eq_true hc)]
  exact h
theorem iteNo {c A B : Prop} [Decidable c] (hc : ¬ c) (h : B) : if decide c = true then A else B := by
  rw [if_neg (by rw [decide_eq_false hc]; decide)]
  exact h
/-! ### the rows of the book -/
abbrev ldW : Str := Str.ofString "load"
abbrev ikW : Str := Str.ofString "ink"
abbrev fdW : Str := Str.ofString "feed"
abbrev otW : Str := Str.ofString "out"
abbrev lsW : Str := Str.ofString "lost"
inductive Row67 where
  | load (p k : Str) (n : Int)
  | ink (p : Str) (b c : Int)
  | feed (p k j : Str) (m b c : Int)
  | out (p j : Str) (m : Int)
  | lost (p j : Str) (m : Int)
def Row67.vs : Row67 → List V
  | .load p k n => [.str ldW, .str p, .str k, .int n]
  | .ink p b c => [.str ikW, .str p, .int b, .int c]
  | .feed p k j m b c => [.str fdW, .str p, .str k, .str j, .int m, .int b, .int c]
  | .out p j m => [.str otW, .str p, .str j, .int m]
  | .lost p j m => [.str lsW, .str p, .str j, .int m]
def Row67.pr : Row67 → Str
  | .load p _ _ => p
  | .ink p _ _ => p
  | .feed p _ _ _ _ _ => p
  | .out p _ _ => p
  | .lost p _ _ => p
theorem row_pr (r : Row67) : atI r.vs 1 = some (.str r.pr) := by cases r <;> rfl
/-- the rows' list at a: the tuples' addresses, and what they hold -/
structure RowsAt (H : Hp) (a : Addr) (prs : List (Addr × Row67)) : Prop where
  l : H a = some (.lst (prs.map fun p => .ref p.1))
  t : ∀ p ∈ prs, H p.1 = some (.tup p.2.vs)
theorem RowsAt.same {H H' : Hp} {a : Addr} {prs : List (Addr × Row67)} (R : RowsAt H a prs) (k : Same H H') : RowsAt H' a prs := ⟨k _ _ R.l, fun p hp => k _ _ (R.t p hp)⟩
theorem rows_at {prs : List (Addr × Row67)} {i : Nat} {x : V} (h : (prs.map fun p => V.ref p.1)[i]? = some x) : ∃ p, prs[i]? = some p ∧ x = .ref p.1 := by
  rw [List.getElem?_map] at h
  obtain ⟨p, e, rfl⟩ := Option.map_eq_some_iff.mp h
  exact ⟨p, e, rfl⟩
theorem row_flat (r : Row67) : ∀ v ∈ r.vs, (∃ z, v = V.int z) ∨ ∃ z, v = V.str z := by
  intro v hv
  cases r <;> (simp only [Row67.vs, List.mem_cons, List.not_mem_nil, or_false] at hv) <;> (rcases hv with rfl | rfl | rfl | rfl | rfl | rfl | rfl) <;> first | exact .inl ⟨_, rfl⟩ | exact .inr ⟨_, rfl⟩
theorem deq_rows {K : PySem.W.Frag} {H : Hp} {prs : List (Addr × Row67)} (t : ∀ p ∈ prs, H p.1 = some (.tup p.2.vs)) : ∀ j, j < (prs.map fun p => V.ref p.1).length → Deq K H 1 ((prs.map fun p => V.ref p.1).getD j .non) ((prs.map fun p => V.ref p.1).getD j .non) := fun j hj => by
  obtain ⟨x, ex⟩ : ∃ x, (prs.map fun p => V.ref p.1)[j]? = some x := ⟨_, List.getElem?_eq_getElem hj⟩
  rw [List.getD_eq_getElem?_getD, ex]
  obtain ⟨p, ep, rfl⟩ := rows_at ex
  have h := t p (List.mem_of_getElem? ep)
  refine .inr ⟨p.1, p.1, _, _, rfl, rfl, .inr ⟨SqT.of h, SqT.of h⟩, rfl, fun i hi => ?_⟩
  obtain ⟨v, ev⟩ : ∃ v, p.2.vs[i]? = some v := ⟨_, List.getElem?_eq_getElem hi⟩
  rw [List.getD_eq_getElem?_getD, ev]
  rcases row_flat p.2 v (List.mem_of_getElem? ev) with ⟨z, rfl⟩ | ⟨z, rfl⟩
  · exact ⟨rfl, rfl⟩
  · exact ⟨rfl, rfl⟩
/-! ### the book -/
def BookAt (C : Addr) (H : Hp) (x r : Addr) (xs : List V) : Prop := (∃ dx, H x = some (.ins C dx [("rows", .ref r)])) ∧ H r = some (.lst xs)
theorem BookAt.same {C : Addr} {H H' : Hp} {x r : Addr} {xs : List V} (B : BookAt C H x r xs) (k : Same H H') : BookAt C H' x r xs := let ⟨⟨dx, a⟩, b⟩ := B; ⟨⟨dx, k _ _ a⟩, k _ _ b⟩
theorem putF_add {f : Str} {v : V} : ∀ {fs : List (Str × V)}, ¬ f ∈ fs.map (·.1) → putF f v fs = fs ++ [(f, v)]
  | [], _ => rfl
  | (g, u) :: r, h => by
    have h1 : ¬ g = f := fun e => h (by rw [← e]; exact List.mem_cons_self)
    show (if g = f then _ else (g, u) :: putF f v r) = _
    rw [if_neg h1, putF_add fun m => h (List.mem_cons_of_mem _ m)]
    rfl
/-! ### the account of one printer -/
def acF (s t : Addr) (b c : Int) : List (Str × V) := [("stacks", .ref s), ("black", .int b), ("coloured", .int c), ("fed_tags", .ref t)]
theorem put_black {s t : Addr} {b c b' : Int} : putF "black" (.int b') (acF s t b c) = acF s t b' c := by
  unfold acF
  repeat (rw [show ∀ (g : Str) (u v : V) (r : List (Str × V)), putF "black" v ((g, u) :: r) = if g = "black" then (g, v) :: r else (g, u) :: putF "black" v r from fun _ _ _ _ => rfl]; first | rw [if_pos rfl] | rw [if_neg (by decide +kernel)])
theorem put_coloured {s t : Addr} {b c c' : Int} : putF "coloured" (.int c') (acF s t b c) = acF s t b c' := by
  unfold acF
  repeat (rw [show ∀ (g : Str) (u v : V) (r : List (Str × V)), putF "coloured" v ((g, u) :: r) = if g = "coloured" then (g, v) :: r else (g, u) :: putF "coloured" v r from fun _ _ _ _ => rfl]; first | rw [if_pos rfl] | rw [if_neg (by decide +kernel)])
def dI (l : List (Str × Int)) : List (Key × V) := l.map fun p => (Sum.inr p.1, V.int p.2)
structure AcAt (cA : Addr) (H : Hp) (x dx s t : Addr) (st : List (Str × Int)) (b c : Int) (tg : List (Addr × Str × Int)) : Prop where
  o : H x = some (.ins cA dx (acF s t b c))
  hs : H s = some (.dK (dI st))
  ht : H t = some (.lst (tg.map fun q => V.ref q.1))
  tt : ∀ q ∈ tg, H q.1 = some (.tup [.str q.2.1, .int q.2.2])
theorem AcAt.same {cA : Addr} {H H' : Hp} {x dx s t : Addr} {st : List (Str × Int)} {b c : Int} {tg : List (Addr × Str × Int)} (A : AcAt cA H x dx s t st b c tg) (k : Same H H') : AcAt cA H' x dx s t st b c tg := ⟨k _ _ A.o, k _ _ A.hs, k _ _ A.ht, fun q hq => k _ _ (A.tt q hq)⟩
def sp_Ac_init (cA : Addr) : Sp := fun vs H Q _ => ∃ x dx, vs = [.ref x] ∧ H x = some (.ins cA dx []) ∧ ∀ s t H', (∀ b o, b ≠ x → H b = some o → H' b = some o) → H s = none → H t = none → AcAt cA H' x dx s t [] 0 0 [] → Q .non H'
theorem sc_Account_init : FnScope ["self"] ["self"] (defScope s_Account_init) := ⟨rfl, rfl, rfl, by decide +kernel, rfl, by decide +kernel, by decide +kernel⟩
theorem ok_Account_init {fa cAccount : Addr} {fd : FuncData} (F : Fun K "__init__" "Account.__init__" s_Account_init fa fd) (T : Txt K mg cAccount)  :
    FnOk P w K mg base CX0 1 fa fd ["self"] (sp_Ac_init cAccount) := by
  refine F.ok sc_Account_init (fun vs H Q E h => ?_) (fun cdv A outer s H vs Q E hr h => ?_)
  · obtain ⟨x, dx, rfl, _⟩ := h
    rfl
  obtain ⟨x, dx, rfl, hx, q⟩ := h
  refine ⟨_, (pss_cons (ps_fld (pv 0) pe_dnewK rfl)
  (pss_cons (ps_fld (pv 0) pe_int rfl)
  (pss_cons (ps_fld (pv 0) pe_int rfl)
  (pss_one (ps_fld (pv 0) (pe_lst pa_nil) rfl))))), ?_⟩
  refine fun s ns => ?_
  have s1 := same_new ns (.dK [])
  have hs1 : upd H s (.dK []) s = some (.dK (dI [])) := upd_same
  generalize upd H s (.dK []) = H1 at s1 hs1 ⊢
  have nsx : s ≠ x := Ne.symm (ne_of_none hx ns)
  refine ⟨_, rfl, x, cAccount, dx, _, rfl, s1 _ _ hx, T.cl_Account, T.n_Account_stacks, (by show 0 < 1000; decide), ?_⟩
  rw [putF_add (by show ¬ ("stacks" : Str) ∈ ([] : List Str); decide +kernel), List.nil_append]
  refine ⟨_, rfl, x, cAccount, dx, _, rfl, upd_same, T.cl_Account, T.n_Account_black, (by show 1 < 1000; decide), ?_⟩
  rw [putF_add (by show ¬ ("black" : Str) ∈ (["stacks"] : List Str); decide +kernel), upd_upd]
  refine ⟨_, rfl, x, cAccount, dx, _, rfl, upd_same, T.cl_Account, T.n_Account_coloured, (by show 2 < 1000; decide), ?_⟩
  rw [putF_add (by show ¬ ("coloured" : Str) ∈ (["stacks", "black"] : List Str); decide +kernel), upd_upd]
  refine ⟨Nat.zero_le _, fun t nt => ?_⟩
  have k2 : ∀ b o, b ≠ x → H1 b = some o → upd H1 x (.ins cAccount dx (([("stacks", V.ref s)] : List (Str × V)) ++ ([("black", V.int 0)] : List (Str × V)) ++ ([("coloured", V.int 0)] : List (Str × V)))) b = some o := fun b o nb e => by rw [upd_ne nb]; exact e
  have hx2 : upd H1 x (.ins cAccount dx (([("stacks", V.ref s)] : List (Str × V)) ++ ([("black", V.int 0)] : List (Str × V)) ++ ([("coloured", V.int 0)] : List (Str × V)))) x = some (.ins cAccount dx (([("stacks", V.ref s)] : List (Str × V)) ++ ([("black", V.int 0)] : List (Str × V)) ++ ([("coloured", V.int 0)] : List (Str × V)))) := upd_same
  generalize upd H1 x (.ins cAccount dx (([("stacks", V.ref s)] : List (Str × V)) ++ ([("black", V.int 0)] : List (Str × V)) ++ ([("coloured", V.int 0)] : List (Str × V)))) = H2 at k2 hx2 nt ⊢
  have s3 := same_new nt (.lst [])
  have ht3 : upd H2 t (.lst []) t = some (.lst []) := upd_same
  have ntx : t ≠ x := Ne.symm (ne_of_none hx2 nt)
  have fnt : H t = none := by
    cases e : H t with
    | none => rfl
    | some o => rw [k2 _ _ ntx (s1 _ _ e)] at nt; cases nt
  generalize upd H2 t (.lst []) = H3 at s3 ht3 ⊢
  refine ⟨_, rfl, x, cAccount, dx, _, rfl, s3 _ _ hx2, T.cl_Account, T.n_Account_fed_tags, (by show 3 < 1000; decide), ?_⟩
  rw [putF_add (by show ¬ ("fed_tags" : Str) ∈ (["stacks", "black", "coloured"] : List Str); decide +kernel)]
  have k4 : ∀ b o, b ≠ x → H3 b = some o → upd H3 x (.ins cAccount dx (([("stacks", V.ref s)] : List (Str × V)) ++ ([("black", V.int 0)] : List (Str × V)) ++ ([("coloured", V.int 0)] : List (Str × V)) ++ ([("fed_tags", V.ref t)] : List (Str × V)))) b = some o := fun b o nb e => by rw [upd_ne nb]; exact e
  exact q s t _ (fun b o nb e => k4 b o nb (s3 _ _ (k2 b o nb (s1 _ _ e)))) ns fnt ⟨upd_same, k4 _ _ nsx (s3 _ _ (k2 _ _ nsx hs1)), k4 _ _ ntx ht3, fun q hq => (by cases hq)⟩
def sp_Ac_add (cA : Addr) : Sp := fun vs H Q _ => ∃ (x dx s t : Addr) (st : List (Str × Int)) (b c p r : Int) (tg : List (Addr × Str × Int)), vs = [.ref x, .int p, .int r] ∧ AcAt cA H x dx s t st b c tg ∧ ∀ H', (∀ b o, b ≠ x → H b = some o → H' b = some o) → AcAt cA H' x dx s t st (b + p) (c + r) tg → Q .non H'
theorem sc_Account_add_ink : FnScope ["self", "black", "coloured"] ["self", "black", "coloured"] (defScope s_Account_add_ink) := ⟨rfl, rfl, rfl, by decide +kernel, rfl, by decide +kernel, by decide +kernel⟩
theorem ok_Account_add_ink {fa cAccount : Addr} {fd : FuncData} (F : Fun K "add_ink" "Account.add_ink" s_Account_add_ink fa fd) (T : Txt K mg cAccount)  :
    FnOk P w K mg base CX0 1 fa fd ["self", "black", "coloured"] (sp_Ac_add cAccount) := by
  refine F.ok sc_Account_add_ink (fun vs H Q E h => ?_) (fun cdv A outer s H vs Q E hr h => ?_)
  · obtain ⟨x, dx, s, t, st, b, c, p, r, tg, rfl, _⟩ := h
    rfl
  obtain ⟨x, dx, s, t, st, b, c, p, r, tg, rfl, A, q⟩ := h
  refine ⟨_, (pss_cons (ps_fldaug (pv 0) (pv 1) ip_add)
  (pss_one (ps_fldaug (pv 0) (pv 2) ip_add))), ?_⟩
  refine ⟨_, rfl, x, cAccount, dx, _, _, rfl, A.o, T.cl_Account, T.n_Account_black, rfl, _, rfl, _, _, rfl, rfl, dx, _, A.o, (by show 4 < 1000; decide), ?_⟩
  rw [put_black]
  refine ⟨_, rfl, x, cAccount, dx, _, _, rfl, upd_same, T.cl_Account, T.n_Account_coloured, rfl, _, rfl, _, _, rfl, rfl, dx, _, upd_same, (by show 4 < 1000; decide), ?_⟩
  rw [put_coloured, upd_upd]
  have k : ∀ b' o, b' ≠ x → H b' = some o → upd H x (.ins cAccount dx (acF s t (b + p) (c + r))) b' = some o := fun b' o nb e => by rw [upd_ne nb]; exact e
  exact q _ k ⟨upd_same, k _ _ (ne_of A.hs A.o (by intro z; cases z)) A.hs, k _ _ (ne_of A.ht A.o (by intro z; cases z)) A.ht, fun q hq => k _ _ (ne_of (A.tt q hq) A.o (by intro z; cases z)) (A.tt q hq)⟩
theorem valV_dI69 : ∀ {st : List (Str × Int)} {k : Str}, valV (dI st) (Sum.inr k : Key) = (st.lookup k).map V.int
  | [], _ => rfl
  | (q, u) :: r, k => by
    rw [List.lookup_cons]
    by_cases c : q = k
    · subst c
      rw [beq_self_eq_true]
      exact valV_pos rfl
    · rw [beq_eq_false_iff_ne.mpr (Ne.symm c)]
      exact (valV_neg (fun z => c (by injection z))).trans valV_dI69
theorem look_no69 : ∀ {st : List (Str × Int)} {k : Str}, st.lookup k = none → ¬ k ∈ st.map (·.1)
  | [], _, _, h => by cases h
  | (q, u) :: r, k, e, h => by
    rw [List.lookup_cons] at e
    by_cases c : k = q
    · rw [beq_iff_eq.mpr c] at e
      cases e
    · rw [beq_eq_false_iff_ne.mpr c] at e
      rcases List.mem_cons.mp h with z | z
      · exact c z
      · exact look_no69 e z
def upS (st : List (Str × Int)) (k : Str) (v : Int) : List (Str × Int) := if st.any (fun p => decide (p.1 = k)) then st.map (fun p => if p.1 = k then (p.1, v) else p) else st ++ [(k, v)]
theorem dI_upS {st : List (Str × Int)} {k : Str} {v : Int} : dI (upS st k v) = putK (dI st) (Sum.inr k : Key) (.int v) := by
  unfold upS putK dI
  have e : (st.map fun p => ((Sum.inr p.1 : Key), V.int p.2)).any (fun p => decide (p.1 = (Sum.inr k : Key))) = st.any (fun p => decide (p.1 = k)) := by
    rw [List.any_map]
    congr 1
    funext p
    exact decide_eq_decide.mpr ⟨fun z => by injection z, fun z => congrArg Sum.inr z⟩
  rw [e]
  by_cases c : st.any (fun p => decide (p.1 = k)) = true
  · rw [if_pos c, if_pos c, List.map_map, List.map_map]
    refine List.map_congr_left fun p _ => ?_
    show ((Sum.inr (if p.1 = k then (p.1, v) else p).1 : Key), V.int (if p.1 = k then (p.1, v) else p).2) = if (Sum.inr p.1 : Key) = Sum.inr k then ((Sum.inr p.1 : Key), V.int v) else ((Sum.inr p.1 : Key), V.int p.2)
    by_cases c2 : p.1 = k
    · rw [if_pos c2, if_pos (congrArg Sum.inr c2)]
    · rw [if_neg c2, if_neg (fun z => c2 (by injection z))]
  · rw [if_neg c, if_neg c, List.map_append]
    rfl
def stS (st : List (Str × Int)) : Row67 → List (Str × Int)
  | .load _ k n => upS st k ((st.lookup k).getD 0 + n)
  | .feed _ k _ _ _ _ => upS st k ((st.lookup k).getD 0 - 1)
  | _ => st
def bS (b : Int) : Row67 → Int
  | .ink _ n _ => b + n
  | .feed _ _ _ _ n _ => b + -n
  | _ => b
def cS (c : Int) : Row67 → Int
  | .ink _ _ n => c + n
  | .feed _ _ _ _ _ n => c + -n
  | _ => c
def tgS (tg : List (Str × Int)) : Row67 → List (Str × Int)
  | .feed _ _ j m _ _ => tg ++ [(j, m)]
  | .out _ _ _ => tg.drop 1
  | .lost _ _ _ => tg.drop 1
  | _ => tg
def okS (st : List (Str × Int)) (n : Nat) : Row67 → Prop
  | .feed _ k _ _ _ _ => k ∈ st.map (·.1)
  | .out _ _ _ => 0 < n
  | .lost _ _ _ => 0 < n
  | _ => True
def sp_Ac_enter (cA : Addr) : Sp := fun vs H Q _ => ∃ (x r dx s t : Addr) (st : List (Str × Int)) (b c : Int) (tg : List (Addr × Str × Int)) (row : Row67), vs = [.ref x, .ref r] ∧ AcAt cA H x dx s t st b c tg ∧ H r = some (.tup row.vs) ∧ okS st tg.length row ∧ st.length ≤ 900 ∧ tg.length ≤ 900 ∧
  ∀ tg' H', (∀ b o, b ≠ x → b ≠ s → b ≠ t → H b = some o → H' b = some o) → AcAt cA H' x dx s t (stS st row) (bS b row) (cS c row) tg' → tg'.map (·.2) = tgS (tg.map (·.2)) row → Q .non H'
theorem sc_Account_enter : FnScope ["self", "row"] ["self", "row"] (defScope s_Account_enter) := ⟨rfl, rfl, rfl, by decide +kernel, rfl, by decide +kernel, by decide +kernel⟩
theorem ok_Account_enter {fa cAccount : Addr} {fd : FuncData} (F : Fun K "enter" "Account.enter" s_Account_enter fa fd) (T : Txt K mg cAccount) (D_Account_add_ink : MtE P w K mg base 1 "add_ink" cAccount ["self", "black", "coloured"] (sp_Ac_add cAccount)) :
    FnOk P w K mg base CX0 2 fa fd ["self", "row"] (sp_Ac_enter cAccount) := by
  refine F.ok sc_Account_enter (fun vs H Q E h => ?_) (fun cdv A outer s H vs Q E hr h => ?_)
  · obtain ⟨x, r, dx, s, t, st, b, c, tg, row, rfl, _⟩ := h
    rfl
  have hu := hu_n hr 0 (by decide)
  have z2 : 2 ≤ sizeLine := small (by decide)
  obtain ⟨x, r, dx, s, t, st, b, c, tg, row, rfl, AA, hrow, ok, ls, lt, q⟩ := h
  refine ⟨_, (pss_one (ps_if (pt_cmpR op_eq (pe_ix ix_tup (pv 1) pe_int (fun _ _ => rfl)) (pe_gs T.LOAD rfl) (nomark _)) (pss_one (ps_dput hu (pe_fld (pv 0) rfl) (pe_ix ix_tup (pv 1) pe_int (fun _ _ => rfl)) (pe_op op_add (pe_dget2 hu (pe_fld (pv 0) rfl) (pe_ix ix_tup (pv 1) pe_int (fun _ _ => rfl)) pe_int ⟨rfl, rfl, rfl, rfl⟩) (pe_ix ix_tup (pv 1) pe_int (fun _ _ => rfl))) rfl)) (pss_one (ps_if (pt_cmpR op_eq (pe_ix ix_tup (pv 1) pe_int (fun _ _ => rfl)) (pe_gs T.INK rfl) (nomark _)) (pss_one (ps_expr (pe_methE 1 passE0 (hr.mono (by decide)) (pv 0) (pa_cons (pe_ix ix_tup (pv 1) pe_int (fun _ _ => rfl)) (pa_cons (pe_ix ix_tup (pv 1) pe_int (fun _ _ => rfl)) pa_nil))))) (pss_one (ps_if (pt_cmpR op_eq (pe_ix ix_tup (pv 1) pe_int (fun _ _ => rfl)) (pe_gs T.FEED rfl) (nomark _)) (pss_cons (ps_daug hu (pe_fld (pv 0) rfl) (pe_ix ix_tup (pv 1) pe_int (fun _ _ => rfl)) pe_int in_sub (fun _ _ _ => rfl))
  (pss_cons (ps_expr (pe_methE 1 passE0 (hr.mono (by decide)) (pv 0) (pa_cons (pe_un un_neg (pe_ix ix_tup (pv 1) pe_int (fun _ _ => rfl))) (pa_cons (pe_un un_neg (pe_ix ix_tup (pv 1) pe_int (fun _ _ => rfl))) pa_nil))))
  (pss_one (ps_expr (pe_bm PySem.F.plainAttrs_list PySem.F.slot_list_append PySem.F.type_list_append mt_append (pe_fld (pv 0) rfl) (pa_cons (pe_tup (pa_cons (pe_ix ix_tup (pv 1) pe_int (fun _ _ => rfl)) (pa_cons (pe_ix ix_tup (pv 1) pe_int (fun _ _ => rfl)) pa_nil))) pa_nil)))))) (pss_one (ps_expr (pe_bm PySem.F.plainAttrs_list PySem.F.slot_list_pop PySem.F.type_list_pop mt_popAt (pe_fld (pv 0) rfl) (pa_cons pe_int pa_nil)))))))))), ?_⟩
  have nxs : s ≠ x := ne_of AA.hs AA.o (by intro z; cases z)
  have nxt : t ≠ x := ne_of AA.ht AA.o (by intro z; cases z)
  have nst : s ≠ t := ne_of AA.hs AA.ht (by intro z; cases z)
  have ld : (dI st).length < sizeLine := small1000 (by unfold dI; rw [List.length_map]; omega)
  have T0 := SqT.of (K := K) hrow
  cases row with
  | load p k n =>
    refine ⟨_, rfl, r, _, 0, _, rfl, rfl, T0, rfl, rfl, _, rfl, iteYes rfl ?_⟩
    refine ⟨_, rfl, x, cAccount, dx, _, _, rfl, AA.o, T.cl_Account, T.n_Account_stacks, rfl, s, rfl, .inl ⟨_, .inl AA.hs⟩, _, rfl, r, _, 2, _, rfl, rfl, T0, rfl, _, DGet.k (k := Sum.inr k) AA.hs, ?_⟩
    rw [valV_dI69, show ((st.lookup k).map V.int).getD (V.int 0) = V.int ((st.lookup k).getD 0) by cases st.lookup k <;> rfl]
    refine ⟨_, rfl, r, _, 3, _, rfl, rfl, T0, rfl, _, _, rfl, rfl, _, rfl, x, cAccount, dx, _, _, rfl, AA.o, T.cl_Account, T.n_Account_stacks, rfl, _, rfl, r, _, 2, _, rfl, rfl, T0, rfl, s, _, rfl, DPut.k (k := Sum.inr k) AA.hs ld, ?_⟩
    rw [← dI_upS]
    have kk : ∀ b' o, b' ≠ s → H b' = some o → upd H s (.dK (dI (upS st k ((st.lookup k).getD 0 + n)))) b' = some o := fun b' o nb e => by rw [upd_ne nb]; exact e
    exact q tg _ (fun b' o _ n2 _ e => kk b' o n2 e) ⟨kk _ _ (Ne.symm nxs) AA.o, upd_same, kk _ _ (Ne.symm nst) AA.ht, fun q hq => kk _ _ (ne_of (AA.tt q hq) AA.hs (by intro z; cases z)) (AA.tt q hq)⟩ rfl
  | ink p n m =>
    refine ⟨_, rfl, r, _, 0, _, rfl, rfl, T0, rfl, rfl, _, rfl, iteNo (by intro z; injection z with z; exact absurd z (by decide +kernel)) ?_⟩
    refine ⟨_, rfl, r, _, 0, _, rfl, rfl, T0, rfl, rfl, _, rfl, iteYes rfl ?_⟩
    refine ⟨_, rfl, x, _, dx, _, _, _, rfl, AA.o, rfl, T.cl_Account, D_Account_add_ink, _, rfl, r, _, 2, _, rfl, rfl, T0, rfl, _, rfl, r, _, 3, _, rfl, rfl, T0, rfl, x, dx, s, t, st, b, c, n, m, tg, rfl, AA, fun H' k' A' => ?_⟩
    exact q tg H' (fun b o n1 _ _ e => k' b o n1 e) A' rfl
  | feed p k j m n n2 =>
    refine ⟨_, rfl, r, _, 0, _, rfl, rfl, T0, rfl, rfl, _, rfl, iteNo (by intro z; injection z with z; exact absurd z (by decide +kernel)) ?_⟩
    refine ⟨_, rfl, r, _, 0, _, rfl, rfl, T0, rfl, rfl, _, rfl, iteNo (by intro z; injection z with z; exact absurd z (by decide +kernel)) ?_⟩
    refine ⟨_, rfl, r, _, 0, _, rfl, rfl, T0, rfl, rfl, _, rfl, iteYes rfl ?_⟩
    obtain ⟨v, ev⟩ : ∃ v, st.lookup k = some v := by
      cases e : st.lookup k with
      | some v => exact ⟨v, rfl⟩
      | none => exact absurd ok (look_no69 e)
    refine ⟨_, rfl, x, cAccount, dx, _, _, rfl, AA.o, T.cl_Account, T.n_Account_stacks, rfl, _, rfl, r, _, 2, _, rfl, rfl, T0, rfl, s, .int v, rfl, ?_, ?_⟩
    · have g := DGet.k (k := Sum.inr k) AA.hs
      rw [valV_dI69, ev] at g
      exact g
    refine ⟨_, _, rfl, rfl, _, DPut.k (k := Sum.inr k) AA.hs ld, ?_⟩
    rw [← dI_upS]
    have kk : ∀ b' o, b' ≠ s → H b' = some o → upd H s (.dK (dI (upS st k (v - 1)))) b' = some o := fun b' o nb e => by rw [upd_ne nb]; exact e
    have A1 : AcAt cAccount (upd H s (.dK (dI (upS st k (v - 1))))) x dx s t (upS st k (v - 1)) b c tg := ⟨kk _ _ (Ne.symm nxs) AA.o, upd_same, kk _ _ (Ne.symm nst) AA.ht, fun q hq => kk _ _ (ne_of (AA.tt q hq) AA.hs (by intro z; cases z)) (AA.tt q hq)⟩
    have r1 := kk _ _ (ne_of hrow AA.hs (by intro z; cases z)) hrow
    generalize upd H s (.dK (dI (upS st k (v - 1)))) = H1 at kk A1 r1 ⊢
    have T1 := SqT.of (K := K) r1
    refine ⟨_, rfl, x, _, dx, _, _, _, rfl, A1.o, rfl, T.cl_Account, D_Account_add_ink, _, rfl, r, _, 5, _, rfl, rfl, T1, rfl, _, rfl, _, rfl, r, _, 6, _, rfl, rfl, T1, rfl, _, rfl, x, dx, s, t, _, b, c, -n, -n2, tg, rfl, A1, fun H2 k2 A2 => ?_⟩
    have r2 := k2 _ _ (ne_of r1 A1.o (by intro z; cases z)) r1
    have T2 := SqT.of (K := K) r2
    refine ⟨_, rfl, x, cAccount, dx, _, _, rfl, A2.o, T.cl_Account, T.n_Account_fed_tags, rfl, .inl ⟨rfl, _, SqL.of A2.ht⟩, _, rfl, r, _, 3, _, rfl, rfl, T2, rfl, _, rfl, r, _, 4, _, rfl, rfl, T2, rfl, z2, fun u nu => ?_⟩
    have s3 := same_new nu (.tup [V.str j, V.int m])
    have hu3 : upd H2 u (.tup [V.str j, V.int m]) u = some (.tup [V.str j, V.int m]) := upd_same
    generalize upd H2 u (.tup [V.str j, V.int m]) = H3 at s3 hu3 ⊢
    refine ⟨t, _, _, rfl, rfl, s3 _ _ A2.ht, small1000 (by rw [List.length_map]; omega), ?_⟩
    have k4 : ∀ b' o, b' ≠ t → H3 b' = some o → upd H3 t (.lst ((tg.map fun q => V.ref q.1) ++ [V.ref u])) b' = some o := fun b' o nb e => by rw [upd_ne nb]; exact e
    have ht3 := s3 _ _ A2.ht
    refine q (tg ++ [(u, j, m)]) _ (fun b' o n1 n2 n3 e => k4 b' o n3 (s3 _ _ (k2 b' o n1 (kk b' o n2 e)))) ⟨k4 _ _ (Ne.symm nxt) (s3 _ _ A2.o), ?_, by rw [upd_same, List.map_append]; rfl, fun q hq => ?_⟩ (by rw [List.map_append]; rfl)
    rotate_left
    · rcases List.mem_append.mp hq with hq | hq
      · have := s3 _ _ (A2.tt q hq)
        exact k4 _ _ (ne_of this ht3 (by intro z; cases z)) this
      · rw [List.mem_singleton.mp hq]
        exact k4 _ _ (ne_of hu3 ht3 (by intro z; cases z)) hu3
    rw [k4 _ _ nst (s3 _ _ A2.hs)]
    show some (HO.dK (dI (upS st k (v - 1)))) = some (HO.dK (dI (upS st k ((st.lookup k).getD 0 - 1))))
    rw [ev]
    rfl
  | out p j m =>
    refine ⟨_, rfl, r, _, 0, _, rfl, rfl, T0, rfl, rfl, _, rfl, iteNo (by intro z; injection z with z; exact absurd z (by decide +kernel)) ?_⟩
    refine ⟨_, rfl, r, _, 0, _, rfl, rfl, T0, rfl, rfl, _, rfl, iteNo (by intro z; injection z with z; exact absurd z (by decide +kernel)) ?_⟩
    refine ⟨_, rfl, r, _, 0, _, rfl, rfl, T0, rfl, rfl, _, rfl, iteNo (by intro z; injection z with z; exact absurd z (by decide +kernel)) ?_⟩
    obtain ⟨q0, tg1, rfl⟩ : ∃ q0 tg1, tg = q0 :: tg1 := by
      cases tg with
      | nil => exact absurd (show 0 < 0 from ok) (by decide)
      | cons q0 tg1 => exact ⟨q0, tg1, rfl⟩
    refine ⟨_, rfl, x, cAccount, dx, _, _, rfl, AA.o, T.cl_Account, T.n_Account_fed_tags, rfl, .inl ⟨rfl, _, SqL.of AA.ht⟩, t, _, 0, 0, .ref q0.1, rfl, rfl, AA.ht, by decide, by decide, by simp [seqIndex?], rfl, ?_⟩
    have k4 : ∀ b' o, b' ≠ t → H b' = some o → upd H t (.lst (((q0 :: tg1).map fun q => V.ref q.1).eraseIdx 0)) b' = some o := fun b' o nb e => by rw [upd_ne nb]; exact e
    exact q tg1 _ (fun b' o _ _ n3 e => k4 b' o n3 e) ⟨k4 _ _ (Ne.symm nxt) AA.o, k4 _ _ nst AA.hs, upd_same, fun q hq => k4 _ _ (ne_of (AA.tt q (List.mem_cons_of_mem _ hq)) AA.ht (by intro z; cases z)) (AA.tt q (List.mem_cons_of_mem _ hq))⟩ rfl
  | lost p j m =>
    refine ⟨_, rfl, r, _, 0, _, rfl, rfl, T0, rfl, rfl, _, rfl, iteNo (by intro z; injection z with z; exact absurd z (by decide +kernel)) ?_⟩
    refine ⟨_, rfl, r, _, 0, _, rfl, rfl, T0, rfl, rfl, _, rfl, iteNo (by intro z; injection z with z; exact absurd z (by decide +kernel)) ?_⟩
    refine ⟨_, rfl, r, _, 0, _, rfl, rfl, T0, rfl, rfl, _, rfl, iteNo (by intro z; injection z with z; exact absurd z (by decide +kernel)) ?_⟩
    obtain ⟨q0, tg1, rfl⟩ : ∃ q0 tg1, tg = q0 :: tg1 := by
      cases tg with
      | nil => exact absurd (show 0 < 0 from ok) (by decide)
      | cons q0 tg1 => exact ⟨q0, tg1, rfl⟩
    refine ⟨_, rfl, x, cAccount, dx, _, _, rfl, AA.o, T.cl_Account, T.n_Account_fed_tags, rfl, .inl ⟨rfl, _, SqL.of AA.ht⟩, t, _, 0, 0, .ref q0.1, rfl, rfl, AA.ht, by decide, by decide, by simp [seqIndex?], rfl, ?_⟩
    have k4 : ∀ b' o, b' ≠ t → H b' = some o → upd H t (.lst (((q0 :: tg1).map fun q => V.ref q.1).eraseIdx 0)) b' = some o := fun b' o nb e => by rw [upd_ne nb]; exact e
    exact q tg1 _ (fun b' o _ _ n3 e => k4 b' o n3 e) ⟨k4 _ _ (Ne.symm nxt) AA.o, k4 _ _ nst AA.hs, upd_same, fun q hq => k4 _ _ (ne_of (AA.tt q (List.mem_cons_of_mem _ hq)) AA.ht (by intro z; cases z)) (AA.tt q (List.mem_cons_of_mem _ hq))⟩ rfl

end
end My

namespace My
open PySem L2
open Blk (sg sg_inj sg_app)
section
variable {P : Program} {w : World} {K : PySem.W.Frag} {mg : Str → Option Value} {base : Heap}
theorem inj_nd {α β : Type} {f : α → β} : ∀ {l : List α} {a b : α}, (l.map f).Nodup → a ∈ l → b ∈ l → f a = f b → a = b
  | [], _, _, _, h, _, _ => by cases h
  | x :: r, a, b, nd, ha, hb, e => by
    rw [List.map_cons, List.nodup_cons] at nd
    rcases List.mem_cons.mp ha with ha1 | ha1
    · rcases List.mem_cons.mp hb with hb1 | hb1
      · rw [ha1, hb1]
      · subst ha1
        exact absurd (by rw [e]; exact List.mem_map_of_mem hb1) nd.1
    · rcases List.mem_cons.mp hb with hb1 | hb1
      · subst hb1
        exact absurd (by rw [← e]; exact List.mem_map_of_mem ha1) nd.1
      · exact inj_nd nd.2 ha1 hb1 e
theorem upS_len {st : List (Str × Int)} {k : Str} {v : Int} : (upS st k v).length ≤ st.length + 1 := by
  unfold upS
  split
  · rw [List.length_map]; omega
  · rw [List.length_append]; exact Nat.le_refl _
def goOk (p : Int) (st : List (Str × Int)) (b c : Int) (tg : List (Str × Int)) : Row67 → Prop
  | .feed _ k _ _ n m => (∃ v, st.lookup k = some v ∧ v ≠ 0) ∧ (tg.length : Int) ≤ p ∧ n ≤ b ∧ m ≤ c
  | .out _ j m => ∃ r, tg = (j, m) :: r
  | .lost _ j m => ∃ r, tg = (j, m) :: r
  | _ => True
structure G69 where
  st : List (Str × Int)
  b : Int
  c : Int
  tg : List (Str × Int)
def gS (g : G69) (r : Row67) : G69 := ⟨stS g.st r, bS g.b r, cS g.c r, tgS g.tg r⟩
def gStep (p : Str) (g : G69) (r : Row67) : G69 := if r.pr = p then gS g r else g
def gRun (p : Str) (rows : List Row67) : G69 := rows.foldl (gStep p) ⟨[], 0, 0, []⟩
theorem gRun_snoc {p : Str} {rows : List Row67} {r : Row67} : gRun p (rows ++ [r]) = gStep p (gRun p rows) r := by
  unfold gRun
  rw [List.foldl_append]
  rfl
theorem gRun_none {p : Str} : ∀ {rows : List Row67}, (∀ r ∈ rows, r.pr ≠ p) → gRun p rows = ⟨[], 0, 0, []⟩ := by
  intro rows h
  unfold gRun
  generalize (⟨[], 0, 0, []⟩ : G69) = g0
  induction rows with
  | nil => rfl
  | cons r t ih =>
    rw [List.foldl_cons]
    unfold gStep
    rw [if_neg (h r List.mem_cons_self)]
    exact ih fun r hr => h r (List.mem_cons_of_mem _ hr)
theorem lookup_mem69 : ∀ {st : List (Str × Int)} {k : Str} {v : Int}, st.lookup k = some v → k ∈ st.map (·.1)
  | [], _, _, h => by cases h
  | (q, u) :: r, k, v, h => by
    rw [List.lookup_cons] at h
    by_cases c : k = q
    · rw [c]; exact List.mem_cons_self
    · rw [beq_eq_false_iff_ne.mpr c] at h
      exact List.mem_cons_of_mem _ (lookup_mem69 h)
theorem upS_keys {st : List (Str × Int)} {k : Str} {v : Int} : (upS st k v).map (·.1) = if k ∈ st.map (·.1) then st.map (·.1) else st.map (·.1) ++ [k] := by
  unfold upS
  by_cases c : k ∈ st.map (·.1)
  · have ca : st.any (fun p => decide (p.1 = k)) = true := by
      obtain ⟨p, hp, e⟩ := List.mem_map.mp c
      exact List.any_eq_true.mpr ⟨p, hp, decide_eq_true e⟩
    rw [if_pos ca, if_pos c, List.map_map]
    refine List.map_congr_left fun p _ => ?_
    show (if p.1 = k then (p.1, v) else p).1 = p.1
    split <;> rfl
  · have ca : ¬ st.any (fun p => decide (p.1 = k)) = true := fun h => by
      obtain ⟨p, hp, e⟩ := List.any_eq_true.mp h
      exact c (by rw [← of_decide_eq_true e]; exact List.mem_map_of_mem hp)
    rw [if_neg ca, if_neg c, List.map_append]
    rfl
theorem upS_nodup {st : List (Str × Int)} {k : Str} {v : Int} (h : (st.map (·.1)).Nodup) : ((upS st k v).map (·.1)).Nodup := by
  rw [upS_keys]
  split
  · exact h
  · rename_i c
    refine List.nodup_append.mpr ⟨h, by simp, fun a ha b hb z => ?_⟩
    rw [List.mem_singleton.mp hb] at z
    exact c (by rw [z] at ha; exact ha)
theorem upS_all {P : Int → Prop} {st : List (Str × Int)} {k : Str} {v : Int} (h : ∀ p ∈ st, P p.2) (hv : P v) : ∀ p ∈ upS st k v, P p.2 := by
  intro p hp
  unfold upS at hp
  split at hp
  · obtain ⟨p0, h0, rfl⟩ := List.mem_map.mp hp
    split
    · exact hv
    · exact h p0 h0
  · rcases List.mem_append.mp hp with hp | hp
    · exact h p hp
    · rw [List.mem_singleton.mp hp]; exact hv
theorem upS_pos {st : List (Str × Int)} {k : Str} {v : Int} : 0 < (upS st k v).length := by
  have e := congrArg List.length (upS_keys (st := st) (k := k) (v := v))
  rw [List.length_map] at e
  rw [e]
  split
  · rename_i c; exact List.length_pos_of_mem c
  · rw [List.length_append]; exact Nat.succ_pos _
theorem stS_len {st : List (Str × Int)} {r : Row67} : (stS st r).length ≤ st.length + 1 := by
  cases r
  · exact upS_len
  · exact Nat.le_succ _
  · exact upS_len
  · exact Nat.le_succ _
  · exact Nat.le_succ _
theorem tgS_len {tg : List (Str × Int)} {r : Row67} : (tgS tg r).length ≤ tg.length + 1 := by
  cases r
  · exact Nat.le_succ _
  · exact Nat.le_succ _
  · show (tg ++ [_]).length ≤ _
    rw [List.length_append]
    exact Nat.le_refl _
  · show (tg.drop 1).length ≤ _
    rw [List.length_drop]
    omega
  · show (tg.drop 1).length ≤ _
    rw [List.length_drop]
    omega

def rightAt (ps : List (Str × Int)) (rows : List Row67) (j : Nat) : Prop := ∃ r pth, rows[j]? = some r ∧ ps.lookup r.pr = some pth ∧ goOk pth (gRun r.pr (rows.take j)).st (gRun r.pr (rows.take j)).b (gRun r.pr (rows.take j)).c (gRun r.pr (rows.take j)).tg r
def FwR (ps : List (Str × Int)) (rows : List Row67) (v : V) : Prop := (v = .non ∧ ∀ j, j < rows.length → rightAt ps rows j) ∨ ∃ i : Nat, v = .int i ∧ i < rows.length ∧ ¬ rightAt ps rows i ∧ ∀ j, j < i → rightAt ps rows j
theorem FwR.one {ps : List (Str × Int)} {rows : List Row67} {v v' : V} (h : FwR ps rows v) (h' : FwR ps rows v') : v = v' := by
  rcases h with ⟨e, a⟩ | ⟨i, e, li, n, a⟩
  · rcases h' with ⟨e', _⟩ | ⟨i', e', li', n', a'⟩
    · rw [e, e']
    · exact absurd (a i' li') n'
  · rcases h' with ⟨e', a'⟩ | ⟨i', e', li', n', a'⟩
    · exact absurd (a' i li) n
    · have : i = i' := by
        rcases Nat.lt_trichotomy i i' with z | z | z
        · exact absurd (a' i z) n
        · exact z
        · exact absurd (a i' z) n'
      rw [e, e', this]
def nnR : Row67 → Prop
  | .load _ _ n => 0 ≤ n
  | _ => True
theorem take_snoc {rows : List Row67} {i : Nat} {r : Row67} (h : rows[i]? = some r) : rows.take (i + 1) = rows.take i ++ [r] := by rw [List.take_add_one, h]; rfl
theorem lookup_pair : ∀ {st : List (Str × Int)} {k : Str} {v : Int}, st.lookup k = some v → (k, v) ∈ st
  | [], _, _, h => by cases h
  | (q, u) :: r, k, v, h => by
    rw [List.lookup_cons] at h
    by_cases c : k = q
    · rw [beq_iff_eq.mpr c] at h
      obtain rfl := Option.some.inj h
      rw [c]; exact List.mem_cons_self
    · rw [beq_eq_false_iff_ne.mpr c] at h
      exact List.mem_cons_of_mem _ (lookup_pair h)
theorem look_nn {st : List (Str × Int)} (h : ∀ q ∈ st, 0 ≤ q.2) (k : Str) : 0 ≤ (st.lookup k).getD 0 := by
  cases e : st.lookup k with
  | none => exact Int.le_refl _
  | some v => exact h _ (lookup_pair e)
theorem nn_run {ps : List (Str × Int)} {rows : List Row67} (nn : ∀ r ∈ rows, nnR r) : ∀ (i : Nat), (∀ j, j < i → rightAt ps rows j) → ∀ p, ∀ q ∈ (gRun p (rows.take i)).st, 0 ≤ q.2
  | 0, _, p, q, hq => by cases hq
  | i + 1, h, p, q, hq => by
    obtain ⟨r, pth, er, _, go⟩ := h i (Nat.lt_succ_self _)
    have ih := nn_run nn i (fun j hj => h j (Nat.lt_succ_of_lt hj))
    rw [take_snoc er, gRun_snoc] at hq
    unfold gStep at hq
    split at hq
    · rename_i c
      rw [c] at go
      cases r with
      | load p' k n =>
        have n0 : 0 ≤ n := nn _ (List.mem_of_getElem? er)
        exact upS_all (P := fun z => 0 ≤ z) (ih p) (by have := look_nn (ih p) k; omega) q hq
      | ink => exact ih p q hq
      | feed p' k j m n n2 =>
        obtain ⟨⟨v, ev, v0⟩, _⟩ := go
        have v1 : 0 ≤ v := ih p _ (lookup_pair ev)
        refine upS_all (P := fun z => 0 ≤ z) (ih p) ?_ q hq
        show 0 ≤ ((gRun p (rows.take i)).st.lookup k).getD 0 - 1
        rw [ev]
        show 0 ≤ v - 1
        omega
      | out => exact ih p q hq
      | lost => exact ih p q hq
    · exact ih p q hq
theorem run_len {p : Str} {rows : List Row67} : ∀ i, i ≤ rows.length → (gRun p (rows.take i)).st.length ≤ i ∧ (gRun p (rows.take i)).tg.length ≤ i
  | 0, _ => ⟨Nat.le_refl _, Nat.le_refl _⟩
  | i + 1, h => by
    obtain ⟨r, e⟩ : ∃ r, rows[i]? = some r := ⟨_, List.getElem?_eq_getElem (by omega)⟩
    have a := run_len (p := p) (rows := rows) i (by omega)
    rw [take_snoc e, gRun_snoc]
    unfold gStep
    split
    · have b := stS_len (st := (gRun p (rows.take i)).st) (r := r)
      have c := tgS_len (tg := (gRun p (rows.take i)).tg) (r := r)
      show (stS _ r).length ≤ _ ∧ (tgS _ r).length ≤ _
      omega
    · omega

end
end My

namespace My
open PySem L2
open Blk (sg sg_inj sg_app)
section
variable {P : Program} {w : World} {K : PySem.W.Frag} {mg : Str → Option Value} {base : Heap}
def alH (st : List (Str × Int)) (b c : Int) (k : Str) (n n2 : Int) : Bool := decide (0 < (st.lookup k).getD 0) && (decide (n ≤ b) && decide (n2 ≤ c))
def sp_Ac_has (cA : Addr) : Sp := fun vs H Q _ => ∃ (x r dx s t : Addr) (st : List (Str × Int)) (b c : Int) (tg : List (Addr × Str × Int)) (p k j : Str) (m n n2 : Int), vs = [.ref x, .ref r] ∧ AcAt cA H x dx s t st b c tg ∧ H r = some (.tup (Row67.feed p k j m n n2).vs) ∧ Q (.bl (alH st b c k n n2)) H
theorem sc_Account_has_for : FnScope ["self", "row"] ["self", "row"] (defScope s_Account_has_for) := ⟨rfl, rfl, rfl, by decide +kernel, rfl, by decide +kernel, by decide +kernel⟩
theorem ok_Account_has_for {fa cAccount : Addr} {fd : FuncData} (F : Fun K "has_for" "Account.has_for" s_Account_has_for fa fd) (T : Txt K mg cAccount)  :
    FnOk P w K mg base CX0 1 fa fd ["self", "row"] (sp_Ac_has cAccount) := by
  refine F.ok sc_Account_has_for (fun vs H Q E h => ?_) (fun cdv A outer s H vs Q E hr h => ?_)
  · obtain ⟨x, r, dx, s, t, st, b, c, tg, p, k, j, m, n, n2, rfl, _⟩ := h
    rfl
  have hu := hu_n hr 0 (by decide)
  obtain ⟨x, r, dx, s, t, st, b, c, tg, p, k, j, m, n, n2, rfl, A, hr0, q⟩ := h
  refine ⟨_, (pss_one (ps_ret (pe_and (pe_cmpR op_gt (pe_dget2 hu (pe_fld (pv 0) rfl) (pe_ix ix_tup (pv 1) pe_int (fun _ _ => rfl)) pe_int ⟨rfl, rfl, rfl, rfl⟩) pe_int (nomark _)) (pe_and (pe_cmpR op_ge (pe_fld (pv 0) rfl) (pe_ix ix_tup (pv 1) pe_int (fun _ _ => rfl)) (nomark _)) (pe_one (pe_cmpR op_ge (pe_fld (pv 0) rfl) (pe_ix ix_tup (pv 1) pe_int (fun _ _ => rfl)) (nomark _))))))), ?_⟩
  have T0 := SqT.of (K := K) hr0
  have g0 := DGet.k (k := Sum.inr k) A.hs
  rw [valV_dI69] at g0
  refine ⟨_, rfl, x, cAccount, dx, _, _, rfl, A.o, T.cl_Account, T.n_Account_stacks, rfl, s, rfl, .inl ⟨_, .inl A.hs⟩, _, rfl, r, _, 2, _, rfl, rfl, T0, rfl, _, g0, ?_⟩
  rw [show ((st.lookup k).map V.int).getD (V.int 0) = V.int ((st.lookup k).getD 0) by cases st.lookup k <;> rfl]
  unfold alH at q
  refine ⟨_, _, rfl, rfl, _, rfl, ite2 (fun c1 => ?_) (fun c1 => ?_)⟩
  · rw [show decide (0 < (st.lookup k).getD 0) = true from c1, Bool.true_and] at q
    refine ⟨_, rfl, x, cAccount, dx, _, _, rfl, A.o, T.cl_Account, T.n_Account_black, rfl, _, rfl, r, _, 5, _, rfl, rfl, T0, rfl, _, _, rfl, rfl, _, rfl, ite2 (fun c2 => ?_) (fun c2 => ?_)⟩
    · rw [show decide (n ≤ b) = true from c2, Bool.true_and] at q
      exact ⟨_, rfl, x, cAccount, dx, _, _, rfl, A.o, T.cl_Account, T.n_Account_coloured, rfl, _, rfl, r, _, 6, _, rfl, rfl, T0, rfl, _, _, rfl, rfl, q⟩
    · rw [show decide (n ≤ b) = false from eq_false_of_ne_true c2] at q
      exact q
  · rw [show decide (0 < (st.lookup k).getD 0) = false from eq_false_of_ne_true c1] at q
    exact q
def alB (pth : Int) (st : List (Str × Int)) (b c : Int) (tg : List (Str × Int)) : Row67 → Bool
  | .feed _ k _ _ n n2 => decide ((tg.length : Int) ≤ pth) && alH st b c k n n2
  | .out _ j m => decide (tg.take 1 = [(j, m)])
  | .lost _ j m => decide (tg.take 1 = [(j, m)])
  | _ => true
theorem cut_to68 (xs : List V) (k : Nat) : cutV xs none (some (k : Int)) = xs.take k := by
  unfold cutV
  rw [HT.sIx_nat, HT.sIx_none]
  by_cases h : k ≤ xs.length
  · rw [Nat.min_eq_left h]
    rfl
  · rw [Nat.min_eq_right (by omega), List.drop_zero, Nat.sub_zero, List.take_of_length_le (Nat.le_refl _), List.take_of_length_le (by omega)]
/-- two tags, at two places, alike or not -/
theorem deqB_tag {K : PySem.W.Frag} {H : Hp} {a c : Addr} {j j' : Str} {m m' : Int} (h1 : H a = some (.tup [.str j, .int m])) (h2 : H c = some (.tup [.str j', .int m'])) : DeqB K H 1 (.ref a) (.ref c) (decide ((j, m) = (j', m'))) := by
  refine .inr ⟨a, c, _, _, rfl, rfl, fun e => ?_, .inr ⟨SqT.of h1, SqT.of h2⟩, rfl, fun i => if i = 0 then decide (j = j') else decide (m = m'), fun i hi => ?_, ?_⟩
  · subst e
    rw [h1] at h2
    injection h2 with z
    injection z with z
    injection z with z1 z2
    injection z2 with z2 _
    injection z1 with z1
    injection z2 with z2
    exact decide_eq_true (by rw [z1, z2])
  · match i, hi with
    | 0, _ =>
      refine ⟨rfl, rfl, ?_⟩
      show decide (j = j') = (j == j')
      by_cases e : j = j'
      · rw [decide_eq_true e, e]; exact (beq_self_eq_true _).symm
      · rw [decide_eq_false e]; exact (beq_eq_false_iff_ne.mpr e).symm
    | 1, _ =>
      refine ⟨rfl, rfl, ?_⟩
      show decide (m = m') = (m == m')
      by_cases e : m = m'
      · rw [decide_eq_true e, e]; exact (beq_self_eq_true _).symm
      · rw [decide_eq_false e]; exact (beq_eq_false_iff_ne.mpr e).symm
  · show decide ((j, m) = (j', m')) = (List.range 2).all (fun i => if i = 0 then decide (j = j') else decide (m = m'))
    show decide ((j, m) = (j', m')) = (decide (j = j') && (decide (m = m') && true))
    by_cases e : j = j'
    · by_cases e2 : m = m'
      · rw [decide_eq_true e, decide_eq_true e2]; exact decide_eq_true (by rw [e, e2])
      · rw [decide_eq_true e, decide_eq_false e2]; exact decide_eq_false (fun z => e2 (by injection z))
    · rw [decide_eq_false e]; exact decide_eq_false (fun z => e (by injection z))
/-- the first of the tags against one -/
theorem first_tag {K : PySem.W.Frag} {H : Hp} {l1 l2 u : Addr} {tg : List (Addr × Str × Int)} {j : Str} {m : Int} {neg : Bool} {Q : VK} (h1 : H l1 = some (.lst ((tg.map fun q => V.ref q.1).take 1))) (tt : ∀ q ∈ tg, H q.1 = some (.tup [.str q.2.1, .int q.2.2])) (h2 : H l2 = some (.lst [.ref u])) (hu : H u = some (.tup [.str j, .int m]))
    (q : Q (.bl (if neg then !decide ((tg.map (·.2)).take 1 = [(j, m)]) else decide ((tg.map (·.2)).take 1 = [(j, m)]))) H) : rDb K 1 neg (.ref l1) (.ref l2) H Q := by
  cases tg with
  | nil =>
    refine ⟨l1, l2, _, _, rfl, rfl, .inl ⟨SqL.of h1, SqL.of h2, (by show (0 : Nat) ≠ 1; decide), ?_⟩⟩
    rw [show decide ((([] : List (Addr × Str × Int)).map (·.2)).take 1 = [(j, m)]) = false from decide_eq_false (by intro z; cases z)] at q
    cases neg
    · exact q
    · exact q
  | cons q0 r =>
    have e1 : ((q0 :: r).map fun q => V.ref q.1).take 1 = [V.ref q0.1] := rfl
    have e2 : ((q0 :: r).map (·.2)).take 1 = [q0.2] := rfl
    rw [e1] at h1
    rw [e2] at q
    refine ⟨l1, l2, _, _, rfl, rfl, .inr ⟨.inl ⟨SqL.of h1, SqL.of h2⟩, rfl, fun _ => decide (q0.2 = (j, m)), fun i hi => ?_, ?_⟩⟩
    · match i, hi with
      | 0, _ => exact deqB_tag (tt q0 List.mem_cons_self) hu
    · have e3 : decide ([q0.2] = [(j, m)]) = decide (q0.2 = (j, m)) := decide_eq_decide.mpr ⟨fun z => by injection z, fun z => by rw [z]⟩
      rw [e3] at q
      show Q (.bl (if neg then !(decide (q0.2 = (j, m)) && true) else (decide (q0.2 = (j, m)) && true))) H
      rw [Bool.and_true]
      exact q
def sp_Ac_allows (cA : Addr) : Sp := fun vs H Q _ => ∃ (x r dx s t : Addr) (pth : Int) (st : List (Str × Int)) (b c : Int) (tg : List (Addr × Str × Int)) (row : Row67), vs = [.ref x, .ref r, .int pth] ∧ AcAt cA H x dx s t st b c tg ∧ H r = some (.tup row.vs) ∧ ∀ H', Same H H' → Q (.bl (alB pth st b c (tg.map (·.2)) row)) H'
theorem sc_Account_allows : FnScope ["self", "row", "path"] ["self", "row", "path"] (defScope s_Account_allows) := ⟨rfl, rfl, rfl, by decide +kernel, rfl, by decide +kernel, by decide +kernel⟩
theorem ok_Account_allows {fa cAccount : Addr} {fd : FuncData} (F : Fun K "allows" "Account.allows" s_Account_allows fa fd) (T : Txt K mg cAccount) (D_Account_has_for : MtE P w K mg base 1 "has_for" cAccount ["self", "row"] (sp_Ac_has cAccount)) :
    FnOk P w K mg base CX0 2 fa fd ["self", "row", "path"] (sp_Ac_allows cAccount) := by
  refine F.ok sc_Account_allows (fun vs H Q E h => ?_) (fun cdv A outer s H vs Q E hr h => ?_)
  · obtain ⟨x, r, dx, s, t, pth, st, b, c, tg, row, rfl, _⟩ := h
    rfl
  have hu := hu_n hr 0 (by decide)
  have hu1 := hu_n hr 1 (by decide)
  have z2 : 2 ≤ sizeLine := small (by decide)
  obtain ⟨x, r, dx, s, t, pth, st, b, c, tg, row, rfl, A, hr0, q⟩ := h
  refine ⟨_, (pss_cons (ps_if (pt_cmpR op_eq (pe_ix ix_tup (pv 1) pe_int (fun _ _ => rfl)) (pe_gs T.FEED rfl) (nomark _)) (pss_one (ps_ret (pe_and (pe_cmpR op_le (pe_callB call_len_seq rfl T.len PySem.boot_len (pa_cons (pe_fld (pv 0) rfl) pa_nil)) (pv 2) (nomark _)) (pe_one (pe_methE 1 passE0 (hr.mono (by decide)) (pv 0) (pa_cons (pv 1) pa_nil)))))) pss_nil)
  (pss_cons (ps_if (pt_cmpR op_in_seq (pe_ix ix_tup (pv 1) pe_int (fun _ _ => rfl)) (pe_tup (pa_cons (pe_gs T.OUT rfl) (pa_cons (pe_gs T.LOST rfl) pa_nil))) rfl) (pss_one (ps_ret (pe_cmpR (op_eq_db (n := 1) hu1) (pe_slice sl_list (pe_fld (pv 0) rfl) po_none (po_some pe_int)) (pe_lst (pa_cons (pe_tup (pa_cons (pe_ix ix_tup (pv 1) pe_int (fun _ _ => rfl)) (pa_cons (pe_ix ix_tup (pv 1) pe_int (fun _ _ => rfl)) pa_nil))) pa_nil)) (nomark _)))) pss_nil)
  (pss_one (ps_ret pe_bl)))), ?_⟩
  have T0 := SqT.of (K := K) hr0
  have s0 : Same H H := Same.refl H
  cases row with
  | feed p k j m n n2 =>
    refine ⟨_, rfl, r, _, 0, _, rfl, rfl, T0, rfl, rfl, _, rfl, iteYes rfl ?_⟩
    have q0 : Q (.bl (decide (((tg.map (·.2)).length : Int) ≤ pth) && alH st b c k n n2)) H := q H s0
    refine ⟨_, rfl, x, cAccount, dx, _, _, rfl, A.o, T.cl_Account, T.n_Account_fed_tags, rfl, t, _, rfl, .inl (SqL.of A.ht), _, rfl, _, _, rfl, rfl, _, rfl, ite2 (fun c1 => ?_) (fun c1 => ?_)⟩
    · rw [List.length_map] at c1 q0
      rw [show decide ((tg.length : Int) ≤ pth) = true from c1, Bool.true_and] at q0
      exact ⟨_, rfl, x, _, dx, _, _, _, rfl, A.o, rfl, T.cl_Account, D_Account_has_for, _, rfl, x, r, dx, s, t, st, b, c, tg, p, k, j, m, n, n2, rfl, A, hr0, q0⟩
    · rw [List.length_map] at c1 q0
      rw [show decide ((tg.length : Int) ≤ pth) = false from eq_false_of_ne_true c1] at q0
      exact q0
  | load p k n =>
    refine ⟨_, rfl, r, _, 0, _, rfl, rfl, T0, rfl, rfl, _, rfl, iteNo (by intro z; injection z with z; exact absurd z (by decide +kernel)) ?_⟩
    refine ⟨_, rfl, r, _, 0, _, rfl, rfl, T0, rfl, z2, fun u nu => ?_⟩
    have s1 := same_new nu (.tup [V.str otW, V.str lsW])
    refine ⟨u, _, rfl, .inr (SqT.of upd_same), rfl, rfl, _, rfl, ?_⟩
    rw [if_neg (by decide), show inV (V.str ldW) [V.str otW, V.str lsW] = false by decide +kernel]
    exact iteF (q _ s1)
  | ink p n m =>
    refine ⟨_, rfl, r, _, 0, _, rfl, rfl, T0, rfl, rfl, _, rfl, iteNo (by intro z; injection z with z; exact absurd z (by decide +kernel)) ?_⟩
    refine ⟨_, rfl, r, _, 0, _, rfl, rfl, T0, rfl, z2, fun u nu => ?_⟩
    have s1 := same_new nu (.tup [V.str otW, V.str lsW])
    refine ⟨u, _, rfl, .inr (SqT.of upd_same), rfl, rfl, _, rfl, ?_⟩
    rw [if_neg (by decide), show inV (V.str ikW) [V.str otW, V.str lsW] = false by decide +kernel]
    exact iteF (q _ s1)
  | out p j m =>
    refine ⟨_, rfl, r, _, 0, _, rfl, rfl, T0, rfl, rfl, _, rfl, iteNo (by intro z; injection z with z; exact absurd z (by decide +kernel)) ?_⟩
    refine ⟨_, rfl, r, _, 0, _, rfl, rfl, T0, rfl, z2, fun u nu => ?_⟩
    have s1 := same_new nu (.tup [V.str otW, V.str lsW])
    have hu1' : upd H u (.tup [V.str otW, V.str lsW]) u = some (.tup [V.str otW, V.str lsW]) := upd_same
    generalize upd H u (.tup [V.str otW, V.str lsW]) = H1 at s1 hu1' ⊢
    refine ⟨u, _, rfl, .inr (SqT.of hu1'), rfl, rfl, _, rfl, ?_⟩
    rw [if_neg (by decide), show inV (V.str otW) [V.str otW, V.str lsW] = true by decide +kernel]
    have A1 := A.same s1
    refine iteT ⟨_, rfl, x, cAccount, dx, _, _, rfl, A1.o, T.cl_Account, T.n_Account_fed_tags, rfl, _, rfl, t, _, rfl, SqL.of A1.ht, fun l1 nl1 => ?_⟩
    rw [show cutV (tg.map fun q => V.ref q.1) none (some 1) = (tg.map fun q => V.ref q.1).take 1 from cut_to68 _ 1]
    have s2 := same_new nl1 (.lst ((tg.map fun q => V.ref q.1).take 1))
    have hl1 : upd H1 l1 (.lst ((tg.map fun q => V.ref q.1).take 1)) l1 = some (.lst ((tg.map fun q => V.ref q.1).take 1)) := upd_same
    generalize upd H1 l1 (.lst ((tg.map fun q => V.ref q.1).take 1)) = H2 at s2 hl1 ⊢
    have s02 := s1.trans s2
    have T2 := SqT.of (K := K) (s02 _ _ hr0)
    refine ⟨_, rfl, r, _, 2, _, rfl, rfl, T2, rfl, _, rfl, r, _, 3, _, rfl, rfl, T2, rfl, z2, fun v nv => ⟨small (by show 1 ≤ 1000; decide), fun l2 nl2 => ?_⟩⟩
    have s3 := same_new nv (.tup [V.str j, V.int m])
    have hv3 : upd H2 v (.tup [V.str j, V.int m]) v = some (.tup [V.str j, V.int m]) := upd_same
    generalize upd H2 v (.tup [V.str j, V.int m]) = H3 at s3 hv3 nl2 ⊢
    have s4 := same_new nl2 (.lst [V.ref v])
    have hl4 : upd H3 l2 (.lst [V.ref v]) l2 = some (.lst [V.ref v]) := upd_same
    generalize upd H3 l2 (.lst [V.ref v]) = H4 at s4 hl4 ⊢
    exact first_tag (neg := false) (s4 _ _ (s3 _ _ hl1)) (fun q hq => s4 _ _ (s3 _ _ (s02 _ _ (A.tt q hq)))) hl4 (s4 _ _ hv3) (q _ (s02.trans (s3.trans s4)))
  | lost p j m =>
    refine ⟨_, rfl, r, _, 0, _, rfl, rfl, T0, rfl, rfl, _, rfl, iteNo (by intro z; injection z with z; exact absurd z (by decide +kernel)) ?_⟩
    refine ⟨_, rfl, r, _, 0, _, rfl, rfl, T0, rfl, z2, fun u nu => ?_⟩
    have s1 := same_new nu (.tup [V.str otW, V.str lsW])
    have hu1' : upd H u (.tup [V.str otW, V.str lsW]) u = some (.tup [V.str otW, V.str lsW]) := upd_same
    generalize upd H u (.tup [V.str otW, V.str lsW]) = H1 at s1 hu1' ⊢
    refine ⟨u, _, rfl, .inr (SqT.of hu1'), rfl, rfl, _, rfl, ?_⟩
    rw [if_neg (by decide), show inV (V.str lsW) [V.str otW, V.str lsW] = true by decide +kernel]
    have A1 := A.same s1
    refine iteT ⟨_, rfl, x, cAccount, dx, _, _, rfl, A1.o, T.cl_Account, T.n_Account_fed_tags, rfl, _, rfl, t, _, rfl, SqL.of A1.ht, fun l1 nl1 => ?_⟩
    rw [show cutV (tg.map fun q => V.ref q.1) none (some 1) = (tg.map fun q => V.ref q.1).take 1 from cut_to68 _ 1]
    have s2 := same_new nl1 (.lst ((tg.map fun q => V.ref q.1).take 1))
    have hl1 : upd H1 l1 (.lst ((tg.map fun q => V.ref q.1).take 1)) l1 = some (.lst ((tg.map fun q => V.ref q.1).take 1)) := upd_same
    generalize upd H1 l1 (.lst ((tg.map fun q => V.ref q.1).take 1)) = H2 at s2 hl1 ⊢
    have s02 := s1.trans s2
    have T2 := SqT.of (K := K) (s02 _ _ hr0)
    refine ⟨_, rfl, r, _, 2, _, rfl, rfl, T2, rfl, _, rfl, r, _, 3, _, rfl, rfl, T2, rfl, z2, fun v nv => ⟨small (by show 1 ≤ 1000; decide), fun l2 nl2 => ?_⟩⟩
    have s3 := same_new nv (.tup [V.str j, V.int m])
    have hv3 : upd H2 v (.tup [V.str j, V.int m]) v = some (.tup [V.str j, V.int m]) := upd_same
    generalize upd H2 v (.tup [V.str j, V.int m]) = H3 at s3 hv3 nl2 ⊢
    have s4 := same_new nl2 (.lst [V.ref v])
    have hl4 : upd H3 l2 (.lst [V.ref v]) l2 = some (.lst [V.ref v]) := upd_same
    generalize upd H3 l2 (.lst [V.ref v]) = H4 at s4 hl4 ⊢
    exact first_tag (neg := false) (s4 _ _ (s3 _ _ hl1)) (fun q hq => s4 _ _ (s3 _ _ (s02 _ _ (A.tt q hq)))) hl4 (s4 _ _ hv3) (q _ (s02.trans (s3.trans s4)))

end
end My

namespace My
open PySem L2
open Blk (sg sg_inj sg_app)
section
variable {P : Program} {w : World} {K : PySem.W.Frag} {mg : Str → Option Value} {base : Heap}
theorem alB_iff {pth : Int} {st : List (Str × Int)} {b c : Int} {tg : List (Str × Int)} {r : Row67} (nn : ∀ q ∈ st, 0 ≤ q.2) : alB pth st b c tg r = true ↔ goOk pth st b c tg r := by
  have h1 : ∀ (j : Str) (m : Int), decide (tg.take 1 = [(j, m)]) = true ↔ ∃ r, tg = (j, m) :: r := fun j m => by
    constructor
    · intro h
      have h := of_decide_eq_true h
      cases tg with
      | nil => cases h
      | cons x r => injection h with h _; exact ⟨r, by rw [h]⟩
    · rintro ⟨r, rfl⟩
      exact decide_eq_true rfl
  cases r with
  | load => exact ⟨fun _ => trivial, fun _ => rfl⟩
  | ink => exact ⟨fun _ => trivial, fun _ => rfl⟩
  | out p j m => exact h1 j m
  | lost p j m => exact h1 j m
  | feed p k j m n n2 =>
    show (decide ((tg.length : Int) ≤ pth) && (decide (0 < (st.lookup k).getD 0) && (decide (n ≤ b) && decide (n2 ≤ c)))) = true ↔ (∃ v, st.lookup k = some v ∧ v ≠ 0) ∧ (tg.length : Int) ≤ pth ∧ n ≤ b ∧ n2 ≤ c
    rw [Bool.and_eq_true, Bool.and_eq_true, Bool.and_eq_true, decide_eq_true_iff, decide_eq_true_iff, decide_eq_true_iff, decide_eq_true_iff]
    constructor
    · rintro ⟨a1, a2, a3, a4⟩
      refine ⟨?_, a1, a3, a4⟩
      cases e : st.lookup k with
      | none => rw [e] at a2; exact absurd a2 (by decide)
      | some v => rw [e] at a2; exact ⟨v, rfl, by have : 0 < v := a2; omega⟩
    · rintro ⟨⟨v, ev, v0⟩, a1, a3, a4⟩
      refine ⟨a1, ?_, a3, a4⟩
      have := nn _ (lookup_pair ev)
      rw [ev]
      show 0 < v
      have : 0 ≤ v := this
      omega
theorem okS_of {pth : Int} {st : List (Str × Int)} {b c : Int} {tg : List (Str × Int)} {r : Row67} (h : goOk pth st b c tg r) : okS st tg.length r := by
  cases r with
  | load => trivial
  | ink => trivial
  | out p j m => obtain ⟨r, rfl⟩ := h; exact Nat.zero_lt_succ _
  | lost p j m => obtain ⟨r, rfl⟩ := h; exact Nat.zero_lt_succ _
  | feed p k j m n n2 => obtain ⟨⟨v, ev, _⟩, _⟩ := h; exact lookup_mem69 ev
/-! ### the accounts -/
structure AE where
  p : Str
  x : Addr
  dx : Addr
  s : Addr
  t : Addr
  st : List (Str × Int)
  b : Int
  c : Int
  tg : List (Addr × Str × Int)
def AE.g (e : AE) : G69 := ⟨e.st, e.b, e.c, e.tg.map (·.2)⟩
def aeD (es : List AE) : List (Key × V) := es.map fun e => ((Sum.inr e.p : Key), V.ref e.x)
theorem val_ae : ∀ {es : List AE} {p : Str} {u : V}, valV (aeD es) (Sum.inr p : Key) = some u → ∃ e ∈ es, e.p = p ∧ u = .ref e.x
  | [], _, _, h => by cases h
  | w :: r, p, u, h => by
    by_cases c : w.p = p
    · have e : valV (aeD (w :: r)) (Sum.inr p : Key) = some (.ref w.x) := valV_pos (congrArg Sum.inr c)
      rw [e] at h
      exact ⟨w, List.mem_cons_self, c, (Option.some.inj h).symm⟩
    · have e : valV (aeD (w :: r)) (Sum.inr p : Key) = valV (aeD r) (Sum.inr p : Key) := valV_neg (fun z => c (by injection z))
      rw [e] at h
      obtain ⟨w', m, a, b⟩ := val_ae h
      exact ⟨w', List.mem_cons_of_mem _ m, a, b⟩
theorem val_ae_in : ∀ {es : List AE} {e : AE}, (es.map (·.p)).Nodup → e ∈ es → valV (aeD es) (Sum.inr e.p : Key) = some (.ref e.x)
  | [], _, _, h => by cases h
  | x :: r, w, nd, h => by
    rw [List.map_cons, List.nodup_cons] at nd
    rcases List.mem_cons.mp h with rfl | h
    · exact valV_pos rfl
    · exact (valV_neg (fun z => nd.1 (by injection z with z; rw [z]; exact List.mem_map_of_mem h))).trans (val_ae_in nd.2 h)
/-- accounts apart, all new against H0 -/
structure AcsAt (cA : Addr) (H0 G : Hp) (es : List AE) : Prop where
  a : ∀ e ∈ es, AcAt cA G e.x e.dx e.s e.t e.st e.b e.c e.tg
  n : ∀ e ∈ es, H0 e.x = none ∧ H0 e.s = none ∧ H0 e.t = none
  nd : (es.map (·.p)).Nodup
  na : ∀ e ∈ es, ∀ f ∈ es, e.p ≠ f.p → e.x ≠ f.x ∧ e.s ≠ f.s ∧ e.t ≠ f.t
theorem AcsAt.same {cA : Addr} {H0 G G' : Hp} {es : List AE} (A : AcsAt cA H0 G es) (s : Same G G') : AcsAt cA H0 G' es := ⟨fun e h => (A.a e h).same s, A.n, A.nd, A.na⟩
theorem AcAt.off {cA : Addr} {H H' : Hp} {x dx s t : Addr} {st : List (Str × Int)} {b c : Int} {tg : List (Addr × Str × Int)} (A : AcAt cA H x dx s t st b c tg) {x' dx' s' t' : Addr} {st' : List (Str × Int)} {b' c' : Int} {tg' : List (Addr × Str × Int)} (B : AcAt cA H x' dx' s' t' st' b' c' tg') (k : ∀ b o, b ≠ x' → b ≠ s' → b ≠ t' → H b = some o → H' b = some o) (n1 : x ≠ x') (n2 : s ≠ s') (n3 : t ≠ t') : AcAt cA H' x dx s t st b c tg :=
  ⟨k _ _ n1 (ne_of A.o B.hs (by intro z; cases z)) (ne_of A.o B.ht (by intro z; cases z)) A.o, k _ _ (ne_of A.hs B.o (by intro z; cases z)) n2 (ne_of A.hs B.ht (by intro z; cases z)) A.hs, k _ _ (ne_of A.ht B.o (by intro z; cases z)) (ne_of A.ht B.hs (by intro z; cases z)) n3 A.ht, fun q hq => k _ _ (ne_of (A.tt q hq) B.o (by intro z; cases z)) (ne_of (A.tt q hq) B.hs (by intro z; cases z)) (ne_of (A.tt q hq) B.ht (by intro z; cases z)) (A.tt q hq)⟩
def aePut (e' : AE) (es : List AE) : List AE := es.map fun f => if f.p = e'.p then e' else f
theorem aePut_p {e' : AE} {es : List AE} : (aePut e' es).map (·.p) = es.map (·.p) := by
  unfold aePut
  rw [List.map_map]
  refine List.map_congr_left fun f _ => ?_
  show (if f.p = e'.p then e' else f).p = f.p
  split
  · rename_i c; exact c.symm
  · rfl
theorem aePut_mem {e' : AE} {es : List AE} {f : AE} (h : f ∈ aePut e' es) : f = e' ∨ (f ∈ es ∧ f.p ≠ e'.p) := by
  obtain ⟨f0, h0, rfl⟩ := List.mem_map.mp h
  by_cases c : f0.p = e'.p
  · rw [if_pos c]; exact .inl rfl
  · rw [if_neg c]; exact .inr ⟨h0, c⟩
theorem aePut_D {e e' : AE} {es : List AE} (nd : (es.map (·.p)).Nodup) (he : e ∈ es) (ep : e'.p = e.p) (ex : e'.x = e.x) : aeD (aePut e' es) = aeD es := by
  unfold aeD aePut
  rw [List.map_map]
  refine List.map_congr_left fun f hf => ?_
  show ((Sum.inr (if f.p = e'.p then e' else f).p : Key), V.ref (if f.p = e'.p then e' else f).x) = _
  by_cases c : f.p = e'.p
  · rw [if_pos c]
    obtain rfl := inj_nd nd hf he (c.trans ep)
    rw [ep, ex]
  · rw [if_neg c]
theorem AcsAt.go {cA : Addr} {H0 G G' : Hp} {es : List AE} {e e' : AE} (A : AcsAt cA H0 G es) (he : e ∈ es) (k : ∀ b o, b ≠ e.x → b ≠ e.s → b ≠ e.t → G b = some o → G' b = some o) (ep : e'.p = e.p) (ex : e'.x = e.x) (es' : e'.s = e.s) (et : e'.t = e.t) (A' : AcAt cA G' e'.x e'.dx e'.s e'.t e'.st e'.b e'.c e'.tg) : AcsAt cA H0 G' (aePut e' es) := by
  have cs : ∀ f ∈ aePut e' es, f = e' ∨ (f ∈ es ∧ f.p ≠ e.p) := fun f h => by
    rcases aePut_mem h with h | ⟨h, n⟩
    · exact .inl h
    · exact .inr ⟨h, by rw [← ep]; exact n⟩
  refine ⟨fun f h => ?_, fun f h => ?_, by rw [aePut_p]; exact A.nd, fun f h f2 h2 ne => ?_⟩
  · rcases cs f h with rfl | ⟨h', n'⟩
    · exact A'
    · obtain ⟨n1, n2, n3⟩ := A.na f h' e he n'
      exact (A.a f h').off (A.a e he) k n1 n2 n3
  · rcases cs f h with rfl | ⟨h', _⟩
    · rw [ex, es', et]; exact A.n e he
    · exact A.n f h'
  · rcases cs f h with rfl | ⟨h', n'⟩
    · rcases cs f2 h2 with rfl | ⟨h2', n2'⟩
      · exact absurd rfl ne
      · rw [ex, es', et]
        exact A.na e he f2 h2' (Ne.symm n2')
    · rcases cs f2 h2 with rfl | ⟨h2', n2'⟩
      · rw [ex, es', et]
        exact A.na f h' e he n'
      · exact A.na f h' f2 h2' ne
theorem AcAt.offL {cA : Addr} {H H' : Hp} {x dx s t L : Addr} {st : List (Str × Int)} {b c : Int} {tg : List (Addr × Str × Int)} {ys : List V} (A : AcAt cA H x dx s t st b c tg) (k : ∀ b o, b ≠ L → H b = some o → H' b = some o) (hL : H L = some (.lst ys)) (nt : t ≠ L) : AcAt cA H' x dx s t st b c tg :=
  ⟨k _ _ (ne_of A.o hL (by intro z; cases z)) A.o, k _ _ (ne_of A.hs hL (by intro z; cases z)) A.hs, k _ _ nt A.ht, fun q hq => k _ _ (ne_of (A.tt q hq) hL (by intro z; cases z)) (A.tt q hq)⟩
theorem nodup_at {ps : List (Str × Int)} {i : Nat} {pq : Str × Int} (pn : (ps.map (·.1)).Nodup) (epq : ps[i]? = some pq) : ¬ pq.1 ∈ (ps.take i).map (·.1) := by
  intro m
  obtain ⟨j, hj, ej⟩ := List.mem_iff_getElem.mp m
  have hj' : j < i ∧ j < ps.length := by
    rw [List.length_map, List.length_take] at hj
    omega
  have li := (List.getElem?_eq_some_iff.mp epq).1
  rw [List.getElem_map, List.getElem_take] at ej
  have inj := List.pairwise_iff_getElem.mp (List.nodup_iff_pairwise_ne.mp pn) j i (by rw [List.length_map]; omega) (by rw [List.length_map]; omega) hj'.1
  apply inj
  rw [List.getElem_map, List.getElem_map, ej]
  exact congrArg Prod.fst (List.getElem?_eq_some_iff.mp epq).2.symm
theorem lookup_some_of {ps : List (Str × Int)} {k : Str} : k ∈ ps.map (·.1) → ∃ v, ps.lookup k = some v := fun h => by
  cases e : ps.lookup k with
  | some v => exact ⟨v, rfl⟩
  | none => exact absurd h (look_no69 e)
def sp_first_wrong (_cA : Addr) : Sp := fun vs H Q _ => ∃ (ra pa : Addr) (prs : List (Addr × Row67)) (ps : List (Str × Int)), vs = [.ref ra, .ref pa] ∧ RowsAt H ra prs ∧ prs.length ≤ 100 ∧ H pa = some (.dK (dI ps)) ∧ (ps.map (·.1)).Nodup ∧ ps.length ≤ 10 ∧ (∀ r ∈ prs.map (·.2), nnR r) ∧ ∀ v H', Same H H' → FwR ps (prs.map (·.2)) v → Q v H'
theorem sc_first_wrong : FnScope ["rows", "paths", "accounts", "place", "row", "printer"] ["rows", "paths"] (defScope s_first_wrong) := ⟨rfl, rfl, rfl, by decide +kernel, rfl, by decide +kernel, by decide +kernel⟩
theorem ok_first_wrong {fa cAccount : Addr} {fd : FuncData} (F : Fun K "first_wrong" "first_wrong" s_first_wrong fa fd) (T : Txt K mg cAccount) (M_Account : MkD P w K mg base 1 "Account" cAccount ["self"] (sp_Ac_init cAccount)) (D_Account_allows : MtE P w K mg base 2 "allows" cAccount ["self", "row", "path"] (sp_Ac_allows cAccount)) (D_Account_enter : MtE P w K mg base 2 "enter" cAccount ["self", "row"] (sp_Ac_enter cAccount)) :
    FnOk P w K mg base CX0 3 fa fd ["rows", "paths"] (sp_first_wrong cAccount) := by
  refine F.ok sc_first_wrong (fun vs H Q E h => ?_) (fun cdv A outer s H vs Q E hr h => ?_)
  · obtain ⟨ra, pa, prs, ps, rfl, _⟩ := h
    rfl
  have hu := hu_n hr 0 (by decide)
  have z2 : 2 ≤ sizeLine := small (by decide)
  obtain ⟨ra, pa, prs, ps, rfl, R, lp, hp, pn, pl, nn, q⟩ := h
  refine ⟨_, (pss_cons (ps_set (i := 2) sc_first_wrong.nd rfl (by first | exact Or.inl rfl | exact Or.inr rfl) (pe_frz (pe_callTy (call_dict_pairs rfl) rfl T.dict bt_dict (pa_cons (pe_comp (frees := []) ⟨by decide +kernel, rfl, rfl, by decide +kernel, trivial, by decide +kernel, cellsFor_at rfl, rfl⟩ rfl (pi_dict (pv 1)) (fun _ _ _ _ => pifs_nil) (fun _ _ _ _ => by exact (pe_tup (pa_cons (pv 0) (pa_cons (pe_makeD0 M_Account (hr.mono (by decide)) rfl) pa_nil))))) pa_nil))))
  (pss_cons (ps_for PassesOwn.never rfl (pi_enum rfl T.enumerate (pa_cons (pv 0) pa_nil)) (pg_tup rfl (pgs_cons (pg_name (i := 3) sc_first_wrong.nd rfl (by first | exact Or.inl rfl | exact Or.inr rfl)) (pgs_cons (pg_name (i := 4) sc_first_wrong.nd rfl (by first | exact Or.inl rfl | exact Or.inr rfl)) pgs_nil)))
  (pss_cons (ps_set (i := 5) sc_first_wrong.nd rfl (by first | exact Or.inl rfl | exact Or.inr rfl) (pe_ix ix_tup (pv 4) pe_int (fun _ _ => rfl)))
  (pss_cons (ps_if (PW.pt (pw_or (pt_cmp (pc_dnotin hu (pv 5) (pv 2))) (pw_or1 (pt_not (pt_truth (pe_methE 2 passE0 (hr.mono (by decide)) (pe_dget hu (pv 2) (pv 5) (fun _ _ => rfl)) (pa_cons (pv 4) (pa_cons (pe_dget hu (pv 1) (pv 5) (fun _ _ => rfl)) pa_nil))) (fun _ => rfl)))))) (pss_one (ps_ret (pv 3))) pss_nil)
  (pss_one (ps_expr (pe_methE 2 passE0 (hr.mono (by decide)) (pe_dget hu (pv 2) (pv 5) (fun _ _ => rfl)) (pa_cons (pv 4) pa_nil)))))))
  (pss_one (ps_ret pe_non)))), ?_⟩
  refine ⟨pa, _, hp, fun o => ?_⟩
  have hf1 : upd H pa (.frz o (.dK (dI ps))) pa = some (.frz o (.dK (dI ps))) := upd_same
  have k1 : ∀ b u, b ≠ pa → H b = some u → upd H pa (.frz o (.dK (dI ps))) b = some u := fun b u nb e => by rw [upd_ne nb]; exact e
  have fr1 : ∀ b, upd H pa (.frz o (.dK (dI ps))) b = none → H b = none := fun b hb => by
    by_cases c : b = pa
    · rw [c, hf1] at hb; cases hb
    · rw [upd_ne c] at hb; exact hb
  generalize upd H pa (.frz o (.dK (dI ps))) = H1 at hf1 k1 fr1 ⊢
  refine ⟨_, rfl, pa, o, _, rfl, hf1, ?_⟩
  have lk : ((dI ps).map fun p => kV p.1).length = ps.length := by unfold dI; rw [List.length_map, List.length_map]
  refine compB_inv (seq_dict hf1) (fun L i ys G => ∃ (us : List Addr) (es : List AE), ys = us.map V.ref ∧ us.length = i ∧ es.map (·.p) = (ps.take i).map (·.1) ∧ Same H1 G ∧ H1 L = none ∧ G L = some (.lst ys) ∧ AcsAt cAccount H1 G es ∧ (∀ e ∈ es, e.t ≠ L ∧ e.g = ⟨[], 0, 0, []⟩) ∧ ∀ (j : Nat) u e, us[j]? = some u → es[j]? = some e → G u = some (.tup [.str e.p, .ref e.x])) (small1000 (by rw [lk]; omega)) (fun L nL => ?_) (fun L i ys G z => ?_) (fun L i x ys G N hx nL z nx => ?_) (fun L ys G nL z => ?_)
  · exact ⟨[], [], rfl, rfl, rfl, same_new nL _, nL, upd_same, ⟨fun e h => (by cases h), fun e h => (by cases h), List.nodup_nil, fun e h => (by cases h)⟩, fun e h => (by cases h), fun j u e h => (by cases h)⟩
  · obtain ⟨us, es, rfl, lu, _, sG, _, hL, _⟩ := z
    exact ⟨sG, hL, by rw [List.length_map]; omega⟩
  · obtain ⟨us, es, rfl, lu, ep, sG, nL0, hL, AG, et, hus⟩ := z
    obtain ⟨pq, epq, rfl⟩ : ∃ pq : Str × Int, ps[i]? = some pq ∧ x = .str pq.1 := by
      unfold dI at hx
      rw [List.map_map, List.getElem?_map] at hx
      obtain ⟨pq, e1, e2⟩ := Option.map_eq_some_iff.mp hx
      exact ⟨pq, e1, e2.symm⟩
    have nk := nodup_at pn epq
    rw [← ep] at nk
    refine iteT ⟨_, rfl, fun x dx nx1 ndx nde => ?_⟩
    have ki : ∀ b o, G b = some o → b ≠ x ∧ upd (upd G dx (.own x)) x (.ins cAccount dx []) b = some o := fun b o e => by
      have b1 : b ≠ x := ne_of_none e nx1
      exact ⟨b1, by rw [upd_ne b1, upd_ne (ne_of_none e ndx)]; exact e⟩
    refine ⟨x, dx, rfl, upd_same, fun s t G2 k2 ns nt A2 => ⟨rfl, z2, fun u nu => ?_⟩⟩
    have s2 : Same G G2 := fun b o e => k2 b o (ki b o e).1 (ki b o e).2
    have fr : ∀ b, upd (upd G dx (.own x)) x (.ins cAccount dx []) b = none → G b = none := fun b hb => by
      cases e : G b with
      | none => rfl
      | some o => rw [(ki _ _ e).2] at hb; cases hb
    have fs := fr _ ns
    have ft := fr _ nt
    have s3 := same_new nu (.tup [V.str pq.1, V.ref x])
    have hu3 : upd G2 u (.tup [V.str pq.1, V.ref x]) u = some (.tup [V.str pq.1, V.ref x]) := upd_same
    generalize upd G2 u (.tup [V.str pq.1, V.ref x]) = G3 at s3 hu3 ⊢
    have s23 := s2.trans s3
    have hL3 := s23 _ _ hL
    refine ⟨hL3, nx _ _ ?_⟩
    have k4 : ∀ b o, b ≠ L → G3 b = some o → upd G3 L (.lst (us.map V.ref ++ [V.ref u])) b = some o := fun b o nb e => by rw [upd_ne nb]; exact e
    refine ⟨us ++ [u], es ++ [⟨pq.1, x, dx, s, t, [], 0, 0, []⟩], by rw [List.map_append]; rfl, by rw [List.length_append, lu]; rfl, ?_, same_on nL0 (sG.trans s23) _, nL0, upd_same, ⟨fun e he => ?_, fun e he => ?_, ?_, fun e he f hf ne => ?_⟩, fun e he => ?_, fun j u' e hu' he' => ?_⟩
    · rw [List.map_append, ep, List.take_add_one, epq, List.map_append]
      rfl
    · rcases List.mem_append.mp he with he | he
      · exact ((AG.a e he).same s23).offL k4 hL3 (et e he).1
      · rw [List.mem_singleton.mp he]
        exact (A2.same s3).offL k4 hL3 (Ne.symm (ne_of_none hL ft))
    · rcases List.mem_append.mp he with he | he
      · exact AG.n e he
      · rw [List.mem_singleton.mp he]
        exact ⟨sG.free nx1, sG.free fs, sG.free ft⟩
    · rw [List.map_append]
      refine List.nodup_append.mpr ⟨AG.nd, by simp, fun a ha b hb z => ?_⟩
      rw [List.mem_singleton.mp hb] at z
      exact nk (by rw [z] at ha; exact ha)
    · rcases List.mem_append.mp he with he | he
      · rcases List.mem_append.mp hf with hf | hf
        · exact AG.na e he f hf ne
        · rw [List.mem_singleton.mp hf]
          exact ⟨ne_of_none (AG.a e he).o nx1, ne_of_none (AG.a e he).hs fs, ne_of_none (AG.a e he).ht ft⟩
      · rcases List.mem_append.mp hf with hf | hf
        · rw [List.mem_singleton.mp he]
          exact ⟨Ne.symm (ne_of_none (AG.a f hf).o nx1), Ne.symm (ne_of_none (AG.a f hf).hs fs), Ne.symm (ne_of_none (AG.a f hf).ht ft)⟩
        · rw [List.mem_singleton.mp he, List.mem_singleton.mp hf] at ne
          exact absurd rfl ne
    · rcases List.mem_append.mp he with he | he
      · exact et e he
      · rw [List.mem_singleton.mp he]
        exact ⟨Ne.symm (ne_of_none hL ft), rfl⟩
    · have le : es.length = us.length := by
        have := congrArg List.length ep
        rw [List.length_map, List.length_map, List.length_take] at this
        have := (List.getElem?_eq_some_iff.mp epq).1
        omega
      by_cases c : j < us.length
      · rw [List.getElem?_append_left c] at hu'
        rw [List.getElem?_append_left (by omega)] at he'
        have := s23 _ _ (hus j u' e hu' he')
        exact k4 _ _ (ne_of this hL3 (by intro z; cases z)) this
      · rw [List.getElem?_append_right (by omega)] at hu' he'
        have lj := (List.getElem?_eq_some_iff.mp hu').1
        have lj' : j - us.length < 1 := lj
        rw [show j - us.length = 0 by omega] at hu'
        rw [show j - es.length = 0 by omega] at he'
        obtain rfl := Option.some.inj hu'
        obtain rfl := Option.some.inj he'
        exact k4 _ _ (ne_of hu3 hL3 (by intro z; cases z)) hu3
  obtain ⟨us, es, rfl, lu, ep, sG, nL0, hL, AG, et, hus⟩ := z
  rw [lk, List.take_of_length_le (Nat.le_refl _)] at ep
  have le : es.length = ps.length := by
    have := congrArg List.length ep
    rw [List.length_map, List.length_map] at this
    exact this
  refine ⟨L, _, aeD es, rfl, hL, ?_, fun i y qq hy hq => ?_, ?_, fun d nd => ⟨?_, ?_⟩⟩
  · unfold aeD
    rw [List.length_map, List.length_map, lu, lk, le]
  · unfold aeD at hq
    rw [List.getElem?_map] at hy hq
    obtain ⟨u, eu, rfl⟩ := Option.map_eq_some_iff.mp hy
    obtain ⟨e, ee, rfl⟩ := Option.map_eq_some_iff.mp hq
    exact ⟨u, rfl, SqT.of (hus i u e eu ee)⟩
  · unfold aeD
    rw [List.map_map]
    have := AG.nd
    rw [List.nodup_iff_pairwise_ne, List.pairwise_map] at this ⊢
    exact this.imp fun h z => h (by injection z)
  · rw [upd_ne (ne_of_none (sG _ _ hf1) nd)]
    exact sG _ _ hf1
  have s4 := same_new nd (.dK (aeD es))
  have hd4 : upd G d (.dK (aeD es)) d = some (.dK (aeD es)) := upd_same
  generalize upd G d (.dK (aeD es)) = G4 at s4 hd4 ⊢
  have A4 := AG.same s4
  have hf4 := s4 _ _ (sG _ _ hf1)
  have nd0 : H d = none := fr1 _ (sG.free nd)
  have ndp : d ≠ pa := Ne.symm (ne_of_none hp nd0)
  have hp5 : upd G4 pa (.dK (dI ps)) pa = some (.dK (dI ps)) := upd_same
  have k5 : ∀ b u, b ≠ pa → G4 b = some u → upd G4 pa (.dK (dI ps)) b = some u := fun b u nb e => by rw [upd_ne nb]; exact e
  generalize upd G4 pa (.dK (dI ps)) = G5 at hp5 k5 ⊢
  have s05 : Same H G5 := fun b u e => by
    by_cases c : b = pa
    · rw [c] at e ⊢; rw [hp5, ← hp]; exact e
    · exact k5 _ _ c (s4 _ _ (sG _ _ (k1 _ _ c e)))
  have A5 : AcsAt cAccount H G5 es := ⟨fun e he => ?_, fun e he => ⟨fr1 _ (AG.n e he).1, fr1 _ (AG.n e he).2.1, fr1 _ (AG.n e he).2.2⟩, AG.nd, AG.na⟩
  rotate_left
  · have a := A4.a e he
    exact ⟨k5 _ _ (ne_of a.o hf4 (by intro z; cases z)) a.o, k5 _ _ (ne_of a.hs hf4 (by intro z; cases z)) a.hs, k5 _ _ (ne_of a.ht hf4 (by intro z; cases z)) a.ht, fun q hq => k5 _ _ (ne_of (a.tt q hq) hf4 (by intro z; cases z)) (a.tt q hq)⟩
  have hd5 := k5 _ _ ndp hd4
  have nsd : ∀ e ∈ es, e.s ≠ d := fun e he => ne_of_none (AG.a e he).hs nd
  have len : (prs.map fun p => V.ref p.1).length = prs.length := List.length_map _
  refine ⟨_, rfl, ra, rfl, ⟨_, SqL.of (s05 _ _ R.l)⟩, for_enum (K := K) (a := ra) (j := 0) (xs := prs.map fun p => V.ref p.1) (fun i σ G => ∃ (v3 v4 v5 : Option V) (es : List AE), σ = [some (.ref ra), some (.ref pa), some (.ref d), v3, v4, v5] ∧ Same H G ∧ G d = some (.dK (aeD es)) ∧ AcsAt cAccount H G es ∧ (∀ e ∈ es, e.s ≠ d ∧ e.g = gRun e.p ((prs.map (·.2)).take i)) ∧ es.map (·.p) = ps.map (·.1) ∧ ∀ j, j < i → rightAt ps (prs.map (·.2)) j) ⟨_, _, _, es, rfl, s05, hd5, A5, fun e he => ⟨nsd e he, (et e he).2⟩, ep, fun j hj => absurd hj (Nat.not_lt_zero _)⟩ (fun i σ G _ z => ?_) (fun i y σ G tp hy z ntp => ?_) (fun σ G z => ?_)⟩
  · obtain ⟨v3, v4, v5, es, rfl, sG, _⟩ := z
    exact SqL.of (sG _ _ R.l)
  · obtain ⟨v3, v4, v5, es, rfl, sG, hd, AG, ge, ep, rt⟩ := z
    obtain ⟨r, er, rfl⟩ := rows_at hy
    have er2 : (prs.map (·.2))[i]? = some r.2 := by rw [List.getElem?_map, er]; rfl
    have li : i < prs.length := (List.getElem?_eq_some_iff.mp er).1
    have hr0 := R.t r (List.mem_of_getElem? er)
    have s6 := same_new ntp (.tup [V.int (0 + (i : Nat)), V.ref r.1])
    have ht6 : upd G tp (.tup [V.int (0 + (i : Nat)), V.ref r.1]) tp = some (.tup [V.int (0 + (i : Nat)), V.ref r.1]) := upd_same
    generalize upd G tp (.tup [V.int (0 + (i : Nat)), V.ref r.1]) = G6 at s6 ht6 ⊢
    have s06 := sG.trans s6
    have hr6 := s06 _ _ hr0
    refine ⟨tp, _, rfl, SqT.of ht6, rfl, _, _, rfl, _, _, rfl, rfl, ?_⟩
    refine ⟨_, rfl, r.1, _, 1, _, rfl, rfl, SqT.of hr6, row_pr r.2, ?_⟩
    have hd6 := s6 _ _ hd
    have gp := DGet.k (k := Sum.inr r.2.pr) hd6
    have gq := DGet.k (k := Sum.inr r.2.pr) (s06 _ _ hp)
    rw [valV_dI69] at gq
    have wrong : ps.lookup r.2.pr = none → ¬ rightAt ps (prs.map (·.2)) i := fun z => by
      rintro ⟨r', pth, e1, e2, _⟩
      rw [er2] at e1
      obtain rfl := Option.some.inj e1
      rw [z] at e2
      cases e2
    have out : ∀ G', Same H G' → ¬ rightAt ps (prs.map (·.2)) i → Q (.int (0 + (i : Nat))) G' := fun G' s' n' => q _ _ s' (.inr ⟨i, by rw [Int.zero_add], by rw [List.length_map]; exact li, n', rt⟩)
    cases ev : valV (aeD es) (Sum.inr r.2.pr : Key) with
    | none =>
      rw [ev] at gp
      refine ⟨_, rfl, _, rfl, d, _, rfl, gp, _, rfl, iteT ⟨_, rfl, out _ s06 (wrong ?_)⟩⟩
      cases el : ps.lookup r.2.pr with
      | none => rfl
      | some pth =>
        have m := lookup_mem69 el
        rw [← ep] at m
        obtain ⟨e, he, ee⟩ := List.mem_map.mp m
        have := val_ae_in AG.nd he
        rw [show e.p = r.2.pr from ee, ev] at this
        cases this
    | some u =>
      rw [ev] at gp
      obtain ⟨e, he, ee, rfl⟩ := val_ae ev
      obtain ⟨pth, el⟩ : ∃ pth, ps.lookup r.2.pr = some pth := lookup_some_of (by rw [← ep, ← ee]; exact List.mem_map_of_mem he)
      rw [el] at gq
      have A6 := AG.same s6
      have a6 := A6.a e he
      have ge' : e.g = gRun r.2.pr ((prs.map (·.2)).take i) := by rw [← ee]; exact (ge e he).2
      refine ⟨_, rfl, _, rfl, d, _, rfl, gp, _, rfl, iteF ?_⟩
      refine ⟨_, rfl, _, rfl, d, _, rfl, gp, e.x, _, e.dx, _, _, _, rfl, a6.o, rfl, T.cl_Account, D_Account_allows, _, rfl, _, rfl, _, rfl, pa, _, rfl, gq, e.x, r.1, e.dx, e.s, e.t, pth, e.st, e.b, e.c, e.tg, r.2, rfl, a6, hr6, fun G7 s7 => ⟨_, rfl, ?_⟩⟩
      have s07 := s06.trans s7
      have nn' : ∀ q ∈ e.st, 0 ≤ q.2 := by
        have := nn_run nn i rt r.2.pr
        rw [← ge'] at this
        exact this
      have iff := alB_iff (pth := pth) (b := e.b) (c := e.c) (tg := e.tg.map (·.2)) (r := r.2) nn'
      have goe : goOk pth e.st e.b e.c (e.tg.map (·.2)) r.2 → rightAt ps (prs.map (·.2)) i := fun z => ⟨r.2, pth, er2, el, by rw [← ge']; exact z⟩
      cases eb : alB pth e.st e.b e.c (e.tg.map (·.2)) r.2 with
      | false =>
        refine iteT ⟨_, rfl, out _ s07 ?_⟩
        rintro ⟨r', pth', e1, e2, z⟩
        rw [er2] at e1
        obtain rfl := Option.some.inj e1
        rw [el] at e2
        obtain rfl := Option.some.inj e2
        rw [← ge'] at z
        rw [iff.mpr z] at eb
        cases eb
      | true =>
        have go := iff.mp eb
        have a7 := a6.same s7
        have hd7 := s7 _ _ hd6
        have gp7 := DGet.k (k := Sum.inr r.2.pr) hd7
        rw [ev] at gp7
        obtain ⟨l1, l2⟩ := run_len (p := r.2.pr) (rows := prs.map (·.2)) i (by rw [List.length_map]; omega)
        rw [← ge'] at l1 l2
        have l1' : e.st.length ≤ i := l1
        have l2' : e.tg.length ≤ i := by have : (e.tg.map (·.2)).length ≤ i := l2; rw [List.length_map] at this; exact this
        have ok : okS e.st e.tg.length r.2 := by have := okS_of go; rw [List.length_map] at this; exact this
        refine iteF ⟨_, rfl, _, rfl, d, _, rfl, gp7, e.x, _, e.dx, _, _, _, rfl, a7.o, rfl, T.cl_Account, D_Account_enter, _, rfl, e.x, r.1, e.dx, e.s, e.t, e.st, e.b, e.c, e.tg, r.2, rfl, a7, s7 _ _ hr6, ok, by omega, by omega, fun tg' G8 k8 A8 et8 => ?_⟩
        have A9 := (A6.same s7).go (e' := ⟨e.p, e.x, e.dx, e.s, e.t, stS e.st r.2, bS e.b r.2, cS e.c r.2, tg'⟩) he k8 rfl rfl rfl rfl A8
        have nde : d ≠ e.x := ne_of hd7 a7.o (by intro z; cases z)
        have ndt : d ≠ e.t := ne_of hd7 a7.ht (by intro z; cases z)
        have tk := take_snoc er2
        refine ⟨_, _, _, aePut ⟨e.p, e.x, e.dx, e.s, e.t, stS e.st r.2, bS e.b r.2, cS e.c r.2, tg'⟩ es, rfl, fun b o eb => ?_, ?_, A9, fun f hf => ?_, by rw [aePut_p]; exact ep, fun j hj => ?_⟩
        · obtain ⟨n1, n2, n3⟩ := AG.n e he
          exact k8 _ _ (ne_of_none eb n1) (ne_of_none eb n2) (ne_of_none eb n3) (s07 _ _ eb)
        · rw [aePut_D (e' := ⟨e.p, e.x, e.dx, e.s, e.t, stS e.st r.2, bS e.b r.2, cS e.c r.2, tg'⟩) AG.nd he rfl rfl]
          exact k8 _ _ nde (Ne.symm (ge e he).1) ndt hd7
        · rw [tk, gRun_snoc]
          unfold gStep
          rcases aePut_mem hf with rfl | ⟨hf, nf⟩
          · refine ⟨(ge e he).1, ?_⟩
            rw [if_pos ee.symm]
            show _ = gS (gRun e.p _) r.2
            rw [ee, ← ge']
            unfold AE.g gS
            rw [et8]
          · rw [if_neg (fun z => nf (by rw [← z]; exact ee.symm))]
            exact ge f hf
        · by_cases c : j < i
          · exact rt j c
          · rw [show j = i by omega]
            exact goe go
  obtain ⟨v3, v4, v5, es, rfl, sG, hd, AG, ge, ep, rt⟩ := z
  refine q _ _ sG (.inl ⟨rfl, fun j hj => rt j (by rw [len]; rw [List.length_map] at hj; exact hj)⟩)

end
end My

namespace My
open PySem L2
open Blk (sg sg_inj sg_app)
section
variable {P : Program} {w : World} {K : PySem.W.Frag} {mg : Str → Option Value} {base : Heap}
def sp__law_draw (K : PySem.W.Frag) : Sp := fun vs H Q _ => ∃ (a : Addr) (k m : Int), vs = [.ref a, .int k, .int m] ∧ Scr K H a ∧ -(2 ^ 62) < k ∧ k < 2 ^ 62 ∧ 0 < m ∧ ∀ r : Int, 0 ≤ r → r < m → Q (.int r) H
def Wd (K : PySem.W.Frag) : TS := fun D σ H => ∃ (a : Addr) (k m : Int), σ = [some (.ref a), some (.int k), some (.int m), some (.int 0)] ∧ Scr K H a ∧ ∀ v : Int, D.nx [some (.ref a), some (.int k), some (.int m), some (.int v)] H
theorem sc__law_draw : FnScope ["_law_script", "_law_k", "_law_many", "_law_cell"] ["_law_script", "_law_k", "_law_many"] (defScope s__law_draw) := ⟨rfl, rfl, rfl, by decide +kernel, rfl, by decide +kernel, by decide +kernel⟩
theorem ok__law_draw {fa cAccount : Addr} {fd : FuncData} (F : Fun K "_law_draw" "_law_draw" s__law_draw fa fd) (T : Txt K mg cAccount)  :
    FnOk P w K mg base CX0 1 fa fd ["_law_script", "_law_k", "_law_many"] (sp__law_draw K) := by
  refine F.ok sc__law_draw (fun vs H Q E h => ?_) (fun cdv A outer s H vs Q E hr h => ?_)
  · obtain ⟨a, k, m, rfl, _⟩ := h
    rfl
  obtain ⟨a, k, m, rfl, hS, k0, k1, m0, q⟩ := h
  refine ⟨_, (pss_cons (ps_set (i := 3) sc__law_draw.nd rfl (by first | exact Or.inl rfl | exact Or.inr rfl) pe_int)
  (pss_cons (PS.weak (t' := Wd K) (ps_if (pt_cmpR op_gt (pe_callB call_len_seq rfl T.len PySem.boot_len (pa_cons (pv 0) pa_nil)) pe_int (nomark _)) (pss_one (ps_set (i := 3) sc__law_draw.nd rfl (by first | exact Or.inl rfl | exact Or.inr rfl) (pe_ix ix_listA (pv 0) (pe_op op_mod (pv 1) (pe_callB call_len_seq rfl T.len PySem.boot_len (pa_cons (pv 0) pa_nil))) (fun _ _ => rfl)))) pss_nil) ?w1)
  (pss_one (ps_ret (pe_op op_mod (pe_op op_mod (pe_op op_mul (pe_op op_add (pe_op op_add (pe_op op_add (pe_op op_mod (pv 3) pe_int) (pe_op op_mul (pe_op op_mul pe_int (pv 1)) (pv 1))) (pe_op op_mul pe_int (pv 1))) pe_int) pe_int) pe_int) (pv 2)))))), ?_⟩
  case w1 =>
    rintro D σ H' ⟨a, k, m, rfl, ⟨ns, hS, h63⟩, q⟩
    have hl : (ns.map V.int).length = ns.length := List.length_map _
    refine ⟨_, rfl, a, _, rfl, .inl hS, _, _, rfl, rfl, _, rfl, ?_⟩
    refine ite2 (fun c => ?_) (fun c => q 0)
    have c' : (0 : Int) < (((ns.map V.int).length : Nat) : Int) := of_decide_eq_true c
    have b0 := Int.emod_nonneg k (show (((ns.map V.int).length : Nat) : Int) ≠ 0 by omega)
    have b1 := Int.emod_lt_of_pos k c'
    refine ⟨_, rfl, _, rfl, _, rfl, a, _, rfl, .inl hS, _, _, rfl, rfl, c', a, _, _, rfl, rfl, hS, b0, b1, fun v hv => ?_⟩
    obtain ⟨z, rfl⟩ := int_of hv
    exact q z
  refine ⟨a, k, m, rfl, hS, fun v => ?_⟩
  refine ⟨_, rfl, _, _, rfl, rfl, (by show (0 : Int) < 1000003; decide), _, rfl, _, _, rfl, rfl, .inl ⟨by decide, by decide⟩, _, rfl, _, _, rfl, rfl, .inr ⟨by omega, by omega⟩, _, _, rfl, rfl, _, rfl, _, _, rfl, rfl, .inl ⟨by decide, by decide⟩, _, _, rfl, rfl, _, _, rfl, rfl, _, _, rfl, rfl, .inr ⟨by decide, by decide⟩, _, _, rfl, rfl, (by show (0 : Int) < 999983; decide), _, rfl, _, _, rfl, rfl, m0, ?_⟩
  exact q _ (Int.emod_nonneg _ (by omega)) (Int.emod_lt_of_pos _ m0)
def sp__law_great (K : PySem.W.Frag) : Sp := fun vs H Q _ => ∃ (a : Addr) (k : Int), vs = [.ref a, .int k] ∧ Scr K H a ∧ ∀ r : Int, 0 ≤ r → Q (.int r) H
theorem sc__law_great : FnScope ["_law_script", "_law_k"] ["_law_script", "_law_k"] (defScope s__law_great) := ⟨rfl, rfl, rfl, by decide +kernel, rfl, by decide +kernel, by decide +kernel⟩
theorem ok__law_great {fa cAccount : Addr} {fd : FuncData} (F : Fun K "_law_great" "_law_great" s__law_great fa fd) (T : Txt K mg cAccount)  :
    FnOk P w K mg base CX0 1 fa fd ["_law_script", "_law_k"] (sp__law_great K) := by
  refine F.ok sc__law_great (fun vs H Q E h => ?_) (fun cdv A outer s H vs Q E hr h => ?_)
  · obtain ⟨a, k, rfl, _⟩ := h
    rfl
  obtain ⟨a, k, rfl, ⟨ns, hS, h63⟩, q⟩ := h
  have hl : (ns.map V.int).length = ns.length := List.length_map _
  refine ⟨_, (pss_cons (ps_if (pt_cmpR op_eq (pe_callB call_len_seq rfl T.len PySem.boot_len (pa_cons (pv 0) pa_nil)) pe_int (nomark _)) (pss_one (ps_ret pe_int)) pss_nil)
  (pss_one (ps_ret (pe_op op_mod (pe_ix ix_listA (pv 0) (pe_op op_mod (pv 1) (pe_callB call_len_seq rfl T.len PySem.boot_len (pa_cons (pv 0) pa_nil))) (fun _ _ => rfl)) (pe_op op_pow pe_int pe_int))))), ?_⟩
  refine ⟨_, rfl, a, _, rfl, .inl hS, rfl, _, rfl, ?_⟩
  refine ite2 (fun c => q 0 (Int.le_refl 0)) (fun c => ?_)
  have c' : (0 : Int) < (((ns.map V.int).length : Nat) : Int) := by
    by_cases z : (ns.map V.int).length = 0
    · exact absurd (decide_eq_true (by rw [z]; rfl)) c
    · omega
  have b0 := Int.emod_nonneg k (show (((ns.map V.int).length : Nat) : Int) ≠ 0 by omega)
  have b1 := Int.emod_lt_of_pos k c'
  refine ⟨_, rfl, _, rfl, _, rfl, a, _, rfl, .inl hS, _, _, rfl, rfl, c', a, _, _, rfl, rfl, hS, b0, b1, fun v hv => ?_⟩
  obtain ⟨z, rfl⟩ := int_of hv
  refine ⟨_, _, rfl, rfl, ⟨by decide, by decide, by decide⟩, _, _, rfl, rfl, (by show (0 : Int) < 10 ^ 58; decide), ?_⟩
  exact q _ (Int.emod_nonneg _ (by decide))
def sp__law_whole (_K : PySem.W.Frag) : Sp := fun vs H Q _ => ∃ n : Int, vs = [.int n] ∧ Q (.bl true) H
theorem sc__law_whole : FnScope ["_law_found"] ["_law_found"] (defScope s__law_whole) := ⟨rfl, rfl, rfl, by decide +kernel, rfl, by decide +kernel, by decide +kernel⟩
theorem ok__law_whole {fa cAccount : Addr} {fd : FuncData} (F : Fun K "_law_whole" "_law_whole" s__law_whole fa fd) (T : Txt K mg cAccount)  :
    FnOk P w K mg base CX0 1 fa fd ["_law_found"] (sp__law_whole K) := by
  refine F.ok sc__law_whole (fun vs H Q E h => ?_) (fun cdv A outer s H vs Q E hr h => ?_)
  · obtain ⟨n, rfl, _⟩ := h
    rfl
  obtain ⟨n, rfl, q⟩ := h
  refine ⟨_, (pss_one (ps_ret (pe_and (pe_callB call_isi rfl T.isinstance bt_isi (pa_cons (pv 0) (pa_cons (pe_bltn rfl T.int bt_int (rel_ty _)) pa_nil))) (pe_one (pe_not (pe_callB call_isi rfl T.isinstance bt_isi (pa_cons (pv 0) (pa_cons (pe_bltn rfl T.bool bt_bool (rel_ty _)) pa_nil)))))))), ?_⟩
  refine ⟨_, rfl, _, _, _, true, rfl, TyOf.int _, kit_same _, true, rfl, iteT ?_⟩
  exact ⟨_, rfl, _, _, _, false, rfl, TyOf.int _, kit_int_bool _, false, rfl, q⟩

end
end My

namespace My
open PySem L2
open Blk (sg sg_inj sg_app)
section
variable {P : Program} {w : World} {K : PySem.W.Frag} {mg : Str → Option Value} {base : Heap}
theorem slice_to (x : Str) (n : Nat) : sg (Txt.slice x none (some ((n : Nat) : Int))) = (sg x).take n := by
  have h := PyProof.Rows.slice_to_min_closes (x := x) (n := ((n : Nat) : Int)) (m := if ((x.length : Nat) : Int) < ((n : Nat) : Int) then ((x.length : Nat) : Int) else ((n : Nat) : Int)) (by omega) rfl
  have e := eq_of_beq h
  rw [e]
  show ((sg x).drop (Int.toNat 0)).take _ = _
  rw [show Int.toNat 0 = 0 from rfl, List.drop_zero]
  by_cases c : ((x.length : Nat) : Int) < ((n : Nat) : Int)
  · rw [if_pos c, List.take_of_length_le (by rw [sg_len]; omega), List.take_of_length_le (by rw [sg_len]; omega)]
  · rw [if_neg c]
    congr 1
abbrev four47 : List Str := [Str.ofString "both", Str.ofString "colour", Str.ofString "staple", Str.ofString "plain"]
theorem str_of7 {ns : List Str} {j : Nat} {v : V} (h : (ns.map V.str)[j]? = some v) : ∃ z, v = V.str z ∧ z ∈ ns := by
  rw [List.getElem?_map] at h
  obtain ⟨z, e, rfl⟩ := Option.map_eq_some_iff.mp h
  exact ⟨z, rfl, List.mem_of_getElem? e⟩
theorem strs_with {P : Str → Prop} : ∀ {ys : List V}, (∀ (i : Nat) y, ys[i]? = some y → ∃ k : Str, y = .str k ∧ P k) → ∃ zs : List Str, ys = zs.map V.str ∧ ∀ z ∈ zs, P z
  | [], _ => ⟨[], rfl, fun z h => absurd h List.not_mem_nil⟩
  | y :: r, h => by
    obtain ⟨k, rfl, hk⟩ := h 0 y rfl
    obtain ⟨zs, rfl, hz⟩ := strs_with (ys := r) fun i y e => h (i + 1) y e
    refine ⟨k :: zs, rfl, fun z hz' => ?_⟩
    rcases List.mem_cons.mp hz' with rfl | m
    · exact hk
    · exact hz z m
theorem got_each {xs ys : List V} {G : V → Prop} (l : ys.length = xs.length) (g : ∀ (i : Nat) x y, xs[i]? = some x → ys[i]? = some y → G y) (i : Nat) (y : V) (e : ys[i]? = some y) : G y := by
  obtain ⟨x, ex⟩ : ∃ x, xs[i]? = some x := ⟨_, List.getElem?_eq_getElem (by rw [← l]; exact (List.getElem?_eq_some_iff.mp e).1)⟩
  exact g i x y ex e
theorem new_none {H H' : Hp} {G : Prop} (h : G) : New H H' (fun _ => G) := ⟨fun _ => False, fun _ z => z.elim, fun _ _ => h⟩
theorem slice_few (x : Str) (n : Nat) {k : Nat} (h : x.length ≤ k) : (Txt.slice x none (some ((n : Nat) : Int))).length ≤ k := by
  have e := congrArg List.length (slice_to x n)
  rw [List.length_take] at e
  have e1 : (sg (Txt.slice x none (some ((n : Nat) : Int)))).length = (Txt.slice x none (some ((n : Nat) : Int))).length := Array.length_toList
  have e2 : (sg x).length = x.length := Array.length_toList
  omega
theorem at_head {zs : List Str} {c : Str} (h : zs[0]? = some c) : atI (zs.map V.str) 0 = some (V.str c) := by
  cases zs with
  | nil => cases h
  | cons t r =>
    obtain rfl := Option.some.inj h
    have e : ixN ((t :: r).map V.str).length 0 = some 0 := ixN_nat (j := 0) (by rw [List.length_map]; exact Nat.zero_lt_succ _)
    unfold atI
    rw [e]
    rfl
def sp__law_names (K : PySem.W.Frag) : Sp := fun vs H Q _ => ∃ (a : Addr) (k : Int) (m : Nat), vs = [.ref a, .int k, .int (m : Int)] ∧ Scr K H a ∧ 0 ≤ k ∧ k ≤ 1000 ∧ m ≤ 10 ∧ ∀ (p : Addr) (ns : List Str) (H' : Hp), Same H H' → H p = none → H' p = some (.lst (ns.map V.str)) → ns.length = m → Q (.ref p) H'
theorem sc__law_names : FnScope ["_law_script", "_law_k", "_law_many", "_law_letters", "_law_size", "_law_word", "_law_at", "_law_first", "_law_names_here", "_law_j", "_law_signs"] ["_law_script", "_law_k", "_law_many"] (defScope s__law_names) := ⟨rfl, rfl, rfl, by decide +kernel, rfl, by decide +kernel, by decide +kernel⟩
theorem ok__law_names {fa cAccount : Addr} {fd : FuncData} (F : Fun K "_law_names" "_law_names" s__law_names fa fd) (T : Txt K mg cAccount) (D__law_draw : Dfn P w K mg base 1 "_law_draw" ["_law_script", "_law_k", "_law_many"] (sp__law_draw K)) :
    FnOk P w K mg base CX0 2 fa fd ["_law_script", "_law_k", "_law_many"] (sp__law_names K) := by
  refine F.ok sc__law_names (fun vs H Q E h => ?_) (fun cdv A outer s H vs Q E hr h => ?_)
  · obtain ⟨a, k, m, rfl, _⟩ := h
    rfl
  obtain ⟨a, k, m, rfl, hS, k0, k1, m1, q⟩ := h
  refine ⟨_, (pss_cons (ps_set (i := 3) sc__law_names.nd rfl (by first | exact Or.inl rfl | exact Or.inr rfl) pe_str)
  (pss_cons (ps_set (i := 4) sc__law_names.nd rfl (by first | exact Or.inl rfl | exact Or.inr rfl) (pe_op op_add pe_int (pe_callD D__law_draw (hr.mono (by decide)) rfl (pa_cons (pv 0) (pa_cons (pv 1) (pa_cons pe_int pa_nil))))))
  (pss_cons (ps_set (i := 5) sc__law_names.nd rfl (by first | exact Or.inl rfl | exact Or.inr rfl) (pe_comp (frees := [("_law_letters", 3), ("_law_script", 0), ("_law_k", 1)]) ⟨by decide +kernel, rfl, rfl, by decide +kernel, ⟨⟨rfl, rfl, rfl, by decide +kernel⟩, ⟨⟨rfl, rfl, rfl, by decide +kernel⟩, ⟨⟨rfl, rfl, rfl, by decide +kernel⟩, trivial⟩⟩⟩, by decide +kernel, cellsFor_at rfl, rfl⟩ rfl (pi_range1 rfl T.range (pa_cons (pv 4) pa_nil)) (fun _ _ _ _ => pifs_nil) (fun _ _ _ _ => by exact (pe_ix ix_strA (pv 1) (pe_callD D__law_draw (hr.mono (by decide)) rfl (pa_cons (pv 2) (pa_cons (pe_op op_add (pe_op op_add (pv 3) pe_int) (pv 0)) (pa_cons pe_int pa_nil)))) (fun _ _ => rfl)))))
  (pss_cons (ps_if (pt_cmpR op_eq (pe_callD D__law_draw (hr.mono (by decide)) rfl (pa_cons (pv 0) (pa_cons (pe_op op_add (pv 1) pe_int) (pa_cons pe_int pa_nil)))) pe_int (nomark _)) (pss_one (ps_ret (pe_comp (frees := [("_law_word", 5)]) ⟨by decide +kernel, rfl, rfl, by decide +kernel, ⟨⟨rfl, rfl, rfl, by decide +kernel⟩, trivial⟩, by decide +kernel, cellsFor_at rfl, rfl⟩ rfl (pi_range1 rfl T.range (pa_cons (pv 2) pa_nil)) (fun _ _ _ _ => pifs_nil) (fun _ _ _ _ => by exact (pe_op op_add_str (pe_ixK (K := K) (r := rIxL) rfl ix_list (pv 1) pe_int (fun _ _ => rfl)) (pe_slice sl_str pe_str po_none (po_some (pv 0)))))))) pss_nil)
  (pss_cons (ps_set (i := 6) sc__law_names.nd rfl (by first | exact Or.inl rfl | exact Or.inr rfl) (pe_callD D__law_draw (hr.mono (by decide)) rfl (pa_cons (pv 0) (pa_cons (pe_op op_add (pv 1) pe_int) (pa_cons (pv 4) pa_nil)))))
  (pss_cons (ps_set (i := 7) sc__law_names.nd rfl (by first | exact Or.inl rfl | exact Or.inr rfl) (pe_callD D__law_draw (hr.mono (by decide)) rfl (pa_cons (pv 0) (pa_cons (pe_op op_add (pv 1) pe_int) (pa_cons pe_int pa_nil)))))
  (pss_cons (ps_set (i := 8) sc__law_names.nd rfl (by first | exact Or.inl rfl | exact Or.inr rfl) (pe_lst pa_nil))
  (pss_cons (ps_for PassesOwn.never rfl (pi_range1 rfl T.range (pa_cons (pv 2) pa_nil)) (pg_name (i := 9) sc__law_names.nd rfl (by first | exact Or.inl rfl | exact Or.inr rfl))
  (pss_cons (ps_set (i := 10) sc__law_names.nd rfl (by first | exact Or.inl rfl | exact Or.inr rfl) (pe_callTy call_list_of rfl T.list bt_list (pa_cons (pv 5) pa_nil)))
  (pss_cons (ps_asg (pe_ix ix_strA (pv 3) (pe_op op_mod (pe_op op_add (pv 7) (pv 9)) pe_int) (fun _ _ => rfl)) (pg_sub (pv 10) (pv 6) set_list))
  (pss_one (ps_expr (pe_bm PySem.F.plainAttrs_list PySem.F.slot_list_append PySem.F.type_list_append mt_append (pv 8) (pa_cons (pe_bm PySem.F.plainAttrs_str PySem.F.slot_str_join PySem.F.type_str_join mt_join pe_str (pa_cons (pv 10) pa_nil)) pa_nil)))))))
  (pss_one (ps_ret (pv 8))))))))))), ?_⟩
  have fit : ∀ n : Nat, n ≤ 1000 → n ≤ sizeLine := fun n h => small h
  refine ⟨_, rfl, _, rfl, a, _, _, rfl, hS, by omega, by omega, by decide, fun r1 r10 r11 => ⟨_, _, rfl, rfl, ?_⟩⟩
  obtain ⟨sz, hsz⟩ : ∃ sz : Nat, (1 + r1 : Int) = (sz : Int) := ⟨(1 + r1).toNat, by omega⟩
  refine ⟨_, rfl, _, rfl, by omega, by omega, ?_⟩
  refine compB_mk (seq_range 0 (1 + r1 : Int).toNat H) (fun _ y _ => ∃ z : Str, y = .str z ∧ z.length = 1) (by rw [List.length_map, List.length_range]; exact small1000 (by omega)) (fun x _ H' R _ rr => rr) (fun x hx G R sG rr => ?_) (fun w H1 ys s1 nw hw ly gy => ?_)
  · obtain ⟨j, hj, rfl⟩ := List.mem_map.mp hx
    have hj' := List.mem_range.mp hj
    refine ⟨_, rfl, _, rfl, _, rfl, _, _, rfl, rfl, _, rfl, _, _, rfl, rfl, a, _, _, rfl, hS.same sG, by omega, by omega, by decide, fun r r0 r1 => ⟨_, _, rfl, rfl, (by decide +kernel), r0, Int.lt_of_lt_of_le r1 (by decide +kernel), fun c hc => ?_⟩⟩
    exact rr _ _ (Same.refl _) (new_none ⟨_, rfl, rfl⟩)
  obtain ⟨zs, rfl, hz⟩ := strs_with (got_each ly gy)
  rw [List.length_map, List.length_map, List.length_range] at ly
  have S1 := hS.same s1
  refine ⟨_, rfl, _, rfl, _, _, rfl, rfl, a, _, _, rfl, S1, by omega, by omega, by decide, fun r _ _ => ⟨rfl, _, rfl, ?_⟩⟩
  refine ite2 (fun _ => ?_) (fun _ => ?_)
  · refine ⟨_, rfl, _, rfl, by omega, by omega, ?_⟩
    have hz0 : 0 < zs.length := by omega
    obtain ⟨c0, ec0⟩ : ∃ c, zs[0]? = some c := ⟨_, List.getElem?_eq_getElem hz0⟩
    refine compB_mk (seq_range 0 (m : Int).toNat H1) (fun _ y _ => ∃ z : Str, y = .str z ∧ True) (by rw [List.length_map, List.length_range]; exact small1000 (by omega)) (fun x _ H' R _ rr => rr) (fun x hx G R sG rr => ?_) (fun D H2 ys2 s2 nD hD ly2 gy2 => ?_)
    · obtain ⟨j, hj, rfl⟩ := List.mem_map.mp hx
      rw [Int.zero_add]
      have hl : (Txt.slice (Str.ofString "a1b2c3d4e5f") none (some ((j : Nat) : Int))).length ≤ 11 := slice_few _ _ (by decide +kernel)
      have l1 := hz c0 (List.mem_of_getElem? ec0)
      refine ⟨_, rfl, w, _, 0, _, rfl, rfl, SqL.of (sG _ _ hw), at_head ec0, _, rfl, _, rfl, _, rfl, small (by decide +kernel), _, _, rfl, rfl, small (by omega), ?_⟩
      exact rr _ _ (Same.refl _) (new_none ⟨_, rfl, trivial⟩)
    · obtain ⟨zs2, rfl, _⟩ := strs_with (got_each ly2 gy2)
      rw [List.length_map, List.length_map, List.length_range, Int.toNat_natCast] at ly2
      exact q D zs2 H2 (s1.trans s2) (s1.free nD) hD ly2
  refine ⟨_, rfl, _, rfl, _, _, rfl, rfl, _, rfl, a, _, _, rfl, S1, by omega, by omega, by omega, fun at' a0 a1 => ?_⟩
  refine ⟨_, rfl, _, rfl, _, _, rfl, rfl, a, _, _, rfl, S1, by omega, by omega, by decide, fun fs f0 f1 => ?_⟩
  refine ⟨Nat.zero_le _, fun p np => ?_⟩
  have s2 := same_new np (.lst [])
  refine ⟨_, rfl, _, rfl, by omega, by omega, for_range (lo := 0) (n := (m : Int).toNat) (fun i σ G => Same H1 G ∧ ∃ (ns : List Str) (v9 v10 : Option V), G p = some (.lst (ns.map V.str)) ∧ ns.length = i ∧ σ = [some (.ref a), some (.int k), some (.int m), some (.str (Str.ofString "abcdefghijklmnopqrstuvwxyz")), some (.int (1 + r1)), some (.ref w), some (.int at'), some (.int fs), some (.ref p), v9, v10]) ⟨s2, [], _, _, upd_same, rfl, rfl⟩ (fun i σ G hi z => ?_) (fun σ G z => ?_)⟩
  · obtain ⟨sG, ns, v9, v10, hp, ln, rfl⟩ := z
    refine ⟨_, rfl, w, _, rfl, .inl (SqL.of (sG _ _ hw)), fun l nl => ?_⟩
    have k1 := same_new nl (.lst (zs.map V.str))
    refine ⟨_, rfl, _, rfl, _, rfl, _, _, rfl, rfl, _, _, rfl, rfl, (by show (0 : Int) < 26; decide), ?_⟩
    refine ⟨_, _, rfl, rfl, (by decide +kernel), Int.emod_nonneg _ (by decide), Int.lt_of_lt_of_le (Int.emod_lt_of_pos _ (by decide)) (by decide +kernel), fun cl hcl => ?_⟩
    refine ⟨_, rfl, _, rfl, l, _, _, at'.toNat, rfl, rfl, upd_same, ?_, ?_⟩
    · have := ixN_nat (n := zs.length) (j := at'.toNat) (by omega)
      rw [Int.toNat_of_nonneg a0] at this
      rw [List.length_map]
      exact this
    rw [upd_upd, ← List.map_set]
    have h5 : upd G l (.lst ((zs.set at'.toNat ⟨#[cl]⟩).map V.str)) l = some (.lst ((zs.set at'.toNat ⟨#[cl]⟩).map V.str)) := upd_same
    have k5 := same_new nl (.lst ((zs.set at'.toNat ⟨#[cl]⟩).map V.str))
    generalize upd G l (.lst ((zs.set at'.toNat ⟨#[cl]⟩).map V.str)) = G5 at h5 k5 ⊢
    have hp5 := k5 _ _ hp
    refine ⟨_, rfl, .inl ⟨rfl, _, SqL.of hp5⟩, rfl, _, rfl, _, l, zs.set at'.toNat ⟨#[cl]⟩, rfl, rfl, SqL.of h5, ?_, p, _, _, rfl, rfl, hp5, ?_, ?_⟩
    · unfold JoinOk
      rw [Bool.not_eq_true']
      refine StrLaws.joinFits (B := 1) (fun x hx => ?_) ?_
      · rcases List.mem_or_eq_of_mem_set hx with h | h
        · exact Nat.le_of_eq (hz x h)
        · rw [h]; exact Nat.le_refl 1
      · rw [List.length_set, show (Str.ofString "").length = 0 by decide +kernel]
        omega
    · rw [List.length_map]
      exact small1000 (by omega)
    · refine ⟨same_on np (sG.trans k5) _, ns ++ [?z], _, _, ?_, ?_, rfl⟩
      rotate_left
      · rw [upd_same, List.map_append]
        rfl
      · rw [List.length_append, ln]
        rfl
  · obtain ⟨sG, ns, v9, v10, hp, ln, rfl⟩ := z
    rw [Int.toNat_natCast] at ln
    exact ⟨_, rfl, q p ns G (s1.trans sG) (s1.free np) hp ln⟩
def sp__law_number (K : PySem.W.Frag) : Sp := fun vs H Q _ => ∃ (a : Addr) (k : Int), vs = [.ref a, .int k] ∧ Scr K H a ∧ 0 ≤ k ∧ k ≤ 100000 ∧ ∀ r : Int, 0 ≤ r → Q (.int r) H
theorem sc__law_number : FnScope ["_law_script", "_law_k"] ["_law_script", "_law_k"] (defScope s__law_number) := ⟨rfl, rfl, rfl, by decide +kernel, rfl, by decide +kernel, by decide +kernel⟩
theorem ok__law_number {fa cAccount : Addr} {fd : FuncData} (F : Fun K "_law_number" "_law_number" s__law_number fa fd) (T : Txt K mg cAccount) (D__law_draw : Dfn P w K mg base 1 "_law_draw" ["_law_script", "_law_k", "_law_many"] (sp__law_draw K)) (D__law_great : Dfn P w K mg base 1 "_law_great" ["_law_script", "_law_k"] (sp__law_great K)) :
    FnOk P w K mg base CX0 2 fa fd ["_law_script", "_law_k"] (sp__law_number K) := by
  refine F.ok sc__law_number (fun vs H Q E h => ?_) (fun cdv A outer s H vs Q E hr h => ?_)
  · obtain ⟨a, k, rfl, _⟩ := h
    rfl
  obtain ⟨a, k, rfl, hS, k0, k1, q⟩ := h
  refine ⟨_, (pss_cons (ps_if (pt_cmpR op_eq (pe_callD D__law_draw (hr.mono (by decide)) rfl (pa_cons (pv 0) (pa_cons (pv 1) (pa_cons pe_int pa_nil)))) pe_int (nomark _)) (pss_one (ps_ret (pe_callD D__law_great (hr.mono (by decide)) rfl (pa_cons (pv 0) (pa_cons (pe_op op_add (pv 1) pe_int) pa_nil))))) pss_nil)
  (pss_one (ps_ret (pe_callD D__law_draw (hr.mono (by decide)) rfl (pa_cons (pv 0) (pa_cons (pe_op op_add (pv 1) pe_int) (pa_cons pe_int pa_nil))))))), ?_⟩
  refine ⟨_, rfl, _, rfl, a, _, _, rfl, hS, by omega, by omega, by decide, fun r1 _ _ => ⟨rfl, _, rfl, ?_⟩⟩
  refine ite2 (fun _ => ?_) (fun _ => ?_)
  · exact ⟨_, rfl, _, rfl, _, _, rfl, rfl, a, _, rfl, hS, fun r2 z => q r2 z⟩
  · exact ⟨_, rfl, _, rfl, _, _, rfl, rfl, a, _, _, rfl, hS, by omega, by omega, by decide, fun r2 z _ => q r2 z⟩

end
end My

namespace My
open PySem L2
open Blk (sg sg_inj sg_app)
section
variable {P : Program} {w : World} {K : PySem.W.Frag} {mg : Str → Option Value} {base : Heap}
abbrev kw (w : String) : Key := Sum.inr (Str.ofString w)
theorem val_out69 : ∀ {kvs : List (Key × V)} {k : Key}, (∀ k' ∈ kvs.map (·.1), k' ≠ k) → valV kvs k = none
  | [], _, _ => rfl
  | p :: r, k, h => by
    exact (valV_neg (h p.1 (by rw [List.map_cons]; exact List.mem_cons_self))).trans (val_out69 fun k' hk => h k' (by rw [List.map_cons]; exact List.mem_cons_of_mem _ hk))
theorem putX69 {kvs : List (Key × V)} {k : Key} {v : V} (h : ∀ k' ∈ kvs.map (·.1), k' ≠ k) : putK kvs k v = kvs ++ [(k, v)] := putK_new v (val_out69 h)

def hD (p : Int) (s : Addr) (b c : Int) (t : Addr) : List (Key × V) := [(kw "path", .int p), (kw "sheets", .ref s), (kw "black", .int b), (kw "tint", .int c), (kw "inner", .ref t)]
theorem merge69 (v1 v2 v3 v4 v5 : V) : mergeK [] [(kw "path", v1), (kw "sheets", v2), (kw "black", v3), (kw "tint", v4), (kw "inner", v5)] = [(kw "path", v1), (kw "sheets", v2), (kw "black", v3), (kw "tint", v4), (kw "inner", v5)] := by
  show putK (putK (putK (putK (putK [] (kw "path") v1) (kw "sheets") v2) (kw "black") v3) (kw "tint") v4) (kw "inner") v5 = _
  rw [putX69 (kvs := ([] : List (Key × V))) (k := kw "path") (by simp only [List.map_append, List.map_cons, List.map_nil, List.nil_append, List.cons_append]; decide +kernel), putX69 (kvs := ([] : List (Key × V)) ++ [(kw "path", v1)]) (k := kw "sheets") (by simp only [List.map_append, List.map_cons, List.map_nil, List.nil_append, List.cons_append]; decide +kernel), putX69 (kvs := ([] : List (Key × V)) ++ [(kw "path", v1)] ++ [(kw "sheets", v2)]) (k := kw "black") (by simp only [List.map_append, List.map_cons, List.map_nil, List.nil_append, List.cons_append]; decide +kernel), putX69 (kvs := ([] : List (Key × V)) ++ [(kw "path", v1)] ++ [(kw "sheets", v2)] ++ [(kw "black", v3)]) (k := kw "tint") (by simp only [List.map_append, List.map_cons, List.map_nil, List.nil_append, List.cons_append]; decide +kernel), putX69 (kvs := ([] : List (Key × V)) ++ [(kw "path", v1)] ++ [(kw "sheets", v2)] ++ [(kw "black", v3)] ++ [(kw "tint", v4)]) (k := kw "inner") (by simp only [List.map_append, List.map_cons, List.map_nil, List.nil_append, List.cons_append]; decide +kernel)]
  rfl
/-- what the law holds of one printer: its dict, its sheets, its tags -/
structure HeAt (H : Hp) (h s t : Addr) (p : Int) (st : List (Str × Int)) (b c : Int) (tg : List (Addr × Str × Int)) : Prop where
  o : H h = some (.dK (hD p s b c t))
  hs : H s = some (.dK (dI st))
  ht : H t = some (.lst (tg.map fun q => V.ref q.1))
  tt : ∀ q ∈ tg, H q.1 = some (.tup [.str q.2.1, .int q.2.2])
  ne : h ≠ s
theorem HeAt.same {H H' : Hp} {h s t : Addr} {p : Int} {st : List (Str × Int)} {b c : Int} {tg : List (Addr × Str × Int)} (A : HeAt H h s t p st b c tg) (k : Same H H') : HeAt H' h s t p st b c tg := ⟨k _ _ A.o, k _ _ A.hs, k _ _ A.ht, fun q hq => k _ _ (A.tt q hq), A.ne⟩
def sp__law_fresh (_K : PySem.W.Frag) : Sp := fun vs H Q _ => ∃ p : Int, vs = [.int p] ∧ ∀ h s t H', Same H H' → H h = none → H s = none → H t = none → HeAt H' h s t p [] 0 0 [] → Q (.ref h) H'
theorem sc__law_fresh : FnScope ["_law_path"] ["_law_path"] (defScope s__law_fresh) := ⟨rfl, rfl, rfl, by decide +kernel, rfl, by decide +kernel, by decide +kernel⟩
theorem ok__law_fresh {fa cAccount : Addr} {fd : FuncData} (F : Fun K "_law_fresh" "_law_fresh" s__law_fresh fa fd) (T : Txt K mg cAccount)  :
    FnOk P w K mg base CX0 1 fa fd ["_law_path"] (sp__law_fresh K) := by
  refine F.ok sc__law_fresh (fun vs H Q E h => ?_) (fun cdv A outer s H vs Q E hr h => ?_)
  · obtain ⟨p, rfl, _⟩ := h
    rfl
  obtain ⟨p, rfl, q⟩ := h
  refine ⟨_, (pss_one (ps_ret (pe_disp (pps_cons pe_str (pv 0) (pps_cons pe_str pe_dnewK (pps_cons pe_str pe_int (pps_cons pe_str pe_int (pps_cons pe_str (pe_lst pa_nil) pps_nil))))) rfl rfl (by decide) (by decide)))), ?_⟩
  refine fun h nh => ?_
  have s1 := same_new nh (.dK [])
  have h1 : upd H h (.dK []) h = some (.dK []) := upd_same
  generalize upd H h (.dK []) = H1 at s1 h1 ⊢
  refine ⟨_, rfl, fun s ns => ?_⟩
  have fs := s1.free ns
  have hns : h ≠ s := ne_of_none h1 ns
  have s2 := same_new ns (.dK [])
  have h2 : upd H1 s (.dK []) s = some (.dK (dI [])) := upd_same
  generalize upd H1 s (.dK []) = H2 at s2 h2 ⊢
  refine ⟨Nat.zero_le _, fun t nt => ?_⟩
  have ft := (s1.trans s2).free nt
  have s3 := same_new nt (.lst [])
  have h3 : upd H2 t (.lst []) t = some (.lst []) := upd_same
  generalize upd H2 t (.lst []) = H3 at s3 h3 ⊢
  refine ⟨s3 _ _ (s2 _ _ h1), [(kw "path", .int p), (kw "sheets", .ref s), (kw "black", .int 0), (kw "tint", .int 0), (kw "inner", .ref t)], rfl, by show 5 ≤ 15; decide, ?_⟩
  rw [merge69]
  have k4 : ∀ b o, b ≠ h → H3 b = some o → upd H3 h (.dK (hD p s 0 0 t)) b = some o := fun b o nb e => by rw [upd_ne nb]; exact e
  exact q h s t _ (same_on nh (s1.trans (s2.trans s3)) _) nh fs ft ⟨upd_same, k4 _ _ (Ne.symm hns) (s3 _ _ h2), k4 _ _ (ne_of h3 (s3 _ _ (s2 _ _ h1)) (by intro z; cases z)) h3, (fun q hq => absurd hq List.not_mem_nil), hns⟩

end
end My

namespace My
open PySem L2
open Blk (sg sg_inj sg_app)
section
variable {P : Program} {w : World} {K : PySem.W.Frag} {mg : Str → Option Value} {base : Heap}
theorem cut_to69 (xs : List V) (k : Nat) : cutV xs none (some (k : Int)) = xs.take k := by
  unfold cutV
  rw [HT.sIx_nat, HT.sIx_none]
  by_cases h : k ≤ xs.length
  · rw [Nat.min_eq_left h]
    rfl
  · rw [Nat.min_eq_right (by omega), List.drop_zero, Nat.sub_zero, List.take_of_length_le (Nat.le_refl _), List.take_of_length_le (by omega)]
theorem cut_from69 {x : V} (xs : List V) : cutV (x :: xs) (some 1) none = xs := by
  unfold cutV
  rw [show (1 : Int) = ((1 : Nat) : Int) from rfl, HT.sIx_nat, HT.sIx_none, Nat.min_eq_left (by rw [List.length_cons]; omega), List.take_of_length_le (by rw [List.length_drop]; omega)]
  rfl
theorem h_path (p : Int) (s : Addr) (b c : Int) (t : Addr) : valV (hD p s b c t) (kw "path") = some (.int p) := valV_pos rfl
theorem h_sheets (p : Int) (s : Addr) (b c : Int) (t : Addr) : valV (hD p s b c t) (kw "sheets") = some (.ref s) := (valV_neg (by intro z; injection z with z; exact absurd z (by decide +kernel))).trans (valV_pos rfl)
theorem h_black (p : Int) (s : Addr) (b c : Int) (t : Addr) : valV (hD p s b c t) (kw "black") = some (.int b) := (valV_neg (by intro z; injection z with z; exact absurd z (by decide +kernel))).trans ((valV_neg (by intro z; injection z with z; exact absurd z (by decide +kernel))).trans (valV_pos rfl))
theorem h_tint (p : Int) (s : Addr) (b c : Int) (t : Addr) : valV (hD p s b c t) (kw "tint") = some (.int c) := (valV_neg (by intro z; injection z with z; exact absurd z (by decide +kernel))).trans ((valV_neg (by intro z; injection z with z; exact absurd z (by decide +kernel))).trans ((valV_neg (by intro z; injection z with z; exact absurd z (by decide +kernel))).trans (valV_pos rfl)))
theorem h_inner (p : Int) (s : Addr) (b c : Int) (t : Addr) : valV (hD p s b c t) (kw "inner") = some (.ref t) := (valV_neg (by intro z; injection z with z; exact absurd z (by decide +kernel))).trans ((valV_neg (by intro z; injection z with z; exact absurd z (by decide +kernel))).trans ((valV_neg (by intro z; injection z with z; exact absurd z (by decide +kernel))).trans ((valV_neg (by intro z; injection z with z; exact absurd z (by decide +kernel))).trans (valV_pos rfl))))
theorem hp_black (p : Int) (s : Addr) (b c : Int) (t : Addr) (v : Int) : putK (hD p s b c t) (kw "black") (.int v) = hD p s v c t := by
  unfold putK
  rw [if_pos (List.any_eq_true.mpr ⟨(kw "black", .int b), by simp [hD], decide_eq_true rfl⟩)]
  unfold hD
  simp only [List.map_cons, List.map_nil]
  rw [if_neg (show ¬ (kw "path" : Key) = kw "black" by decide +kernel)]
  rw [if_neg (show ¬ (kw "sheets" : Key) = kw "black" by decide +kernel)]
  rw [if_pos trivial]
  rw [if_neg (show ¬ (kw "tint" : Key) = kw "black" by decide +kernel)]
  rw [if_neg (show ¬ (kw "inner" : Key) = kw "black" by decide +kernel)]
theorem hp_tint (p : Int) (s : Addr) (b c : Int) (t : Addr) (v : Int) : putK (hD p s b c t) (kw "tint") (.int v) = hD p s b v t := by
  unfold putK
  rw [if_pos (List.any_eq_true.mpr ⟨(kw "tint", .int c), by simp [hD], decide_eq_true rfl⟩)]
  unfold hD
  simp only [List.map_cons, List.map_nil]
  rw [if_neg (show ¬ (kw "path" : Key) = kw "tint" by decide +kernel)]
  rw [if_neg (show ¬ (kw "sheets" : Key) = kw "tint" by decide +kernel)]
  rw [if_neg (show ¬ (kw "black" : Key) = kw "tint" by decide +kernel)]
  rw [if_pos trivial]
  rw [if_neg (show ¬ (kw "inner" : Key) = kw "tint" by decide +kernel)]
theorem hp_inner (p : Int) (s : Addr) (b c : Int) (t : Addr) (v : Addr) : putK (hD p s b c t) (kw "inner") (.ref v) = hD p s b c v := by
  unfold putK
  rw [if_pos (List.any_eq_true.mpr ⟨(kw "inner", .ref t), by simp [hD], decide_eq_true rfl⟩)]
  unfold hD
  simp only [List.map_cons, List.map_nil]
  rw [if_neg (show ¬ (kw "path" : Key) = kw "inner" by decide +kernel)]
  rw [if_neg (show ¬ (kw "sheets" : Key) = kw "inner" by decide +kernel)]
  rw [if_neg (show ¬ (kw "black" : Key) = kw "inner" by decide +kernel)]
  rw [if_neg (show ¬ (kw "tint" : Key) = kw "inner" by decide +kernel)]
  rw [if_pos trivial]
theorem hg69 {H : Hp} {a : Addr} {kvs : List (Key × V)} {n : Str} {v : V} (h : H a = some (.dK kvs)) (e : valV kvs (Sum.inr n) = some v) : DGet H a (.str n) (some v) := .inl ⟨kvs, Sum.inr n, .inl h, rfl, e.symm⟩
def sp__law_goes (_K : PySem.W.Frag) : Sp := fun vs H Q _ => ∃ (h r s t : Addr) (p : Int) (st : List (Str × Int)) (b c : Int) (tg : List (Addr × Str × Int)) (row : Row67), vs = [.ref h, .ref r] ∧ HeAt H h s t p st b c tg ∧ H r = some (.tup row.vs) ∧ st.length ≤ 900 ∧ tg.length ≤ 900 ∧
  (goOk p st b c (tg.map (·.2)) row → ∀ t' tg' H', (∀ b o, b ≠ h → b ≠ s → H b = some o → H' b = some o) → (t' = t ∨ H t' = none) → HeAt H' h s t' p (stS st row) (bS b row) (cS c row) tg' → tg'.map (·.2) = tgS (tg.map (·.2)) row → Q (.bl true) H') ∧
  (¬ goOk p st b c (tg.map (·.2)) row → ∀ H', Same H H' → Q (.bl false) H')
theorem sc__law_goes : FnScope ["_law_held", "_law_row"] ["_law_held", "_law_row"] (defScope s__law_goes) := ⟨rfl, rfl, rfl, by decide +kernel, rfl, by decide +kernel, by decide +kernel⟩
theorem ok__law_goes {fa cAccount : Addr} {fd : FuncData} (F : Fun K "_law_goes" "_law_goes" s__law_goes fa fd) (T : Txt K mg cAccount)  :
    FnOk P w K mg base CX0 1 fa fd ["_law_held", "_law_row"] (sp__law_goes K) := by
  refine F.ok sc__law_goes (fun vs H Q E h => ?_) (fun cdv A outer s H vs Q E hr h => ?_)
  · obtain ⟨h, r, s, t, p, st, b, c, tg, row, rfl, _⟩ := h
    rfl
  obtain ⟨h, r, s, t, p, st, b, c, tg, row, rfl, A, hrow, ls, lt, qq, qf⟩ := h
  have hu := hu_n hr 0 (by decide)
  have hu1 := hu_n hr 1 (by decide)
  have z2 : 2 ≤ sizeLine := small (by decide)
  refine ⟨_, (pss_cons (ps_if (pt_cmpR op_eq (pe_ix ix_tup (pv 1) pe_int (fun _ _ => rfl)) pe_str (nomark _)) (pss_one (ps_dput hu (pe_dget hu (pv 0) pe_str (fun _ _ => rfl)) (pe_ix ix_tup (pv 1) pe_int (fun _ _ => rfl)) (pe_op op_add (pe_dget2 hu (pe_dget hu (pv 0) pe_str (fun _ _ => rfl)) (pe_ix ix_tup (pv 1) pe_int (fun _ _ => rfl)) pe_int ⟨rfl, rfl, rfl, rfl⟩) (pe_ix ix_tup (pv 1) pe_int (fun _ _ => rfl))) rfl)) (pss_one (ps_if (pt_cmpR op_eq (pe_ix ix_tup (pv 1) pe_int (fun _ _ => rfl)) pe_str (nomark _)) (pss_cons (ps_dput hu (pv 0) pe_str (pe_op op_add (pe_dget hu (pv 0) pe_str (fun _ _ => rfl)) (pe_ix ix_tup (pv 1) pe_int (fun _ _ => rfl))) rfl)
  (pss_one (ps_dput hu (pv 0) pe_str (pe_op op_add (pe_dget hu (pv 0) pe_str (fun _ _ => rfl)) (pe_ix ix_tup (pv 1) pe_int (fun _ _ => rfl))) rfl))) (pss_one (ps_if (pt_cmpR op_eq (pe_ix ix_tup (pv 1) pe_int (fun _ _ => rfl)) pe_str (nomark _)) (pss_cons (ps_if (PW.pt (pw_or (pt_cmpR op_eq (pe_dget2 hu (pe_dget hu (pv 0) pe_str (fun _ _ => rfl)) (pe_ix ix_tup (pv 1) pe_int (fun _ _ => rfl)) pe_int ⟨rfl, rfl, rfl, rfl⟩) pe_int (nomark _)) (pw_or1 (pt_cmpR op_gt (pe_callB call_len_seq rfl T.len PySem.boot_len (pa_cons (pe_dget hu (pv 0) pe_str (fun _ _ => rfl)) pa_nil)) (pe_dget hu (pv 0) pe_str (fun _ _ => rfl)) (nomark _))))) (pss_one (ps_ret pe_bl)) pss_nil)
  (pss_cons (ps_if (PW.pt (pw_or (pt_cmpR op_gt (pe_ix ix_tup (pv 1) pe_int (fun _ _ => rfl)) (pe_dget hu (pv 0) pe_str (fun _ _ => rfl)) (nomark _)) (pw_or1 (pt_cmpR op_gt (pe_ix ix_tup (pv 1) pe_int (fun _ _ => rfl)) (pe_dget hu (pv 0) pe_str (fun _ _ => rfl)) (nomark _))))) (pss_one (ps_ret pe_bl)) pss_nil)
  (pss_cons (ps_dput hu (pe_dget hu (pv 0) pe_str (fun _ _ => rfl)) (pe_ix ix_tup (pv 1) pe_int (fun _ _ => rfl)) (pe_op op_sub (pe_dget hu (pe_dget hu (pv 0) pe_str (fun _ _ => rfl)) (pe_ix ix_tup (pv 1) pe_int (fun _ _ => rfl)) (fun _ _ => rfl)) pe_int) rfl)
  (pss_cons (ps_dput hu (pv 0) pe_str (pe_op op_sub (pe_dget hu (pv 0) pe_str (fun _ _ => rfl)) (pe_ix ix_tup (pv 1) pe_int (fun _ _ => rfl))) rfl)
  (pss_cons (ps_dput hu (pv 0) pe_str (pe_op op_sub (pe_dget hu (pv 0) pe_str (fun _ _ => rfl)) (pe_ix ix_tup (pv 1) pe_int (fun _ _ => rfl))) rfl)
  (pss_one (ps_dput hu (pv 0) pe_str (pe_op op_cat (pe_dget hu (pv 0) pe_str (fun _ _ => rfl)) (pe_lst (pa_cons (pe_slice sl_tup (pv 1) (po_some pe_int) (po_some pe_int)) pa_nil))) rfl))))))) (pss_cons (ps_if (pt_cmpR (op_ne_db (n := 1) hu1) (pe_slice sl_list (pe_dget hu (pv 0) pe_str (fun _ _ => rfl)) po_none (po_some pe_int)) (pe_lst (pa_cons (pe_slice sl_tup (pv 1) (po_some pe_int) (po_some pe_int)) pa_nil)) (nomark _)) (pss_one (ps_ret pe_bl)) pss_nil)
  (pss_one (ps_dput hu (pv 0) pe_str (pe_slice sl_list (pe_dget hu (pv 0) pe_str (fun _ _ => rfl)) (po_some pe_int) po_none) rfl))))))))
  (pss_one (ps_ret pe_bl))), ?_⟩
  have nth : t ≠ h := ne_of A.ht A.o (by intro z; cases z)
  have nts : t ≠ s := ne_of A.ht A.hs (by intro z; cases z)
  have nrh : r ≠ h := ne_of hrow A.o (by intro z; cases z)
  have nrs : r ≠ s := ne_of hrow A.hs (by intro z; cases z)
  have ld : (dI st).length < sizeLine := small1000 (by unfold dI; rw [List.length_map]; omega)
  have l5 : ∀ (p : Int) (s : Addr) (b c : Int) (t : Addr), (hD p s b c t).length < sizeLine := fun _ _ _ _ _ => small1000 (by show 5 ≤ 1000; decide)
  have T0 := SqT.of (K := K) hrow
  have nqh : ∀ q ∈ tg, q.1 ≠ h := fun q hq => ne_of (A.tt q hq) A.o (by intro z; cases z)
  have nqs : ∀ q ∈ tg, q.1 ≠ s := fun q hq => ne_of (A.tt q hq) A.hs (by intro z; cases z)
  cases row with
  | load p' k n =>
    have q := qq trivial
    refine ⟨_, rfl, r, _, 0, _, rfl, rfl, T0, rfl, rfl, _, rfl, iteYes rfl ?_⟩
    refine ⟨_, rfl, h, _, rfl, hg69 A.o (h_sheets _ _ _ _ _), s, rfl, .inl ⟨_, .inl A.hs⟩, _, rfl, r, _, 2, _, rfl, rfl, T0, rfl, _, DGet.k (k := Sum.inr k) A.hs, ?_⟩
    rw [valV_dI69, show ((st.lookup k).map V.int).getD (V.int 0) = V.int ((st.lookup k).getD 0) by cases st.lookup k <;> rfl]
    refine ⟨_, rfl, r, _, 3, _, rfl, rfl, T0, rfl, _, _, rfl, rfl, _, rfl, h, _, rfl, hg69 A.o (h_sheets _ _ _ _ _), _, rfl, r, _, 2, _, rfl, rfl, T0, rfl, s, _, rfl, DPut.k (k := Sum.inr k) A.hs ld, ?_⟩
    rw [← dI_upS]
    have kk : ∀ b' o, b' ≠ s → H b' = some o → upd H s (.dK (dI (upS st k ((st.lookup k).getD 0 + n)))) b' = some o := fun b' o nb e => by rw [upd_ne nb]; exact e
    exact q t tg _ (fun b' o _ n2 e => kk b' o n2 e) (.inl rfl) ⟨kk _ _ A.ne A.o, upd_same, kk _ _ nts A.ht, fun q hq => kk _ _ (nqs q hq) (A.tt q hq), A.ne⟩ rfl
  | ink p' n m =>
    have q := qq trivial
    refine ⟨_, rfl, r, _, 0, _, rfl, rfl, T0, rfl, rfl, _, rfl, iteNo (by intro z; injection z with z; exact absurd z (by decide +kernel)) ?_⟩
    refine ⟨_, rfl, r, _, 0, _, rfl, rfl, T0, rfl, rfl, _, rfl, iteYes rfl ?_⟩
    refine ⟨_, rfl, h, _, rfl, hg69 A.o (h_black _ _ _ _ _), _, rfl, r, _, 2, _, rfl, rfl, T0, rfl, _, _, rfl, rfl, _, rfl, h, _, rfl, DPut.k (k := kw "black") A.o (l5 _ _ _ _ _), ?_⟩
    rw [hp_black]
    have k1 : ∀ b' o, b' ≠ h → H b' = some o → upd H h (.dK (hD p s (b + n) c t)) b' = some o := fun b' o nb e => by rw [upd_ne nb]; exact e
    have o1 : upd H h (.dK (hD p s (b + n) c t)) h = some (.dK (hD p s (b + n) c t)) := upd_same
    generalize upd H h (.dK (hD p s (b + n) c t)) = H1 at k1 o1 ⊢
    have T1 := SqT.of (K := K) (k1 _ _ nrh hrow)
    refine ⟨_, rfl, h, _, rfl, hg69 o1 (h_tint _ _ _ _ _), _, rfl, r, _, 3, _, rfl, rfl, T1, rfl, _, _, rfl, rfl, _, rfl, h, _, rfl, DPut.k (k := kw "tint") o1 (l5 _ _ _ _ _), ?_⟩
    rw [hp_tint]
    have k2 : ∀ b' o, b' ≠ h → H b' = some o → upd H1 h (.dK (hD p s (b + n) (c + m) t)) b' = some o := fun b' o nb e => by rw [upd_ne nb]; exact k1 _ _ nb e
    exact q t tg _ (fun b' o n1 _ e => k2 b' o n1 e) (.inl rfl) ⟨upd_same, k2 _ _ (Ne.symm A.ne) A.hs, k2 _ _ nth A.ht, fun q hq => k2 _ _ (nqh q hq) (A.tt q hq), A.ne⟩ rfl
  | feed p' k j m n n2 =>
    refine ⟨_, rfl, r, _, 0, _, rfl, rfl, T0, rfl, rfl, _, rfl, iteNo (by intro z; injection z with z; exact absurd z (by decide +kernel)) ?_⟩
    refine ⟨_, rfl, r, _, 0, _, rfl, rfl, T0, rfl, rfl, _, rfl, iteNo (by intro z; injection z with z; exact absurd z (by decide +kernel)) ?_⟩
    refine ⟨_, rfl, r, _, 0, _, rfl, rfl, T0, rfl, rfl, _, rfl, iteYes rfl ?_⟩
    have g1 := DGet.k (k := Sum.inr k) A.hs
    rw [valV_dI69] at g1
    refine ⟨_, rfl, h, _, rfl, hg69 A.o (h_sheets _ _ _ _ _), s, rfl, .inl ⟨_, .inl A.hs⟩, _, rfl, r, _, 2, _, rfl, rfl, T0, rfl, _, g1, ?_⟩
    rw [show ((st.lookup k).map V.int).getD (V.int 0) = V.int ((st.lookup k).getD 0) by cases st.lookup k <;> rfl]
    refine ⟨rfl, _, rfl, ite2 (fun c1 => ?_) (fun c1 => ?_)⟩
    · refine qf (fun z => ?_) _ (Same.refl _)
      obtain ⟨⟨v, ev, v0⟩, _⟩ := z
      rw [ev] at c1
      have c2 := of_decide_eq_true c1
      injection c2 with c3
      exact v0 c3
    obtain ⟨v, ev, v0⟩ : ∃ v, st.lookup k = some v ∧ v ≠ 0 := by
      cases e : st.lookup k with
      | none => rw [e] at c1; exact absurd rfl c1
      | some v => rw [e] at c1; exact ⟨v, rfl, fun z => c1 (decide_eq_true (by rw [z]; rfl))⟩
    have g0 : DGet H s (.str k) (some (.int v)) := by rw [ev] at g1; exact g1
    refine ⟨_, rfl, h, _, rfl, hg69 A.o (h_inner _ _ _ _ _), t, _, rfl, .inl (SqL.of A.ht), _, rfl, h, _, rfl, hg69 A.o (h_path _ _ _ _ _), _, _, rfl, rfl, _, rfl, ite2 (fun c2 => ?_) (fun c2 => ?_)⟩
    · refine qf (fun z => ?_) _ (Same.refl _)
      have a1 := of_decide_eq_true c2
      have a2 := z.2.1
      rw [List.length_map] at a1 a2
      omega
    have ok2 : (tg.length : Int) ≤ p := by
      have := of_decide_eq_false (eq_false_of_ne_true c2)
      rw [List.length_map] at this
      omega
    refine ⟨_, rfl, r, _, 5, _, rfl, rfl, T0, rfl, _, rfl, h, _, rfl, hg69 A.o (h_black _ _ _ _ _), _, _, rfl, rfl, _, rfl, ite2 (fun c3 => ?_) (fun c3 => ?_)⟩
    · refine qf (fun z => ?_) _ (Same.refl _)
      have a1 := of_decide_eq_true c3
      have a2 := z.2.2.1
      omega
    refine ⟨_, rfl, r, _, 6, _, rfl, rfl, T0, rfl, _, rfl, h, _, rfl, hg69 A.o (h_tint _ _ _ _ _), _, _, rfl, rfl, _, rfl, ite2 (fun c4 => ?_) (fun c4 => ?_)⟩
    · refine qf (fun z => ?_) _ (Same.refl _)
      have a1 := of_decide_eq_true c4
      have a2 := z.2.2.2
      omega
    have q := qq ⟨⟨v, ev, v0⟩, by rw [List.length_map]; exact ok2, by have := of_decide_eq_false (eq_false_of_ne_true c3); omega, by have := of_decide_eq_false (eq_false_of_ne_true c4); omega⟩
    refine ⟨_, rfl, h, _, rfl, hg69 A.o (h_sheets _ _ _ _ _), _, rfl, r, _, 2, _, rfl, rfl, T0, rfl, s, _, rfl, g0, _, _, rfl, rfl, _, rfl, h, _, rfl, hg69 A.o (h_sheets _ _ _ _ _), _, rfl, r, _, 2, _, rfl, rfl, T0, rfl, s, _, rfl, DPut.k (k := Sum.inr k) A.hs ld, ?_⟩
    rw [← dI_upS]
    have k1 : ∀ b' o, b' ≠ s → H b' = some o → upd H s (.dK (dI (upS st k (v - 1)))) b' = some o := fun b' o nb e => by rw [upd_ne nb]; exact e
    have hs1 : upd H s (.dK (dI (upS st k (v - 1)))) s = some (.dK (dI (upS st k (v - 1)))) := upd_same
    generalize upd H s (.dK (dI (upS st k (v - 1)))) = H1 at k1 hs1 ⊢
    have o1 := k1 _ _ A.ne A.o
    have r1 := k1 _ _ nrs hrow
    have T1 := SqT.of (K := K) r1
    refine ⟨_, rfl, h, _, rfl, hg69 o1 (h_black _ _ _ _ _), _, rfl, r, _, 5, _, rfl, rfl, T1, rfl, _, _, rfl, rfl, _, rfl, h, _, rfl, DPut.k (k := kw "black") o1 (l5 _ _ _ _ _), ?_⟩
    rw [hp_black]
    have k2 : ∀ b' o, b' ≠ h → H1 b' = some o → upd H1 h (.dK (hD p s (b - n) c t)) b' = some o := fun b' o nb e => by rw [upd_ne nb]; exact e
    have o2 : upd H1 h (.dK (hD p s (b - n) c t)) h = some (.dK (hD p s (b - n) c t)) := upd_same
    generalize upd H1 h (.dK (hD p s (b - n) c t)) = H2 at k2 o2 ⊢
    have r2 := k2 _ _ nrh r1
    have T2 := SqT.of (K := K) r2
    refine ⟨_, rfl, h, _, rfl, hg69 o2 (h_tint _ _ _ _ _), _, rfl, r, _, 6, _, rfl, rfl, T2, rfl, _, _, rfl, rfl, _, rfl, h, _, rfl, DPut.k (k := kw "tint") o2 (l5 _ _ _ _ _), ?_⟩
    rw [hp_tint]
    have k3 : ∀ b' o, b' ≠ h → H2 b' = some o → upd H2 h (.dK (hD p s (b - n) (c - n2) t)) b' = some o := fun b' o nb e => by rw [upd_ne nb]; exact e
    have o3 : upd H2 h (.dK (hD p s (b - n) (c - n2) t)) h = some (.dK (hD p s (b - n) (c - n2) t)) := upd_same
    generalize upd H2 h (.dK (hD p s (b - n) (c - n2) t)) = H3 at k3 o3 ⊢
    have r3 := k3 _ _ nrh r2
    refine ⟨_, rfl, h, _, rfl, hg69 o3 (h_inner _ _ _ _ _), _, rfl, _, rfl, _, rfl, r, _, rfl, SqT.of r3, (fun z => absurd (show (3 : Nat) = 0 from z.1) (by decide)), fun u nu => ⟨small (by show 1 ≤ 1000; decide), fun l nl => ?_⟩⟩
    have ec : cutV (Row67.feed p' k j m n n2).vs (some 3) (some 5) = [V.str j, V.int m] := rfl
    rw [ec] at nl ⊢
    have s4 := same_new nu (.tup [V.str j, V.int m])
    have hu4 : upd H3 u (.tup [V.str j, V.int m]) u = some (.tup [V.str j, V.int m]) := upd_same
    have s5 := same_new nl (.lst [V.ref u])
    have hl5 : upd (upd H3 u (.tup [V.str j, V.int m])) l (.lst [V.ref u]) l = some (.lst [V.ref u]) := upd_same
    have t3 := k3 _ _ nth (k2 _ _ nth (k1 _ _ nts A.ht))
    refine ⟨t, l, _, _, rfl, rfl, s5 _ _ (s4 _ _ t3), hl5, small (by rw [List.length_map]; show tg.length + 1 ≤ 1000; omega), fun t' nt' => ?_⟩
    have s6 := same_new nt' (.lst ((tg.map fun q => V.ref q.1) ++ [V.ref u]))
    have ht6 : upd (upd (upd H3 u (.tup [V.str j, V.int m])) l (.lst [V.ref u])) t' (.lst ((tg.map fun q => V.ref q.1) ++ [V.ref u])) t' = some (.lst ((tg.map fun q => V.ref q.1) ++ [V.ref u])) := upd_same
    have s36 := s4.trans (s5.trans s6)
    have hu6 := s6 _ _ (s5 _ _ hu4)
    have fr3 : ∀ b', H3 b' = none → H b' = none := fun b' hb => by
      cases e : H b' with
      | none => rfl
      | some o =>
        by_cases c1 : b' = h
        · rw [c1, o3] at hb; cases hb
        · by_cases c2 : b' = s
          · rw [c2, k3 _ _ (Ne.symm A.ne) (k2 _ _ (Ne.symm A.ne) hs1)] at hb; cases hb
          · rw [k3 _ _ c1 (k2 _ _ c1 (k1 _ _ c2 e))] at hb; cases hb
    have ft' : H t' = none := fr3 _ ((s4.trans s5).free nt')
    generalize upd (upd (upd H3 u (.tup [V.str j, V.int m])) l (.lst [V.ref u])) t' (.lst ((tg.map fun q => V.ref q.1) ++ [V.ref u])) = H6 at s36 ht6 hu6 ⊢
    have o6 := s36 _ _ o3
    refine ⟨_, rfl, h, _, rfl, DPut.k (k := kw "inner") o6 (l5 _ _ _ _ _), ?_⟩
    rw [hp_inner]
    have k7 : ∀ b' o, b' ≠ h → H6 b' = some o → upd H6 h (.dK (hD p s (b - n) (c - n2) t')) b' = some o := fun b' o nb e => by rw [upd_ne nb]; exact e
    have all : ∀ b' o, b' ≠ h → b' ≠ s → H b' = some o → upd H6 h (.dK (hD p s (b - n) (c - n2) t')) b' = some o := fun b' o n1 n2 e => k7 _ _ n1 (s36 _ _ (k3 _ _ n1 (k2 _ _ n1 (k1 _ _ n2 e))))
    refine q t' (tg ++ [(u, j, m)]) _ all (.inr ft') ⟨?_, ?_, ?_, fun q hq => ?_, A.ne⟩ (by rw [List.map_append]; rfl)
    · rw [upd_same]
      show some (HO.dK (hD p s (b - n) (c - n2) t')) = some (HO.dK (hD p s (b + -n) (c + -n2) t'))
      rw [Int.sub_eq_add_neg, Int.sub_eq_add_neg]
    · rw [k7 _ _ (Ne.symm A.ne) (s36 _ _ (k3 _ _ (Ne.symm A.ne) (k2 _ _ (Ne.symm A.ne) hs1)))]
      show some (HO.dK (dI (upS st k (v - 1)))) = some (HO.dK (dI (upS st k ((st.lookup k).getD 0 - 1))))
      rw [ev]
      rfl
    · rw [k7 _ _ (ne_of ht6 o6 (by intro z; cases z)) ht6, List.map_append]
      rfl
    · rcases List.mem_append.mp hq with z | z
      · exact all _ _ (nqh q z) (nqs q z) (A.tt q z)
      · rw [List.mem_singleton.mp z]
        exact k7 _ _ (ne_of hu6 o6 (by intro z; cases z)) hu6
  | out p' j m =>
    refine ⟨_, rfl, r, _, 0, _, rfl, rfl, T0, rfl, rfl, _, rfl, iteNo (by intro z; injection z with z; exact absurd z (by decide +kernel)) ?_⟩
    refine ⟨_, rfl, r, _, 0, _, rfl, rfl, T0, rfl, rfl, _, rfl, iteNo (by intro z; injection z with z; exact absurd z (by decide +kernel)) ?_⟩
    refine ⟨_, rfl, r, _, 0, _, rfl, rfl, T0, rfl, rfl, _, rfl, iteNo (by intro z; injection z with z; exact absurd z (by decide +kernel)) ?_⟩
    refine ⟨_, rfl, h, _, rfl, hg69 A.o (h_inner _ _ _ _ _), _, rfl, t, _, rfl, SqL.of A.ht, fun l1 nl1 => ?_⟩
    rw [show cutV (tg.map fun q => V.ref q.1) none (some 1) = (tg.map fun q => V.ref q.1).take 1 from cut_to69 _ 1]
    have s1 := same_new nl1 (.lst ((tg.map fun q => V.ref q.1).take 1))
    have hl1 : upd H l1 (.lst ((tg.map fun q => V.ref q.1).take 1)) l1 = some (.lst ((tg.map fun q => V.ref q.1).take 1)) := upd_same
    generalize upd H l1 (.lst ((tg.map fun q => V.ref q.1).take 1)) = H1 at s1 hl1 ⊢
    refine ⟨_, rfl, _, rfl, _, rfl, r, _, rfl, SqT.of (s1 _ _ hrow), (fun z => absurd (show (2 : Nat) = 0 from z.1) (by decide)), fun u nu => ⟨small (by show 1 ≤ 1000; decide), fun l2 nl2 => ?_⟩⟩
    have ec : cutV (Row67.out p' j m).vs (some 2) (some 4) = [V.str j, V.int m] := rfl
    rw [ec] at nl2 ⊢
    have s2 := same_new nu (.tup [V.str j, V.int m])
    have hu2 : upd H1 u (.tup [V.str j, V.int m]) u = some (.tup [V.str j, V.int m]) := upd_same
    generalize upd H1 u (.tup [V.str j, V.int m]) = H2 at s2 hu2 nl2 ⊢
    have s3 := same_new nl2 (.lst [V.ref u])
    have hl3 : upd H2 l2 (.lst [V.ref u]) l2 = some (.lst [V.ref u]) := upd_same
    generalize upd H2 l2 (.lst [V.ref u]) = H3 at s3 hl3 ⊢
    have s03 := s1.trans (s2.trans s3)
    refine first_tag (neg := true) (s3 _ _ (s2 _ _ hl1)) (fun q hq => s03 _ _ (A.tt q hq)) hl3 (s3 _ _ hu2) ⟨_, rfl, ?_⟩
    cases ed : decide ((tg.map (·.2)).take 1 = [(j, m)]) with
    | false =>
      refine iteT (qf (fun z => ?_) _ s03)
      obtain ⟨rr, er⟩ := z
      rw [er] at ed
      exact absurd rfl (of_decide_eq_false ed)
    | true =>
    have er := of_decide_eq_true ed
    obtain ⟨q0, tg1, rfl, e0⟩ : ∃ q0 tg1, tg = q0 :: tg1 ∧ q0.2 = (j, m) := by
      cases tg with
      | nil => cases er
      | cons q0 tg1 => injection er with e1 _; exact ⟨q0, tg1, rfl, e1⟩
    have q := qq ⟨tg1.map (·.2), by rw [List.map_cons, e0]⟩
    refine iteF ?_
    have A3 := A.same s03
    refine ⟨_, rfl, h, _, rfl, hg69 A3.o (h_inner _ _ _ _ _), _, rfl, t, _, rfl, SqL.of A3.ht, fun t' nt' => ?_⟩
    have c2 : cutV ((q0 :: tg1).map fun q => V.ref q.1) (some 1) none = tg1.map fun q => V.ref q.1 := cut_from69 _
    rw [c2]
    have s4 := same_new nt' (.lst (tg1.map fun q => V.ref q.1))
    have ht4 : upd H3 t' (.lst (tg1.map fun q => V.ref q.1)) t' = some (.lst (tg1.map fun q => V.ref q.1)) := upd_same
    generalize upd H3 t' (.lst (tg1.map fun q => V.ref q.1)) = H4 at s4 ht4 ⊢
    have s04 := s03.trans s4
    have o4 := s04 _ _ A.o
    refine ⟨_, rfl, h, _, rfl, DPut.k (k := kw "inner") o4 (l5 _ _ _ _ _), ?_⟩
    rw [hp_inner]
    have k5 : ∀ b' o, b' ≠ h → H4 b' = some o → upd H4 h (.dK (hD p s b c t')) b' = some o := fun b' o nb e => by rw [upd_ne nb]; exact e
    refine q t' tg1 _ (fun b' o n1 _ e => k5 _ _ n1 (s04 _ _ e)) (.inr (s03.free nt')) ⟨upd_same, k5 _ _ (Ne.symm A.ne) (s04 _ _ A.hs), k5 _ _ (ne_of ht4 o4 (by intro z; cases z)) ht4, fun q hq => k5 _ _ (nqh q (List.mem_cons_of_mem _ hq)) (s04 _ _ (A.tt q (List.mem_cons_of_mem _ hq))), A.ne⟩ rfl
  | lost p' j m =>
    refine ⟨_, rfl, r, _, 0, _, rfl, rfl, T0, rfl, rfl, _, rfl, iteNo (by intro z; injection z with z; exact absurd z (by decide +kernel)) ?_⟩
    refine ⟨_, rfl, r, _, 0, _, rfl, rfl, T0, rfl, rfl, _, rfl, iteNo (by intro z; injection z with z; exact absurd z (by decide +kernel)) ?_⟩
    refine ⟨_, rfl, r, _, 0, _, rfl, rfl, T0, rfl, rfl, _, rfl, iteNo (by intro z; injection z with z; exact absurd z (by decide +kernel)) ?_⟩
    refine ⟨_, rfl, h, _, rfl, hg69 A.o (h_inner _ _ _ _ _), _, rfl, t, _, rfl, SqL.of A.ht, fun l1 nl1 => ?_⟩
    rw [show cutV (tg.map fun q => V.ref q.1) none (some 1) = (tg.map fun q => V.ref q.1).take 1 from cut_to69 _ 1]
    have s1 := same_new nl1 (.lst ((tg.map fun q => V.ref q.1).take 1))
    have hl1 : upd H l1 (.lst ((tg.map fun q => V.ref q.1).take 1)) l1 = some (.lst ((tg.map fun q => V.ref q.1).take 1)) := upd_same
    generalize upd H l1 (.lst ((tg.map fun q => V.ref q.1).take 1)) = H1 at s1 hl1 ⊢
    refine ⟨_, rfl, _, rfl, _, rfl, r, _, rfl, SqT.of (s1 _ _ hrow), (fun z => absurd (show (2 : Nat) = 0 from z.1) (by decide)), fun u nu => ⟨small (by show 1 ≤ 1000; decide), fun l2 nl2 => ?_⟩⟩
    have ec : cutV (Row67.lost p' j m).vs (some 2) (some 4) = [V.str j, V.int m] := rfl
    rw [ec] at nl2 ⊢
    have s2 := same_new nu (.tup [V.str j, V.int m])
    have hu2 : upd H1 u (.tup [V.str j, V.int m]) u = some (.tup [V.str j, V.int m]) := upd_same
    generalize upd H1 u (.tup [V.str j, V.int m]) = H2 at s2 hu2 nl2 ⊢
    have s3 := same_new nl2 (.lst [V.ref u])
    have hl3 : upd H2 l2 (.lst [V.ref u]) l2 = some (.lst [V.ref u]) := upd_same
    generalize upd H2 l2 (.lst [V.ref u]) = H3 at s3 hl3 ⊢
    have s03 := s1.trans (s2.trans s3)
    refine first_tag (neg := true) (s3 _ _ (s2 _ _ hl1)) (fun q hq => s03 _ _ (A.tt q hq)) hl3 (s3 _ _ hu2) ⟨_, rfl, ?_⟩
    cases ed : decide ((tg.map (·.2)).take 1 = [(j, m)]) with
    | false =>
      refine iteT (qf (fun z => ?_) _ s03)
      obtain ⟨rr, er⟩ := z
      rw [er] at ed
      exact absurd rfl (of_decide_eq_false ed)
    | true =>
    have er := of_decide_eq_true ed
    obtain ⟨q0, tg1, rfl, e0⟩ : ∃ q0 tg1, tg = q0 :: tg1 ∧ q0.2 = (j, m) := by
      cases tg with
      | nil => cases er
      | cons q0 tg1 => injection er with e1 _; exact ⟨q0, tg1, rfl, e1⟩
    have q := qq ⟨tg1.map (·.2), by rw [List.map_cons, e0]⟩
    refine iteF ?_
    have A3 := A.same s03
    refine ⟨_, rfl, h, _, rfl, hg69 A3.o (h_inner _ _ _ _ _), _, rfl, t, _, rfl, SqL.of A3.ht, fun t' nt' => ?_⟩
    have c2 : cutV ((q0 :: tg1).map fun q => V.ref q.1) (some 1) none = tg1.map fun q => V.ref q.1 := cut_from69 _
    rw [c2]
    have s4 := same_new nt' (.lst (tg1.map fun q => V.ref q.1))
    have ht4 : upd H3 t' (.lst (tg1.map fun q => V.ref q.1)) t' = some (.lst (tg1.map fun q => V.ref q.1)) := upd_same
    generalize upd H3 t' (.lst (tg1.map fun q => V.ref q.1)) = H4 at s4 ht4 ⊢
    have s04 := s03.trans s4
    have o4 := s04 _ _ A.o
    refine ⟨_, rfl, h, _, rfl, DPut.k (k := kw "inner") o4 (l5 _ _ _ _ _), ?_⟩
    rw [hp_inner]
    have k5 : ∀ b' o, b' ≠ h → H4 b' = some o → upd H4 h (.dK (hD p s b c t')) b' = some o := fun b' o nb e => by rw [upd_ne nb]; exact e
    refine q t' tg1 _ (fun b' o n1 _ e => k5 _ _ n1 (s04 _ _ e)) (.inr (s03.free nt')) ⟨upd_same, k5 _ _ (Ne.symm A.ne) (s04 _ _ A.hs), k5 _ _ (ne_of ht4 o4 (by intro z; cases z)) ht4, fun q hq => k5 _ _ (nqh q (List.mem_cons_of_mem _ hq)) (s04 _ _ (A.tt q (List.mem_cons_of_mem _ hq))), A.ne⟩ rfl

end
end My

namespace My
open PySem L2
open Blk (sg sg_inj sg_app)
section
variable {P : Program} {w : World} {K : PySem.W.Frag} {mg : Str → Option Value} {base : Heap}
/-! ### what the law keeps of the printers -/
theorem right_snoc {ps : List (Str × Int)} {rows : List Row67} {r : Row67} {pth : Int} (h : ∀ j, j < rows.length → rightAt ps rows j) (el : ps.lookup r.pr = some pth) (hr : goOk pth (gRun r.pr rows).st (gRun r.pr rows).b (gRun r.pr rows).c (gRun r.pr rows).tg r) : ∀ j, j < (rows ++ [r]).length → rightAt ps (rows ++ [r]) j := by
  intro j hj
  by_cases c : j < rows.length
  · obtain ⟨r', pth', e1, e2, e3⟩ := h j c
    refine ⟨r', pth', by rw [List.getElem?_append_left c]; exact e1, e2, ?_⟩
    rw [List.take_append_of_le_length (Nat.le_of_lt c)]
    exact e3
  · rw [List.length_append] at hj
    have hj' : j < rows.length + 1 := hj
    have ei : j = rows.length := by omega
    subst ei
    refine ⟨r, pth, by rw [List.getElem?_append_right (Nat.le_refl _), Nat.sub_self]; rfl, el, ?_⟩
    rw [List.take_append_of_le_length (Nat.le_refl _), List.take_of_length_le (Nat.le_refl _)]
    exact hr
theorem lookup_nd : ∀ {ps : List (Str × Int)} {q : Str × Int}, (ps.map (·.1)).Nodup → q ∈ ps → ps.lookup q.1 = some q.2
  | [], _, _, h => by cases h
  | s :: r, q, nd, h => by
    rw [List.map_cons, List.nodup_cons] at nd
    show List.lookup q.1 ((s.1, s.2) :: r) = _
    rw [List.lookup_cons]
    rcases List.mem_cons.mp h with rfl | h
    · rw [beq_self_eq_true]
    · rw [beq_eq_false_iff_ne.mpr (fun z => nd.1 (by rw [← z]; exact List.mem_map_of_mem h))]
      exact lookup_nd nd.2 h
/-! ### the dict of all that is held -/
structure HE where
  p : Str
  h : Addr
  s : Addr
  t : Addr
  path : Int
  st : List (Str × Int)
  b : Int
  c : Int
  tg : List (Addr × Str × Int)
def HE.g (e : HE) : G69 := ⟨e.st, e.b, e.c, e.tg.map (·.2)⟩
def heD (es : List HE) : List (Key × V) := es.map fun e => ((Sum.inr e.p : Key), V.ref e.h)
theorem val_he : ∀ {es : List HE} {p : Str} {u : V}, valV (heD es) (Sum.inr p : Key) = some u → ∃ e ∈ es, e.p = p ∧ u = .ref e.h
  | [], _, _, h => by cases h
  | w :: r, p, u, h => by
    by_cases c : w.p = p
    · have e : valV (heD (w :: r)) (Sum.inr p : Key) = some (.ref w.h) := valV_pos (congrArg Sum.inr c)
      rw [e] at h
      exact ⟨w, List.mem_cons_self, c, (Option.some.inj h).symm⟩
    · have e : valV (heD (w :: r)) (Sum.inr p : Key) = valV (heD r) (Sum.inr p : Key) := valV_neg (fun z => c (by injection z))
      rw [e] at h
      obtain ⟨w', m, a, b⟩ := val_he h
      exact ⟨w', List.mem_cons_of_mem _ m, a, b⟩
theorem val_he_in : ∀ {es : List HE} {e : HE}, (es.map (·.p)).Nodup → e ∈ es → valV (heD es) (Sum.inr e.p : Key) = some (.ref e.h)
  | [], _, _, h => by cases h
  | x :: r, w, nd, h => by
    rw [List.map_cons, List.nodup_cons] at nd
    rcases List.mem_cons.mp h with rfl | h
    · exact valV_pos rfl
    · exact (valV_neg (fun z => nd.1 (by injection z with z; rw [z]; exact List.mem_map_of_mem h))).trans (val_he_in nd.2 h)
theorem val_he_no {es : List HE} {p : Str} (h : valV (heD es) (Sum.inr p : Key) = none) (nd : (es.map (·.p)).Nodup) : ¬ p ∈ es.map (·.p) := fun m => by
  obtain ⟨e, he, ep⟩ := List.mem_map.mp m
  have := val_he_in nd he
  rw [ep, h] at this
  cases this
structure HsAt (H0 G : Hp) (d : Addr) (es : List HE) : Prop where
  d0 : H0 d = none
  o : G d = some (.dK (heD es))
  a : ∀ e ∈ es, HeAt G e.h e.s e.t e.path e.st e.b e.c e.tg
  n : ∀ e ∈ es, H0 e.h = none ∧ H0 e.s = none
  nd : (es.map (·.p)).Nodup
  na : ∀ e ∈ es, ∀ f ∈ es, e.p ≠ f.p → e.h ≠ f.h ∧ e.h ≠ f.s ∧ e.s ≠ f.h ∧ e.s ≠ f.s
  nx : ∀ e ∈ es, e.h ≠ d ∧ e.s ≠ d
theorem HsAt.same {H0 G G' : Hp} {d : Addr} {es : List HE} (A : HsAt H0 G d es) (s : Same G G') : HsAt H0 G' d es := ⟨A.d0, s _ _ A.o, fun e h => (A.a e h).same s, A.n, A.nd, A.na, A.nx⟩
theorem HsAt.old {H0 H1 G : Hp} {d : Addr} {es : List HE} (A : HsAt H1 G d es) (s : Same H0 H1) : HsAt H0 G d es := ⟨s.free A.d0, A.o, A.a, fun e h => ⟨s.free (A.n e h).1, s.free (A.n e h).2⟩, A.nd, A.na, A.nx⟩
/-- what is off the held dicts stays -/
def OffE (es : List HE) (G G' : Hp) : Prop := ∀ b o, (∀ e ∈ es, b ≠ e.h ∧ b ≠ e.s) → G b = some o → G' b = some o
theorem HeAt.off {H H' : Hp} {h s t : Addr} {p : Int} {st : List (Str × Int)} {b c : Int} {tg : List (Addr × Str × Int)} (A : HeAt H h s t p st b c tg) {h' s' : Addr} (k : ∀ b o, b ≠ h' → b ≠ s' → H b = some o → H' b = some o) (n1 : h ≠ h') (n2 : h ≠ s') (n3 : s ≠ h') (n4 : s ≠ s') {o1 o2 : List (Key × V)} (e1 : H h' = some (.dK o1)) (e2 : H s' = some (.dK o2)) : HeAt H' h s t p st b c tg :=
  ⟨k _ _ n1 n2 A.o, k _ _ n3 n4 A.hs, k _ _ (ne_of A.ht e1 (by intro z; cases z)) (ne_of A.ht e2 (by intro z; cases z)) A.ht, fun q hq => k _ _ (ne_of (A.tt q hq) e1 (by intro z; cases z)) (ne_of (A.tt q hq) e2 (by intro z; cases z)) (A.tt q hq), A.ne⟩
def esPut (e' : HE) (es : List HE) : List HE := es.map fun f => if f.p = e'.p then e' else f
theorem esPut_p {e' : HE} {es : List HE} : (esPut e' es).map (·.p) = es.map (·.p) := by
  unfold esPut
  rw [List.map_map]
  refine List.map_congr_left fun f _ => ?_
  show (if f.p = e'.p then e' else f).p = f.p
  split
  · rename_i c; exact c.symm
  · rfl
theorem HsAt.go {H0 G G' : Hp} {d : Addr} {es : List HE} {e e' : HE} (A : HsAt H0 G d es) (he : e ∈ es) (k : ∀ b o, b ≠ e.h → b ≠ e.s → G b = some o → G' b = some o) (ep : e'.p = e.p) (eh : e'.h = e.h) (es' : e'.s = e.s) (A' : HeAt G' e'.h e'.s e'.t e'.path e'.st e'.b e'.c e'.tg) : HsAt H0 G' d (esPut e' es) := by
  have cs : ∀ f ∈ esPut e' es, f = e' ∨ (f ∈ es ∧ f.p ≠ e.p) := fun f h => by
    obtain ⟨f0, h0, rfl⟩ := List.mem_map.mp h
    by_cases c : f0.p = e'.p
    · rw [if_pos c]; exact .inl rfl
    · rw [if_neg c]; exact .inr ⟨h0, by rw [← ep]; exact c⟩
  have ao := (A.a e he).o
  have as := (A.a e he).hs
  refine ⟨A.d0, ?_, fun f h => ?_, fun f h => ?_, ?_, fun f h f2 h2 ne => ?_, fun f h => ?_⟩
  · rw [k _ _ (Ne.symm (A.nx e he).1) (Ne.symm (A.nx e he).2) A.o]
    unfold heD esPut
    rw [List.map_map]
    refine congrArg (fun z => some (HO.dK z)) (List.map_congr_left fun f hf => ?_)
    show _ = ((Sum.inr (if f.p = e'.p then e' else f).p : Key), V.ref (if f.p = e'.p then e' else f).h)
    by_cases c : f.p = e'.p
    · rw [if_pos c]
      obtain rfl := inj_nd A.nd hf he (c.trans ep)
      rw [ep, eh]
    · rw [if_neg c]
  · rcases cs f h with rfl | ⟨h', n'⟩
    · exact A'
    · obtain ⟨n1, n2, n3, n4⟩ := A.na f h' e he n'
      exact (A.a f h').off k n1 n2 n3 n4 ao as
  · rcases cs f h with rfl | ⟨h', _⟩
    · rw [eh, es']; exact A.n e he
    · exact A.n f h'
  · rw [esPut_p]; exact A.nd
  · rcases cs f h with rfl | ⟨h', n'⟩
    · rcases cs f2 h2 with rfl | ⟨h2', n2'⟩
      · exact absurd rfl ne
      · rw [eh, es']
        exact A.na e he f2 h2' (Ne.symm n2')
    · rcases cs f2 h2 with rfl | ⟨h2', n2'⟩
      · rw [eh, es']
        exact A.na f h' e he n'
      · exact A.na f h' f2 h2' ne
  · rcases cs f h with rfl | ⟨h', _⟩
    · rw [eh, es']; exact A.nx e he
    · exact A.nx f h'
/-- a printer more -/
theorem HsAt.put {H0 G : Hp} {d : Addr} {es : List HE} {e : HE} (A : HsAt H0 G d es) (np : ¬ e.p ∈ es.map (·.p)) (Ae : HeAt G e.h e.s e.t e.path e.st e.b e.c e.tg) (ne : H0 e.h = none ∧ H0 e.s = none) (nf : ∀ f ∈ es, f.h ≠ e.h ∧ f.h ≠ e.s ∧ f.s ≠ e.h ∧ f.s ≠ e.s) (nx : e.h ≠ d ∧ e.s ≠ d) : HsAt H0 (upd G d (.dK (heD es ++ [((Sum.inr e.p : Key), V.ref e.h)]))) d (es ++ [e]) := by
  have k : ∀ b o, b ≠ d → b ≠ d → G b = some o → upd G d (.dK (heD es ++ [((Sum.inr e.p : Key), V.ref e.h)])) b = some o := fun b o nb _ e => by rw [upd_ne nb]; exact e
  refine ⟨A.d0, ?_, fun f h => ?_, fun f h => ?_, ?_, fun f h f2 h2 n => ?_, fun f h => ?_⟩
  · rw [upd_same]
    unfold heD
    rw [List.map_append]
    rfl
  · rcases List.mem_append.mp h with h | h
    · exact (A.a f h).off k (A.nx f h).1 (A.nx f h).1 (A.nx f h).2 (A.nx f h).2 A.o A.o
    · rw [List.mem_singleton.mp h]
      exact Ae.off k nx.1 nx.1 nx.2 nx.2 A.o A.o
  · rcases List.mem_append.mp h with h | h
    · exact A.n f h
    · rw [List.mem_singleton.mp h]; exact ne
  · rw [List.map_append]
    refine List.nodup_append.mpr ⟨A.nd, by simp, fun a ha b hb z => ?_⟩
    rw [List.mem_singleton.mp hb] at z
    exact np (by rw [z] at ha; exact ha)
  · rcases List.mem_append.mp h with h | h
    · rcases List.mem_append.mp h2 with h2 | h2
      · exact A.na f h f2 h2 n
      · rw [List.mem_singleton.mp h2]; exact nf f h
    · rcases List.mem_append.mp h2 with h2 | h2
      · rw [List.mem_singleton.mp h]
        obtain ⟨a, b, c, d⟩ := nf f2 h2
        exact ⟨a.symm, c.symm, b.symm, d.symm⟩
      · rw [List.mem_singleton.mp h, List.mem_singleton.mp h2] at n
        exact absurd rfl n
  · rcases List.mem_append.mp h with h | h
    · exact A.nx f h
    · rw [List.mem_singleton.mp h]; exact nx
/-! ### a sheet fed -/
theorem at_cons0 (x : V) (r : List V) : atI (x :: r) 0 = some x := by
  have e : ixN (x :: r).length 0 = some 0 := ixN_nat (j := 0) (Nat.zero_lt_succ _)
  unfold atI
  rw [e]
  rfl
def StrsAt (H : Hp) (a : Addr) (ns : List Str) : Prop := H a = some (.lst (ns.map V.str))
theorem in_three {x y z v : V} {j : Nat} (h : [x, y, z][j]? = some v) : v = x ∨ v = y ∨ v = z := by
  match j, h with
  | 0, h => exact .inl (Option.some.inj h).symm
  | 1, h => exact .inr (.inl (Option.some.inj h).symm)
  | 2, h => exact .inr (.inr (Option.some.inj h).symm)
  | j + 3, h => cases h
def sp__law_feed (K : PySem.W.Frag) : Sp := fun vs H Q _ => ∃ (a h s t kd jb : Addr) (k : Int) (pr : Str) (kinds jobs : List Str) (p : Int) (st : List (Str × Int)) (b c : Int) (tg : List (Addr × Str × Int)), vs = [.ref a, .int k, .ref h, .ref kd, .ref jb, .str pr] ∧ Scr K H a ∧ 0 ≤ k ∧ k ≤ 50000 ∧ HeAt H h s t p st b c tg ∧ StrsAt H kd kinds ∧ kinds.length ≤ 300 ∧ StrsAt H jb jobs ∧ 0 < jobs.length ∧ jobs.length ≤ 300 ∧ 0 ≤ b ∧ 0 ≤ c ∧
  (∀ H', Same H H' → Q .non H') ∧ ∀ r row H', Same H H' → H r = none → H' r = some (.tup row.vs) → row.pr = pr → goOk p st b c (tg.map (·.2)) row → 0 ≤ bS b row → 0 ≤ cS c row → nnR row → Q (.ref r) H'
theorem sc__law_feed : FnScope ["_law_script", "_law_k", "_law_held", "_law_kinds", "_law_jobs", "_law_printer", "_law_full", "_law_kind", "_law_name", "_law_black", "_law_tint"] ["_law_script", "_law_k", "_law_held", "_law_kinds", "_law_jobs", "_law_printer"] (defScope s__law_feed) := ⟨rfl, rfl, rfl, by decide +kernel, rfl, by decide +kernel, by decide +kernel⟩
theorem ok__law_feed {fa cAccount : Addr} {fd : FuncData} (F : Fun K "_law_feed" "_law_feed" s__law_feed fa fd) (T : Txt K mg cAccount) (D__law_draw : Dfn P w K mg base 1 "_law_draw" ["_law_script", "_law_k", "_law_many"] (sp__law_draw K)) (D__law_number : Dfn P w K mg base 2 "_law_number" ["_law_script", "_law_k"] (sp__law_number K)) :
    FnOk P w K mg base CX0 3 fa fd ["_law_script", "_law_k", "_law_held", "_law_kinds", "_law_jobs", "_law_printer"] (sp__law_feed K) := by
  refine F.ok sc__law_feed (fun vs H Q E h => ?_) (fun cdv A outer s H vs Q E hr h => ?_)
  · obtain ⟨a, h, s, t, kd, jb, k, pr, kinds, jobs, p, st, b, c, tg, rfl, _⟩ := h
    rfl
  have hu := hu_n hr 0 (by decide)
  obtain ⟨a, h, s, t, kd, jb, k, pr, kinds, jobs, p, st, b, c, tg, rfl, hS, k0, k1, A, hkd, lk, hjb, lj0, lj, b0, c0, qn, q⟩ := h
  refine ⟨_, (pss_cons (ps_comp (i := 6) (frees := [("_law_held", 2)]) ⟨by decide +kernel, rfl, rfl, by decide +kernel, ⟨⟨rfl, rfl, rfl, by decide +kernel⟩, trivial⟩, by decide +kernel, cellsFor_at rfl, rfl⟩ sc__law_feed.nd rfl rfl rfl (pi_list (pv 3)) (fun _ _ _ _ => by exact (pifs_one (pt_cmpR op_gt (pe_dget2 hu (pe_dget hu (pv 1) pe_str (fun _ _ => rfl)) (pv 0) pe_int ⟨rfl, rfl, rfl, rfl⟩) pe_int (nomark _)))) (fun _ _ _ _ => by exact (pv 0)))
  (pss_cons (ps_if (PW.pt (pw_or (pt_cmpR op_eq (pe_callB call_len_seq rfl T.len PySem.boot_len (pa_cons (pv 6) pa_nil)) pe_int (nomark _)) (pw_or1 (pt_cmpR op_gt (pe_callB call_len_seq rfl T.len PySem.boot_len (pa_cons (pe_dget hu (pv 2) pe_str (fun _ _ => rfl)) pa_nil)) (pe_dget hu (pv 2) pe_str (fun _ _ => rfl)) (nomark _))))) (pss_one (ps_ret pe_non)) pss_nil)
  (pss_cons (ps_set (i := 7) sc__law_feed.nd rfl (by first | exact Or.inl rfl | exact Or.inr rfl) (pe_ix ix_listA (pv 6) (pe_callD D__law_draw (hr.mono (by decide)) rfl (pa_cons (pv 0) (pa_cons (pv 1) (pa_cons (pe_callB call_len_seq rfl T.len PySem.boot_len (pa_cons (pv 6) pa_nil)) pa_nil)))) (fun _ _ => rfl)))
  (pss_cons (ps_set (i := 8) sc__law_feed.nd rfl (by first | exact Or.inl rfl | exact Or.inr rfl) (pe_ix ix_listA (pv 4) (pe_callD D__law_draw (hr.mono (by decide)) rfl (pa_cons (pv 0) (pa_cons (pe_op op_add (pv 1) pe_int) (pa_cons (pe_callB call_len_seq rfl T.len PySem.boot_len (pa_cons (pv 4) pa_nil)) pa_nil)))) (fun _ _ => rfl)))
  (pss_cons (ps_set (i := 9) sc__law_feed.nd rfl (by first | exact Or.inl rfl | exact Or.inr rfl) (pe_ix ix_listA (pe_lst (pa_cons pe_int (pa_cons (pe_dget hu (pv 2) pe_str (fun _ _ => rfl)) (pa_cons (pe_op op_mod (pe_callD D__law_number (hr.mono (by decide)) rfl (pa_cons (pv 0) (pa_cons (pe_op op_add (pv 1) pe_int) pa_nil))) (pe_op op_add (pe_dget hu (pv 2) pe_str (fun _ _ => rfl)) pe_int)) pa_nil)))) (pe_callD D__law_draw (hr.mono (by decide)) rfl (pa_cons (pv 0) (pa_cons (pe_op op_add (pv 1) pe_int) (pa_cons pe_int pa_nil)))) (fun _ _ => rfl)))
  (pss_cons (ps_set (i := 10) sc__law_feed.nd rfl (by first | exact Or.inl rfl | exact Or.inr rfl) (pe_ix ix_listA (pe_lst (pa_cons pe_int (pa_cons (pe_dget hu (pv 2) pe_str (fun _ _ => rfl)) (pa_cons (pe_op op_mod (pe_callD D__law_number (hr.mono (by decide)) rfl (pa_cons (pv 0) (pa_cons (pe_op op_add (pv 1) pe_int) pa_nil))) (pe_op op_add (pe_dget hu (pv 2) pe_str (fun _ _ => rfl)) pe_int)) pa_nil)))) (pe_callD D__law_draw (hr.mono (by decide)) rfl (pa_cons (pv 0) (pa_cons (pe_op op_add (pv 1) pe_int) (pa_cons pe_int pa_nil)))) (fun _ _ => rfl)))
  (pss_one (ps_ret (pe_tup (pa_cons pe_str (pa_cons (pv 5) (pa_cons (pv 7) (pa_cons (pv 8) (pa_cons (pe_op op_sub (pe_callD D__law_draw (hr.mono (by decide)) rfl (pa_cons (pv 0) (pa_cons (pe_op op_add (pv 1) pe_int) (pa_cons pe_int pa_nil)))) pe_int) (pa_cons (pv 9) (pa_cons (pv 10) pa_nil)))))))))))))))), ?_⟩
  refine ⟨_, rfl, kd, rfl, ⟨_, SqL.of hkd⟩, ?_⟩
  refine compB_seq (seq_list (K := K) (SqL.of hkd)) (fun v => match v with | .str z => decide (0 < (st.lookup z).getD 0) | _ => false) (fun v => v) (small1000 (by rw [List.length_map]; omega)) (fun v hv G R sG rr => ?_) (fun v hv G R sG _ rr => ?_) (fun fl H1 s1 nfl hfl => ?_)
  · obtain ⟨z, hz, rfl⟩ := List.mem_map.mp hv
    have AG := A.same sG
    have g0 := DGet.k (k := Sum.inr z) AG.hs
    rw [valV_dI69] at g0
    refine ⟨_, rfl, h, _, rfl, hg69 AG.o (h_sheets _ _ _ _ _), s, rfl, .inl ⟨_, .inl AG.hs⟩, _, rfl, _, g0, ?_⟩
    rw [show ((st.lookup z).map V.int).getD (V.int 0) = V.int ((st.lookup z).getD 0) by cases st.lookup z <;> rfl]
    exact ⟨_, _, rfl, rfl, _, rfl, rr⟩
  · obtain ⟨z, hz, rfl⟩ := List.mem_map.mp hv
    exact ⟨_, rfl, rr⟩
  rw [List.map_id'] at hfl
  generalize ef : (kinds.map V.str).filter (fun v => match v with | .str z => decide (0 < (st.lookup z).getD 0) | _ => false) = full at hfl
  have hf : ∀ v ∈ full, ∃ z : Str, v = .str z ∧ ∃ x, st.lookup z = some x ∧ x ≠ 0 := fun v hv => by
    rw [← ef, List.mem_filter] at hv
    obtain ⟨z, hz, rfl⟩ := List.mem_map.mp hv.1
    refine ⟨z, rfl, ?_⟩
    have c := of_decide_eq_true hv.2
    cases e : st.lookup z with
    | none => rw [e] at c; exact absurd c (by decide)
    | some x => rw [e] at c; exact ⟨x, rfl, by show x ≠ 0; have : 0 < x := c; omega⟩
  have lfl : full.length ≤ 300 := by rw [← ef]; exact Nat.le_trans (List.length_filter_le _ _) (by rw [List.length_map]; exact lk)
  have A1 := A.same s1
  have S1 := hS.same s1
  refine ⟨_, rfl, fl, _, rfl, .inl (SqL.of hfl), rfl, _, rfl, ite2 (fun _ => qn _ s1) (fun cc => ?_)⟩
  refine ⟨_, rfl, h, _, rfl, hg69 A1.o (h_inner _ _ _ _ _), t, _, rfl, .inl (SqL.of A1.ht), _, rfl, h, _, rfl, hg69 A1.o (h_path _ _ _ _ _), _, _, rfl, rfl, _, rfl, ite2 (fun _ => qn _ s1) (fun c2 => ?_)⟩
  have c2' : ((tg.map (·.2)).length : Int) ≤ p := by
    have := of_decide_eq_false (eq_false_of_ne_true c2)
    rw [List.length_map] at this ⊢
    omega
  have lf0 : (0 : Int) < ((full.length : Nat) : Int) := by
    by_cases z : full.length = 0
    · exact absurd (decide_eq_true (by rw [z]; rfl)) cc
    · omega
  refine ⟨_, rfl, _, rfl, _, rfl, _, rfl, fl, _, rfl, .inl (SqL.of hfl), a, _, _, rfl, S1, by omega, by omega, lf0, fun i1 i10 i11 => ⟨fl, _, _, rfl, rfl, SqL.of hfl, i10, i11, fun kv hkv => ?_⟩⟩
  obtain ⟨kz, rfl, kx, ekx, kx0⟩ := hf kv (List.mem_of_getElem? hkv)
  have hjb1 := s1 _ _ hjb
  have ljm : (jobs.map V.str).length = jobs.length := List.length_map _
  refine ⟨_, rfl, _, rfl, _, rfl, _, _, rfl, rfl, _, rfl, jb, _, rfl, .inl (SqL.of hjb1), a, _, _, rfl, S1, by omega, by omega, by omega, fun i2 i20 i21 => ⟨jb, _, _, rfl, rfl, SqL.of hjb1, i20, i21, fun jv hjv => ?_⟩⟩
  obtain ⟨jz, rfl, _⟩ := str_of7 hjv
  refine ⟨_, rfl, h, _, rfl, hg69 A1.o (h_black _ _ _ _ _), _, rfl, _, rfl, _, _, rfl, rfl, a, _, rfl, S1, by omega, by omega, fun n1 n10 => ⟨_, rfl, h, _, rfl, hg69 A1.o (h_black _ _ _ _ _), _, _, rfl, rfl, _, _, rfl, rfl, (show (0 : Int) < b + 1 by omega), small (by show 3 ≤ 1000; decide), fun l1 nl1 => ?_⟩⟩
  have s2 := same_new nl1 (.lst [V.int 0, V.int b, V.int (n1 % (b + 1))])
  have hl2 : upd H1 l1 (.lst [V.int 0, V.int b, V.int (n1 % (b + 1))]) l1 = some (.lst [V.int 0, V.int b, V.int (n1 % (b + 1))]) := upd_same
  generalize upd H1 l1 (.lst [V.int 0, V.int b, V.int (n1 % (b + 1))]) = H2 at s2 hl2 ⊢
  have A2 := A1.same s2
  have S2 := S1.same s2
  refine ⟨_, rfl, _, rfl, _, _, rfl, rfl, a, _, _, rfl, S2, by omega, by omega, by decide, fun i3 i30 i31 => ⟨l1, _, _, rfl, rfl, SqL.of hl2, i30, i31, fun bv hbv => ?_⟩⟩
  obtain ⟨bz, rfl, bz0, bz1⟩ : ∃ z : Int, bv = .int z ∧ 0 ≤ z ∧ z ≤ b := by
    have m1 := Int.emod_nonneg n1 (show b + 1 ≠ 0 by omega)
    have m2 := Int.emod_lt_of_pos n1 (show 0 < b + 1 by omega)
    rcases in_three hbv with rfl | rfl | rfl
    · exact ⟨_, rfl, Int.le_refl _, b0⟩
    · exact ⟨_, rfl, b0, Int.le_refl _⟩
    · exact ⟨_, rfl, m1, by omega⟩
  refine ⟨_, rfl, h, _, rfl, hg69 A2.o (h_tint _ _ _ _ _), _, rfl, _, rfl, _, _, rfl, rfl, a, _, rfl, S2, by omega, by omega, fun n2 n20 => ⟨_, rfl, h, _, rfl, hg69 A2.o (h_tint _ _ _ _ _), _, _, rfl, rfl, _, _, rfl, rfl, (show (0 : Int) < c + 1 by omega), small (by show 3 ≤ 1000; decide), fun l2 nl2 => ?_⟩⟩
  have s3 := same_new nl2 (.lst [V.int 0, V.int c, V.int (n2 % (c + 1))])
  have hl3 : upd H2 l2 (.lst [V.int 0, V.int c, V.int (n2 % (c + 1))]) l2 = some (.lst [V.int 0, V.int c, V.int (n2 % (c + 1))]) := upd_same
  generalize upd H2 l2 (.lst [V.int 0, V.int c, V.int (n2 % (c + 1))]) = H3 at s3 hl3 ⊢
  have S3 := S2.same s3
  refine ⟨_, rfl, _, rfl, _, _, rfl, rfl, a, _, _, rfl, S3, by omega, by omega, by decide, fun i4 i40 i41 => ⟨l2, _, _, rfl, rfl, SqL.of hl3, i40, i41, fun cv hcv => ?_⟩⟩
  obtain ⟨cz, rfl, cz0, cz1⟩ : ∃ z : Int, cv = .int z ∧ 0 ≤ z ∧ z ≤ c := by
    have m1 := Int.emod_nonneg n2 (show c + 1 ≠ 0 by omega)
    have m2 := Int.emod_lt_of_pos n2 (show 0 < c + 1 by omega)
    rcases in_three hcv with rfl | rfl | rfl
    · exact ⟨_, rfl, Int.le_refl _, c0⟩
    · exact ⟨_, rfl, c0, Int.le_refl _⟩
    · exact ⟨_, rfl, m1, by omega⟩
  refine ⟨_, rfl, _, rfl, _, rfl, _, rfl, _, rfl, _, _, rfl, rfl, a, _, _, rfl, S3, by omega, by omega, by decide, fun n5 _ _ => ⟨_, _, rfl, rfl, _, rfl, _, rfl, small (by show 7 ≤ 1000; decide), fun u nu => ?_⟩⟩
  refine q u (.feed pr kz jz (n5 - 1) bz cz) _ ((s1.trans (s2.trans s3)).trans (same_new nu _)) (s1.free (s2.free (s3.free nu))) upd_same rfl ⟨⟨kx, ekx, kx0⟩, c2', bz1, cz1⟩ ?_ ?_ trivial
  · show 0 ≤ b + -bz
    omega
  · show 0 ≤ c + -cz
    omega
def sp__law_right_row (K : PySem.W.Frag) : Sp := fun vs H Q _ => ∃ (a d kd jb : Addr) (k : Int) (kinds jobs : List Str) (H0 : Hp) (es : List HE), vs = [.ref a, .int k, .ref d, .ref kd, .ref jb] ∧ Scr K H0 a ∧ Same H0 H ∧ 0 ≤ k ∧ k ≤ 40000 ∧ HsAt H0 H d es ∧ 0 < es.length ∧ es.length ≤ 300 ∧ StrsAt H0 kd kinds ∧ 0 < kinds.length ∧ kinds.length ≤ 300 ∧ StrsAt H0 jb jobs ∧ 0 < jobs.length ∧ jobs.length ≤ 300 ∧ (∀ e ∈ es, e.st.length ≤ 900 ∧ e.tg.length ≤ 900 ∧ 0 ≤ e.b ∧ 0 ≤ e.c) ∧
  ∀ r row e e' H', OffE es H H' → H r = none → H' r = some (.tup row.vs) → e ∈ es → row.pr = e.p → goOk e.path e.st e.b e.c (e.tg.map (·.2)) row → HsAt H0 H' d (esPut e' es) → e'.p = e.p → e'.h = e.h → e'.s = e.s → e'.path = e.path → e'.g = gS e.g row → 0 ≤ e'.b → 0 ≤ e'.c → (e'.t = e.t ∨ H e'.t = none) → nnR row → Q (.ref r) H'
def RwV (e : HE) (H H' : Hp) (v : V) : Prop := v = .non ∨ ∃ r row, v = .ref r ∧ H r = none ∧ H' r = some (.tup row.vs) ∧ row.pr = e.p ∧ goOk e.path e.st e.b e.c (e.tg.map (·.2)) row ∧ 0 ≤ bS e.b row ∧ 0 ≤ cS e.c row ∧ nnR row
def Wr (H : Hp) (es : List HE) (a d kd jb : Addr) (k : Int) (nn : Prop) : TS := fun D σ G => ∃ (e : HE) (way : Int) (v : V), e ∈ es ∧ Same H G ∧ RwV e H G v ∧ σ = [some (.ref a), some (.int k), some (.ref d), some (.ref kd), some (.ref jb), some (.str e.p), some (.ref e.h), some (.int way), some v] ∧ ∀ v' G', Same H G' → RwV e H G' v' → (nn → v' ≠ .non) → D.nx [some (.ref a), some (.int k), some (.ref d), some (.ref kd), some (.ref jb), some (.str e.p), some (.ref e.h), some (.int way), some v'] G'
theorem RwV.same {e : HE} {H G G' : Hp} {v : V} (h : RwV e H G v) (s : Same G G') : RwV e H G' v := by
  rcases h with h | ⟨r, row, h1, h2, h3, h4⟩
  · exact .inl h
  · exact .inr ⟨r, row, h1, h2, s _ _ h3, h4⟩
theorem sc__law_right_row : FnScope ["_law_script", "_law_k", "_law_helds", "_law_kinds", "_law_jobs", "_law_printer", "_law_held", "_law_way", "_law_row"] ["_law_script", "_law_k", "_law_helds", "_law_kinds", "_law_jobs"] (defScope s__law_right_row) := ⟨rfl, rfl, rfl, by decide +kernel, rfl, by decide +kernel, by decide +kernel⟩
theorem ok__law_right_row {fa cAccount : Addr} {fd : FuncData} (F : Fun K "_law_right_row" "_law_right_row" s__law_right_row fa fd) (T : Txt K mg cAccount) (D__law_draw : Dfn P w K mg base 1 "_law_draw" ["_law_script", "_law_k", "_law_many"] (sp__law_draw K)) (D__law_goes : Dfn P w K mg base 1 "_law_goes" ["_law_held", "_law_row"] (sp__law_goes K)) (D__law_feed : Dfn P w K mg base 3 "_law_feed" ["_law_script", "_law_k", "_law_held", "_law_kinds", "_law_jobs", "_law_printer"] (sp__law_feed K)) (D__law_number : Dfn P w K mg base 2 "_law_number" ["_law_script", "_law_k"] (sp__law_number K)) :
    FnOk P w K mg base CX0 4 fa fd ["_law_script", "_law_k", "_law_helds", "_law_kinds", "_law_jobs"] (sp__law_right_row K) := by
  refine F.ok sc__law_right_row (fun vs H Q E h => ?_) (fun cdv A outer s H vs Q E hr h => ?_)
  · obtain ⟨a, d, kd, jb, k, kinds, jobs, H0, es, rfl, _⟩ := h
    rfl
  have hu := hu_n hr 0 (by decide)
  obtain ⟨a, d, kd, jb, k, kinds, jobs, H0, es, rfl, hS, sm, k0, k1, A, le0, le, hkd, lk0, lk, hjb, lj0, lj, bd, q⟩ := h
  refine ⟨_, (pss_cons (ps_set (i := 5) sc__law_right_row.nd rfl (by first | exact Or.inl rfl | exact Or.inr rfl) (pe_ix ix_listA (pe_callTy (call_list_dict rfl) rfl T.list bt_list (pa_cons (pv 2) pa_nil)) (pe_callD D__law_draw (hr.mono (by decide)) rfl (pa_cons (pv 0) (pa_cons (pv 1) (pa_cons (pe_callB call_lenD rfl T.len PySem.boot_len (pa_cons (pv 2) pa_nil)) pa_nil)))) (fun _ _ => rfl)))
  (pss_cons (ps_set (i := 6) sc__law_right_row.nd rfl (by first | exact Or.inl rfl | exact Or.inr rfl) (pe_dget hu (pv 2) (pv 5) (fun _ _ => rfl)))
  (pss_cons (ps_set (i := 7) sc__law_right_row.nd rfl (by first | exact Or.inl rfl | exact Or.inr rfl) (pe_callD D__law_draw (hr.mono (by decide)) rfl (pa_cons (pv 0) (pa_cons (pe_op op_add (pv 1) pe_int) (pa_cons pe_int pa_nil)))))
  (pss_cons (ps_set (i := 8) sc__law_right_row.nd rfl (by first | exact Or.inl rfl | exact Or.inr rfl) pe_non)
  (pss_cons (PS.weak (t' := Wr H es a d kd jb k False) (ps_if (pt_cmpR op_gt (pv 7) pe_int (nomark _)) (pss_one (ps_set (i := 8) sc__law_right_row.nd rfl (by first | exact Or.inl rfl | exact Or.inr rfl) (pe_callD D__law_feed (hr.mono (by decide)) rfl (pa_cons (pv 0) (pa_cons (pe_op op_add (pv 1) pe_int) (pa_cons (pv 6) (pa_cons (pv 3) (pa_cons (pv 4) (pa_cons (pv 5) pa_nil))))))))) pss_nil) ?w4)
  (pss_cons (PS.weak (t' := Wr H es a d kd jb k False) (ps_if (PW.pt (pw_and (PW.pt (pw_or (PW.pt (pw_and (pt_cmpR op_gt (pv 7) pe_int (nomark _)) (pw_and1 (pt_cmpR op_isN (pv 8) pe_non (nomark _))))) (pw_or1 (pt_cmpR op_gt (pe_callB call_len_seq rfl T.len PySem.boot_len (pa_cons (pe_dget hu (pv 6) pe_str (fun _ _ => rfl)) pa_nil)) (pe_dget hu (pv 6) pe_str (fun _ _ => rfl)) (nomark _))))) (pw_and1 (pt_cmpR op_gt (pe_callB call_len_seq rfl T.len PySem.boot_len (pa_cons (pe_dget hu (pv 6) pe_str (fun _ _ => rfl)) pa_nil)) pe_int (nomark _))))) (pss_one (ps_set (i := 8) sc__law_right_row.nd rfl (by first | exact Or.inl rfl | exact Or.inr rfl) (pe_op op_catT (pe_tup (pa_cons (pe_ix ix_listA (pe_lst (pa_cons pe_str (pa_cons pe_str (pa_cons pe_str pa_nil)))) (pe_callD D__law_draw (hr.mono (by decide)) rfl (pa_cons (pv 0) (pa_cons (pe_op op_add (pv 1) pe_int) (pa_cons pe_int pa_nil)))) (fun _ _ => rfl)) (pa_cons (pv 5) pa_nil))) (pe_ix ix_list (pe_dget hu (pv 6) pe_str (fun _ _ => rfl)) pe_int (fun _ _ => rfl))))) pss_nil) ?w5)
  (pss_cons (PS.weak (t' := Wr H es a d kd jb k False) (ps_if (PW.pt (pw_and (pt_cmpR op_isN (pv 8) pe_non (nomark _)) (pw_and1 (pt_cmpR op_eq (pv 7) pe_int (nomark _))))) (pss_one (ps_set (i := 8) sc__law_right_row.nd rfl (by first | exact Or.inl rfl | exact Or.inr rfl) (pe_tup (pa_cons pe_str (pa_cons (pv 5) (pa_cons (pe_callD D__law_number (hr.mono (by decide)) rfl (pa_cons (pv 0) (pa_cons (pe_op op_add (pv 1) pe_int) pa_nil))) (pa_cons (pe_callD D__law_number (hr.mono (by decide)) rfl (pa_cons (pv 0) (pa_cons (pe_op op_add (pv 1) pe_int) pa_nil))) pa_nil))))))) pss_nil) ?w6)
  (pss_cons (PS.weak (t' := Wr H es a d kd jb k True) (ps_if (pt_cmpR op_isN (pv 8) pe_non (nomark _)) (pss_one (ps_set (i := 8) sc__law_right_row.nd rfl (by first | exact Or.inl rfl | exact Or.inr rfl) (pe_tup (pa_cons pe_str (pa_cons (pv 5) (pa_cons (pe_ix ix_listA (pv 3) (pe_callD D__law_draw (hr.mono (by decide)) rfl (pa_cons (pv 0) (pa_cons (pe_op op_add (pv 1) pe_int) (pa_cons (pe_callB call_len_seq rfl T.len PySem.boot_len (pa_cons (pv 3) pa_nil)) pa_nil)))) (fun _ _ => rfl)) (pa_cons (pe_callD D__law_number (hr.mono (by decide)) rfl (pa_cons (pv 0) (pa_cons (pe_op op_add (pv 1) pe_int) pa_nil))) pa_nil))))))) pss_nil) ?w7)
  (pss_cons (ps_expr (pe_callD D__law_goes (hr.mono (by decide)) rfl (pa_cons (pv 6) (pa_cons (pv 8) pa_nil))))
  (pss_one (ps_ret (pv 8)))))))))))), ?_⟩
  case w4 =>
    rintro D σ G ⟨e, way, v, he, sG, RG, rfl, q⟩
    obtain ⟨bd1, bd2, bd3, bd4⟩ := bd e he
    refine ⟨_, rfl, _, _, rfl, rfl, _, rfl, ite2 (fun c => ?_) (fun c => q v G sG RG (by intro z; exact z.elim))⟩
    refine ⟨_, rfl, _, rfl, _, _, rfl, rfl, _, rfl, _, rfl, _, rfl, _, rfl, a, e.h, e.s, e.t, kd, jb, _, e.p, kinds, jobs, e.path, e.st, e.b, e.c, e.tg, rfl, (hS.same sm).same sG, by omega, by omega, (A.same sG).a e he, sG _ _ (sm _ _ hkd), lk, sG _ _ (sm _ _ hjb), lj0, lj, bd3, bd4, fun G' s' => ?_, fun r row G' s' nr hr' pr' go' b' c' n' => ?_⟩
    · exact q _ G' (sG.trans s') (.inl rfl) (by intro z; exact z.elim)
    · exact q _ G' (sG.trans s') (.inr ⟨r, row, rfl, sG.free nr, hr', pr', go', b', c', n'⟩) (by intro z; exact z.elim)
  case w5 =>
    rintro D σ G ⟨e, way, v, he, sG, RG, rfl, q⟩
    obtain ⟨bd1, bd2, bd3, bd4⟩ := bd e he
    have AG := (A.same sG).a e he
    have SG := (hS.same sm).same sG
    refine ⟨_, rfl, _, _, rfl, rfl, _, rfl, ite2 (fun c1 => ?_) (fun c1 => ?_)⟩
    · refine ⟨_, rfl, rfl, _, rfl, ite2 (fun c2 => ?_) (fun c2 => ?_)⟩
      · refine ⟨_, rfl, e.h, _, rfl, hg69 AG.o (h_inner _ _ _ _ _), e.t, _, rfl, .inl (SqL.of AG.ht), _, _, rfl, rfl, _, rfl, ite2 (fun c3 => ?_) (fun _ => q v G sG RG (by intro z; exact z.elim))⟩
        obtain ⟨q0, tg1, etg⟩ : ∃ q0 tg1, e.tg = q0 :: tg1 := by
          cases ez : e.tg with
          | nil => exact absurd (of_decide_eq_true c3) (by rw [ez]; decide)
          | cons q0 tg1 => exact ⟨q0, tg1, rfl⟩
        refine ⟨small (by show 3 ≤ 1000; decide), fun l1 nl1 => ?_⟩
        have s1 := same_new nl1 (.lst [V.str otW, V.str otW, V.str lsW])
        have hl1 : upd G l1 (.lst [V.str otW, V.str otW, V.str lsW]) l1 = some (.lst [V.str otW, V.str otW, V.str lsW]) := upd_same
        generalize upd G l1 (.lst [V.str otW, V.str otW, V.str lsW]) = G1 at s1 hl1 ⊢
        refine ⟨_, rfl, _, rfl, _, _, rfl, rfl, a, _, _, rfl, SG.same s1, by omega, by omega, by decide, fun i i0 i1 => ⟨l1, _, _, rfl, rfl, SqL.of hl1, i0, i1, fun tv htv => ?_⟩⟩
        obtain ⟨tz, rfl, row, er, ep, eg, e1, e2, e3⟩ : ∃ z : Str, tv = .str z ∧ ∃ row : Row67, row.vs = [.str z, .str e.p, .str q0.2.1, .int q0.2.2] ∧ row.pr = e.p ∧ goOk e.path e.st e.b e.c (e.tg.map (·.2)) row ∧ bS e.b row = e.b ∧ cS e.c row = e.c ∧ nnR row := by
          rcases in_three htv with rfl | rfl | rfl
          · exact ⟨_, rfl, .out e.p q0.2.1 q0.2.2, rfl, rfl, ⟨tg1.map (·.2), by rw [etg]; rfl⟩, rfl, rfl, trivial⟩
          · exact ⟨_, rfl, .out e.p q0.2.1 q0.2.2, rfl, rfl, ⟨tg1.map (·.2), by rw [etg]; rfl⟩, rfl, rfl, trivial⟩
          · exact ⟨_, rfl, .lost e.p q0.2.1 q0.2.2, rfl, rfl, ⟨tg1.map (·.2), by rw [etg]; rfl⟩, rfl, rfl, trivial⟩
        refine ⟨_, rfl, small (by show 2 ≤ 1000; decide), fun u nu => ?_⟩
        have s2 := same_new nu (.tup [V.str tz, V.str e.p])
        have hu2 : upd G1 u (.tup [V.str tz, V.str e.p]) u = some (.tup [V.str tz, V.str e.p]) := upd_same
        generalize upd G1 u (.tup [V.str tz, V.str e.p]) = G2 at s2 hu2 ⊢
        have A2 := AG.same (s1.trans s2)
        have tq := A2.tt q0 (by rw [etg]; exact List.mem_cons_self)
        refine ⟨_, rfl, e.h, _, rfl, hg69 A2.o (h_inner _ _ _ _ _), e.t, _, 0, .ref q0.1, rfl, rfl, SqL.of A2.ht, by rw [etg]; exact at_cons0 _ _, u, q0.1, _, _, rfl, rfl, SqT.of hu2, SqT.of tq, (by intro z; cases z), small (by show 4 ≤ 1000; decide), (by intro z; cases z), fun _ p np => ?_⟩
        have s3 := same_new np (.tup ([V.str tz, V.str e.p] ++ [.str q0.2.1, .int q0.2.2]))
        exact q _ _ (sG.trans (s1.trans (s2.trans s3))) (.inr ⟨p, row, rfl, sG.free (s1.free (s2.free np)), by rw [er]; exact upd_same, ep, eg, by rw [e1]; exact bd3, by rw [e2]; exact bd4, e3⟩) (by intro z; exact z.elim)
      · refine ⟨_, rfl, e.h, _, rfl, hg69 AG.o (h_inner _ _ _ _ _), e.t, _, rfl, .inl (SqL.of AG.ht), _, rfl, e.h, _, rfl, hg69 AG.o (h_path _ _ _ _ _), _, _, rfl, rfl, _, rfl, ite2 (fun c3 => ?_) (fun _ => q v G sG RG (by intro z; exact z.elim))⟩
        refine ⟨_, rfl, e.h, _, rfl, hg69 AG.o (h_inner _ _ _ _ _), e.t, _, rfl, .inl (SqL.of AG.ht), _, _, rfl, rfl, _, rfl, ite2 (fun c3 => ?_) (fun _ => q v G sG RG (by intro z; exact z.elim))⟩
        obtain ⟨q0, tg1, etg⟩ : ∃ q0 tg1, e.tg = q0 :: tg1 := by
          cases ez : e.tg with
          | nil => exact absurd (of_decide_eq_true c3) (by rw [ez]; decide)
          | cons q0 tg1 => exact ⟨q0, tg1, rfl⟩
        refine ⟨small (by show 3 ≤ 1000; decide), fun l1 nl1 => ?_⟩
        have s1 := same_new nl1 (.lst [V.str otW, V.str otW, V.str lsW])
        have hl1 : upd G l1 (.lst [V.str otW, V.str otW, V.str lsW]) l1 = some (.lst [V.str otW, V.str otW, V.str lsW]) := upd_same
        generalize upd G l1 (.lst [V.str otW, V.str otW, V.str lsW]) = G1 at s1 hl1 ⊢
        refine ⟨_, rfl, _, rfl, _, _, rfl, rfl, a, _, _, rfl, SG.same s1, by omega, by omega, by decide, fun i i0 i1 => ⟨l1, _, _, rfl, rfl, SqL.of hl1, i0, i1, fun tv htv => ?_⟩⟩
        obtain ⟨tz, rfl, row, er, ep, eg, e1, e2, e3⟩ : ∃ z : Str, tv = .str z ∧ ∃ row : Row67, row.vs = [.str z, .str e.p, .str q0.2.1, .int q0.2.2] ∧ row.pr = e.p ∧ goOk e.path e.st e.b e.c (e.tg.map (·.2)) row ∧ bS e.b row = e.b ∧ cS e.c row = e.c ∧ nnR row := by
          rcases in_three htv with rfl | rfl | rfl
          · exact ⟨_, rfl, .out e.p q0.2.1 q0.2.2, rfl, rfl, ⟨tg1.map (·.2), by rw [etg]; rfl⟩, rfl, rfl, trivial⟩
          · exact ⟨_, rfl, .out e.p q0.2.1 q0.2.2, rfl, rfl, ⟨tg1.map (·.2), by rw [etg]; rfl⟩, rfl, rfl, trivial⟩
          · exact ⟨_, rfl, .lost e.p q0.2.1 q0.2.2, rfl, rfl, ⟨tg1.map (·.2), by rw [etg]; rfl⟩, rfl, rfl, trivial⟩
        refine ⟨_, rfl, small (by show 2 ≤ 1000; decide), fun u nu => ?_⟩
        have s2 := same_new nu (.tup [V.str tz, V.str e.p])
        have hu2 : upd G1 u (.tup [V.str tz, V.str e.p]) u = some (.tup [V.str tz, V.str e.p]) := upd_same
        generalize upd G1 u (.tup [V.str tz, V.str e.p]) = G2 at s2 hu2 ⊢
        have A2 := AG.same (s1.trans s2)
        have tq := A2.tt q0 (by rw [etg]; exact List.mem_cons_self)
        refine ⟨_, rfl, e.h, _, rfl, hg69 A2.o (h_inner _ _ _ _ _), e.t, _, 0, .ref q0.1, rfl, rfl, SqL.of A2.ht, by rw [etg]; exact at_cons0 _ _, u, q0.1, _, _, rfl, rfl, SqT.of hu2, SqT.of tq, (by intro z; cases z), small (by show 4 ≤ 1000; decide), (by intro z; cases z), fun _ p np => ?_⟩
        have s3 := same_new np (.tup ([V.str tz, V.str e.p] ++ [.str q0.2.1, .int q0.2.2]))
        exact q _ _ (sG.trans (s1.trans (s2.trans s3))) (.inr ⟨p, row, rfl, sG.free (s1.free (s2.free np)), by rw [er]; exact upd_same, ep, eg, by rw [e1]; exact bd3, by rw [e2]; exact bd4, e3⟩) (by intro z; exact z.elim)
    · refine ⟨_, rfl, e.h, _, rfl, hg69 AG.o (h_inner _ _ _ _ _), e.t, _, rfl, .inl (SqL.of AG.ht), _, rfl, e.h, _, rfl, hg69 AG.o (h_path _ _ _ _ _), _, _, rfl, rfl, _, rfl, ite2 (fun c3 => ?_) (fun _ => q v G sG RG (by intro z; exact z.elim))⟩
      refine ⟨_, rfl, e.h, _, rfl, hg69 AG.o (h_inner _ _ _ _ _), e.t, _, rfl, .inl (SqL.of AG.ht), _, _, rfl, rfl, _, rfl, ite2 (fun c3 => ?_) (fun _ => q v G sG RG (by intro z; exact z.elim))⟩
      obtain ⟨q0, tg1, etg⟩ : ∃ q0 tg1, e.tg = q0 :: tg1 := by
        cases ez : e.tg with
        | nil => exact absurd (of_decide_eq_true c3) (by rw [ez]; decide)
        | cons q0 tg1 => exact ⟨q0, tg1, rfl⟩
      refine ⟨small (by show 3 ≤ 1000; decide), fun l1 nl1 => ?_⟩
      have s1 := same_new nl1 (.lst [V.str otW, V.str otW, V.str lsW])
      have hl1 : upd G l1 (.lst [V.str otW, V.str otW, V.str lsW]) l1 = some (.lst [V.str otW, V.str otW, V.str lsW]) := upd_same
      generalize upd G l1 (.lst [V.str otW, V.str otW, V.str lsW]) = G1 at s1 hl1 ⊢
      refine ⟨_, rfl, _, rfl, _, _, rfl, rfl, a, _, _, rfl, SG.same s1, by omega, by omega, by decide, fun i i0 i1 => ⟨l1, _, _, rfl, rfl, SqL.of hl1, i0, i1, fun tv htv => ?_⟩⟩
      obtain ⟨tz, rfl, row, er, ep, eg, e1, e2, e3⟩ : ∃ z : Str, tv = .str z ∧ ∃ row : Row67, row.vs = [.str z, .str e.p, .str q0.2.1, .int q0.2.2] ∧ row.pr = e.p ∧ goOk e.path e.st e.b e.c (e.tg.map (·.2)) row ∧ bS e.b row = e.b ∧ cS e.c row = e.c ∧ nnR row := by
        rcases in_three htv with rfl | rfl | rfl
        · exact ⟨_, rfl, .out e.p q0.2.1 q0.2.2, rfl, rfl, ⟨tg1.map (·.2), by rw [etg]; rfl⟩, rfl, rfl, trivial⟩
        · exact ⟨_, rfl, .out e.p q0.2.1 q0.2.2, rfl, rfl, ⟨tg1.map (·.2), by rw [etg]; rfl⟩, rfl, rfl, trivial⟩
        · exact ⟨_, rfl, .lost e.p q0.2.1 q0.2.2, rfl, rfl, ⟨tg1.map (·.2), by rw [etg]; rfl⟩, rfl, rfl, trivial⟩
      refine ⟨_, rfl, small (by show 2 ≤ 1000; decide), fun u nu => ?_⟩
      have s2 := same_new nu (.tup [V.str tz, V.str e.p])
      have hu2 : upd G1 u (.tup [V.str tz, V.str e.p]) u = some (.tup [V.str tz, V.str e.p]) := upd_same
      generalize upd G1 u (.tup [V.str tz, V.str e.p]) = G2 at s2 hu2 ⊢
      have A2 := AG.same (s1.trans s2)
      have tq := A2.tt q0 (by rw [etg]; exact List.mem_cons_self)
      refine ⟨_, rfl, e.h, _, rfl, hg69 A2.o (h_inner _ _ _ _ _), e.t, _, 0, .ref q0.1, rfl, rfl, SqL.of A2.ht, by rw [etg]; exact at_cons0 _ _, u, q0.1, _, _, rfl, rfl, SqT.of hu2, SqT.of tq, (by intro z; cases z), small (by show 4 ≤ 1000; decide), (by intro z; cases z), fun _ p np => ?_⟩
      have s3 := same_new np (.tup ([V.str tz, V.str e.p] ++ [.str q0.2.1, .int q0.2.2]))
      exact q _ _ (sG.trans (s1.trans (s2.trans s3))) (.inr ⟨p, row, rfl, sG.free (s1.free (s2.free np)), by rw [er]; exact upd_same, ep, eg, by rw [e1]; exact bd3, by rw [e2]; exact bd4, e3⟩) (by intro z; exact z.elim)
  case w6 =>
    rintro D σ G ⟨e, way, v, he, sG, RG, rfl, q⟩
    obtain ⟨bd1, bd2, bd3, bd4⟩ := bd e he
    have SG := (hS.same sm).same sG
    refine ⟨_, rfl, rfl, _, rfl, ite2 (fun c1 => ?_) (fun c1 => q v G sG RG (by intro z; exact z.elim))⟩
    refine ⟨_, rfl, rfl, _, rfl, ite2 (fun c2 => ?_) (fun c2 => q v G sG RG (by intro z; exact z.elim))⟩
    refine ⟨_, rfl, _, rfl, _, rfl, _, _, rfl, rfl, a, _, rfl, SG, by omega, by omega, fun n1 n10 => ⟨_, rfl, _, rfl, _, _, rfl, rfl, a, _, rfl, SG, by omega, by omega, fun n2 n20 => ⟨small (by show 4 ≤ 1000; decide), fun u nu => ?_⟩⟩⟩
    exact q _ _ (sG.trans (same_new nu _)) (.inr ⟨u, .ink e.p n1 n2, rfl, sG.free nu, upd_same, rfl, trivial, by show 0 ≤ e.b + n1; omega, by show 0 ≤ e.c + n2; omega, trivial⟩) (by intro z; exact z.elim)
  case w7 =>
    rintro D σ G ⟨e, way, v, he, sG, RG, rfl, q⟩
    obtain ⟨bd1, bd2, bd3, bd4⟩ := bd e he
    have SG := (hS.same sm).same sG
    have hk := sG _ _ (sm _ _ hkd)
    refine ⟨_, rfl, rfl, _, rfl, ite2 (fun c1 => ?_) (fun c1 => q v G sG RG (by intro _ z; exact c1 (by rw [z]; rfl)))⟩
    refine ⟨_, rfl, _, rfl, _, rfl, _, rfl, _, _, rfl, rfl, _, rfl, kd, _, rfl, .inl (SqL.of hk), a, _, _, rfl, SG, by omega, by omega, by rw [List.length_map]; omega, fun i i0 i1 => ⟨kd, _, _, rfl, rfl, SqL.of hk, i0, i1, fun kv hkv => ?_⟩⟩
    obtain ⟨kz, rfl, _⟩ := str_of7 hkv
    refine ⟨_, rfl, _, rfl, _, _, rfl, rfl, a, _, rfl, SG, by omega, by omega, fun n2 n20 => ⟨small (by show 4 ≤ 1000; decide), fun u nu => ?_⟩⟩
    exact q _ _ (sG.trans (same_new nu _)) (.inr ⟨u, .load e.p kz n2, rfl, sG.free nu, upd_same, rfl, trivial, bd3, bd4, n20⟩) (by intro _ z; cases z)
  refine ⟨_, rfl, d, _, rfl, A.o, fun l nl => ?_⟩
  have s1 := same_new nl (.lst ((heD es).map fun q => kV q.1))
  have hl1 : upd H l (.lst ((heD es).map fun q => kV q.1)) l = some (.lst ((heD es).map fun q => kV q.1)) := upd_same
  generalize upd H l (.lst ((heD es).map fun q => kV q.1)) = H1 at s1 hl1 ⊢
  have A1 := A.same s1
  have lh : (heD es).length = es.length := List.length_map _
  have S1 := (hS.same sm).same s1
  refine ⟨_, rfl, _, rfl, _, rfl, d, _, rfl, A1.o, a, _, _, rfl, S1, by omega, by omega, by omega, fun i1 i10 i11 => ⟨l, _, _, rfl, rfl, SqL.of hl1, i10, by rw [List.length_map]; exact i11, fun v hv => ?_⟩⟩
  obtain ⟨e, he, rfl⟩ : ∃ e ∈ es, v = .str e.p := by
    obtain ⟨q, hq, rfl⟩ := List.mem_map.mp (List.mem_of_getElem? hv)
    obtain ⟨e, he, rfl⟩ := List.mem_map.mp hq
    exact ⟨e, he, rfl⟩
  obtain ⟨bd1, bd2, bd3, bd4⟩ := bd e he
  have Ae := A1.a e he
  have sm1 := sm.trans s1
  have gk := DGet.k (k := Sum.inr e.p) A1.o
  rw [val_he_in A1.nd he] at gk
  refine ⟨_, rfl, _, rfl, d, _, rfl, gk, ?_⟩
  refine ⟨_, rfl, _, rfl, _, _, rfl, rfl, a, _, _, rfl, S1, by omega, by omega, by decide, fun way w0 w1 => ?_⟩
  refine ⟨e, way, .non, he, s1, .inl rfl, rfl, fun v1 H2 s2 R2 _ => ?_⟩
  refine ⟨e, way, v1, he, s2, R2, rfl, fun v2 H3 s3 R3 _ => ?_⟩
  refine ⟨e, way, v2, he, s3, R3, rfl, fun v3 H4 s4 R4 _ => ?_⟩
  refine ⟨e, way, v3, he, s4, R4, rfl, fun v4 H5 s5 R5 n5 => ?_⟩
  rcases R5 with rfl | ⟨r, row, rfl, nr, hr5, pr5, go5, b5, c5, n5'⟩
  · exact absurd rfl (n5 trivial)
  have A5 := A.same s5
  refine ⟨_, rfl, _, rfl, e.h, r, e.s, e.t, e.path, e.st, e.b, e.c, e.tg, row, rfl, A5.a e he, hr5, bd1, bd2, fun _ t' tg' H6 k6 nt6 A6 et6 => ⟨_, rfl, ?_⟩, fun z => absurd go5 z⟩
  have n1 : r ≠ e.h := Ne.symm (ne_of_none (A.a e he).o nr)
  have n2 : r ≠ e.s := Ne.symm (ne_of_none (A.a e he).hs nr)
  refine q r row e ⟨e.p, e.h, e.s, t', e.path, stS e.st row, bS e.b row, cS e.c row, tg'⟩ H6 (fun b o off eb => k6 b o (off e he).1 (off e he).2 (s5 _ _ eb)) nr (k6 _ _ n1 n2 hr5) he pr5 go5 (A5.go he k6 rfl rfl rfl A6) rfl rfl rfl rfl ?_ b5 c5 (nt6.imp id fun z => s5.free z) n5'
  unfold HE.g gS
  rw [et6]

end
end My

namespace My
open PySem L2
open Blk (sg sg_inj sg_app)
section
variable {P : Program} {w : World} {K : PySem.W.Frag} {mg : Str → Option Value} {base : Heap}
theorem str_at68 {ns : List Str} {j : Nat} {v : V} (h : (ns.map V.str)[j]? = some v) : ∃ z, v = V.str z ∧ ns[j]? = some z := by
  rw [List.getElem?_map] at h
  obtain ⟨z, e, rfl⟩ := Option.map_eq_some_iff.mp h
  exact ⟨z, rfl, e⟩
def PathsOk (ps : List (Str × Int)) : Prop := (ps.map (·.1)).Nodup ∧ (∀ p ∈ ps, 1 ≤ p.2 ∧ p.2 ≤ 4) ∧ 0 < ps.length ∧ ps.length ≤ 4
def sp__law_paths (K : PySem.W.Frag) : Sp := fun vs H Q _ => ∃ (a hl : Addr) (halls : List Str), vs = [.ref a, .ref hl] ∧ Scr K H a ∧ StrsAt H hl halls ∧ halls.length = 4 ∧ ∀ d ps H', Same H H' → H' d = some (.dK (dI ps)) → PathsOk ps → (∀ (j : Nat) z, j < ps.length → halls[j]? = some z → z ∈ ps.map (·.1)) → Q (.ref d) H'
theorem sc__law_paths : FnScope ["_law_script", "_law_halls", "_law_paths_here", "_law_k"] ["_law_script", "_law_halls"] (defScope s__law_paths) := ⟨rfl, rfl, rfl, by decide +kernel, rfl, by decide +kernel, by decide +kernel⟩
theorem ok__law_paths {fa cAccount : Addr} {fd : FuncData} (F : Fun K "_law_paths" "_law_paths" s__law_paths fa fd) (T : Txt K mg cAccount) (D__law_draw : Dfn P w K mg base 1 "_law_draw" ["_law_script", "_law_k", "_law_many"] (sp__law_draw K)) :
    FnOk P w K mg base CX0 2 fa fd ["_law_script", "_law_halls"] (sp__law_paths K) := by
  refine F.ok sc__law_paths (fun vs H Q E h => ?_) (fun cdv A outer s H vs Q E hr h => ?_)
  · obtain ⟨a, hl, halls, rfl, _⟩ := h
    rfl
  have hu := hu_n hr 0 (by decide)
  obtain ⟨a, hl, halls, rfl, hS, hh, lh, q⟩ := h
  refine ⟨_, (pss_cons (ps_set (i := 2) sc__law_paths.nd rfl (by first | exact Or.inl rfl | exact Or.inr rfl) pe_dnewK)
  (pss_cons (ps_for PassesOwn.never rfl (pi_range1 rfl T.range (pa_cons (pe_op op_add pe_int (pe_callD D__law_draw (hr.mono (by decide)) rfl (pa_cons (pv 0) (pa_cons pe_int (pa_cons pe_int pa_nil))))) pa_nil)) (pg_name (i := 3) sc__law_paths.nd rfl (by first | exact Or.inl rfl | exact Or.inr rfl))
  (pss_one (ps_dput hu (pv 2) (pe_ix ix_listA (pv 1) (pv 3) (fun _ _ => rfl)) (pe_op op_add pe_int (pe_callD D__law_draw (hr.mono (by decide)) rfl (pa_cons (pv 0) (pa_cons (pe_op op_add pe_int (pv 3)) (pa_cons pe_int pa_nil))))) rfl)))
  (pss_one (ps_ret (pv 2))))), ?_⟩
  refine fun d nd => ?_
  have s1 := same_new nd (.dK [])
  have hd1 : upd H d (.dK []) d = some (.dK (dI [])) := upd_same
  generalize upd H d (.dK []) = H1 at s1 hd1 ⊢
  refine ⟨_, rfl, a, _, _, rfl, hS.same s1, by decide, by decide, by decide, fun n n0 n1 => ⟨_, _, rfl, rfl, _, rfl, by omega, by omega, for_range (lo := 0) (n := (1 + n).toNat) (fun i σ G => ∃ (v3 : Option V) (ps : List (Str × Int)), σ = [some (.ref a), some (.ref hl), some (.ref d), v3] ∧ Same H G ∧ G d = some (.dK (dI ps)) ∧ (ps.map (·.1)).Nodup ∧ (∀ p ∈ ps, 1 ≤ p.2 ∧ p.2 ≤ 4) ∧ (0 < i → 0 < ps.length) ∧ ps.length ≤ i ∧ ∀ (j : Nat) z, j < i → halls[j]? = some z → z ∈ ps.map (·.1)) ⟨_, [], rfl, s1, hd1, List.nodup_nil, fun p h => (by cases h), fun z => absurd z (Nat.lt_irrefl _), Nat.le_refl _, fun j z hj => absurd hj (Nat.not_lt_zero _)⟩ (fun i σ G hi z => ?_) (fun σ G z => ?_)⟩⟩
  · obtain ⟨v3, ps, rfl, sG, hd, nd', vs', p0, pl, pk⟩ := z
    have hhG := sG _ _ hh
    refine ⟨_, rfl, _, rfl, _, _, rfl, rfl, a, _, _, rfl, hS.same sG, by omega, by omega, by decide, fun r r0 r1 => ⟨_, _, rfl, rfl, _, rfl, _, rfl, _, rfl, hl, _, _, rfl, rfl, SqL.of hhG, by omega, by rw [List.length_map]; omega, fun v hv => ?_⟩⟩
    obtain ⟨z, rfl, ez⟩ := str_at68 hv
    refine ⟨d, _, rfl, DPut.k (k := Sum.inr z) hd (small1000 (by unfold dI; rw [List.length_map]; omega)), ?_⟩
    rw [← dI_upS]
    refine ⟨_, upS ps z (1 + r), rfl, same_on nd sG _, upd_same, upS_nodup nd', upS_all (P := fun v => 1 ≤ v ∧ v ≤ 4) vs' ⟨by omega, by omega⟩, fun _ => upS_pos, Nat.le_trans upS_len (by omega), fun j z' hj hz' => ?_⟩
    rw [upS_keys]
    by_cases c : j < i
    · have m := pk j z' c hz'
      split
      · exact m
      · exact List.mem_append.mpr (.inl m)
    · have e0 : halls[i]? = some z := by rw [show (0 + (i : Int)).toNat = i by omega] at ez; exact ez
      rw [show j = i by omega, e0] at hz'
      obtain rfl := Option.some.inj hz'
      split
      · rename_i m; exact m
      · exact List.mem_append.mpr (.inr List.mem_cons_self)
  · obtain ⟨v3, ps, rfl, sG, hd, nd', vs', p0, pl, pk⟩ := z
    exact ⟨_, rfl, q d ps G sG hd ⟨nd', vs', p0 (by omega), by omega⟩ fun j z hj hz => pk j z (by omega) hz⟩
theorem HsAt.keep {H0 G G' : Hp} {d X : Addr} {es : List HE} (A : HsAt H0 G d es) (k : ∀ b o, b ≠ X → G b = some o → G' b = some o) (nX : d ≠ X) (n : ∀ e ∈ es, e.h ≠ X ∧ e.s ≠ X ∧ e.t ≠ X) (nt : ∀ xs, G X ≠ some (.tup xs)) : HsAt H0 G' d es :=
  ⟨A.d0, k _ _ nX A.o, fun e h => ⟨k _ _ (n e h).1 (A.a e h).o, k _ _ (n e h).2.1 (A.a e h).hs, k _ _ (n e h).2.2 (A.a e h).ht, fun q hq => k _ _ (fun z => nt _ (by rw [← z]; exact (A.a e h).tt q hq)) ((A.a e h).tt q hq), (A.a e h).ne⟩, A.n, A.nd, A.na, A.nx⟩
theorem esPut_mem {e' : HE} {es : List HE} {f : HE} (h : f ∈ esPut e' es) : f = e' ∨ (f ∈ es ∧ f.p ≠ e'.p) := by
  obtain ⟨f0, h0, rfl⟩ := List.mem_map.mp h
  by_cases c : f0.p = e'.p
  · rw [if_pos c]; exact .inl rfl
  · rw [if_neg c]; exact .inr ⟨h0, c⟩
def Wm (K : PySem.W.Frag) (a pd kd jb : Addr) : TS := fun D σ G => ∃ (d : Addr) (m : Int) (v5 v6 : Option V), σ = [some (.ref a), some (.ref pd), some (.ref kd), some (.ref jb), some (.ref d), v5, v6, some (.int m)] ∧ Scr K G a ∧ 0 ≤ m ∧ m ≤ 70 ∧ ∀ m' : Int, 0 ≤ m' → m' ≤ 70 → D.nx [some (.ref a), some (.ref pd), some (.ref kd), some (.ref jb), some (.ref d), v5, v6, some (.int m')] G
def sp__law_right_rows (K : PySem.W.Frag) : Sp := fun vs H Q _ => ∃ (a pd kd jb : Addr) (ps : List (Str × Int)) (kinds jobs : List Str), vs = [.ref a, .ref pd, .ref kd, .ref jb] ∧ Scr K H a ∧ H pd = some (.dK (dI ps)) ∧ PathsOk ps ∧ StrsAt H kd kinds ∧ 0 < kinds.length ∧ kinds.length ≤ 300 ∧ StrsAt H jb jobs ∧ 0 < jobs.length ∧ jobs.length ≤ 300 ∧
  ∀ l prs H', Same H H' → H l = none → RowsAt H' l prs → prs.length ≤ 70 → (∀ j, j < (prs.map (·.2)).length → rightAt ps (prs.map (·.2)) j) → (∀ r ∈ prs.map (·.2), nnR r) → Q (.ref l) H'
theorem sc__law_right_rows : FnScope ["_law_script", "_law_paths_here", "_law_kinds", "_law_jobs", "_law_helds", "_law_printer", "_law_path", "_law_many"] ["_law_script", "_law_paths_here", "_law_kinds", "_law_jobs"] (defScope s__law_right_rows) := ⟨rfl, rfl, rfl, by decide +kernel, rfl, by decide +kernel, by decide +kernel⟩
theorem ok__law_right_rows {fa cAccount : Addr} {fd : FuncData} (F : Fun K "_law_right_rows" "_law_right_rows" s__law_right_rows fa fd) (T : Txt K mg cAccount) (D__law_draw : Dfn P w K mg base 1 "_law_draw" ["_law_script", "_law_k", "_law_many"] (sp__law_draw K)) (D__law_fresh : Dfn P w K mg base 1 "_law_fresh" ["_law_path"] (sp__law_fresh K)) (D__law_right_row : Dfn P w K mg base 4 "_law_right_row" ["_law_script", "_law_k", "_law_helds", "_law_kinds", "_law_jobs"] (sp__law_right_row K)) :
    FnOk P w K mg base CX0 5 fa fd ["_law_script", "_law_paths_here", "_law_kinds", "_law_jobs"] (sp__law_right_rows K) := by
  refine F.ok sc__law_right_rows (fun vs H Q E h => ?_) (fun cdv A outer s H vs Q E hr h => ?_)
  · obtain ⟨a, pd, kd, jb, ps, kinds, jobs, rfl, _⟩ := h
    rfl
  have hu := hu_n hr 0 (by decide)
  obtain ⟨a, pd, kd, jb, ps, kinds, jobs, rfl, hS, hp, ⟨pn, pv', p0, p4⟩, hkd, lk0, lk, hjb, lj0, lj, q⟩ := h
  refine ⟨_, (pss_cons (ps_set (i := 4) sc__law_right_rows.nd rfl (by first | exact Or.inl rfl | exact Or.inr rfl) pe_dnewK)
  (pss_cons (ps_frz (ps_for PassesOwn.never rfl (pi_items (pe_items0 (pv 1))) (pg_tup rfl (pgs_cons (pg_name (i := 5) sc__law_right_rows.nd rfl (by first | exact Or.inl rfl | exact Or.inr rfl)) (pgs_cons (pg_name (i := 6) sc__law_right_rows.nd rfl (by first | exact Or.inl rfl | exact Or.inr rfl)) pgs_nil)))
  (pss_one (ps_dput hu (pv 4) (pv 5) (pe_callD D__law_fresh (hr.mono (by decide)) rfl (pa_cons (pv 6) pa_nil)) rfl))))
  (pss_cons (ps_set (i := 7) sc__law_right_rows.nd rfl (by first | exact Or.inl rfl | exact Or.inr rfl) (pe_callD D__law_draw (hr.mono (by decide)) rfl (pa_cons (pv 0) (pa_cons pe_int (pa_cons pe_int pa_nil)))))
  (pss_cons (PS.weak (t' := Wm K a pd kd jb) (ps_if (pt_cmpR op_eq (pe_callD D__law_draw (hr.mono (by decide)) rfl (pa_cons (pv 0) (pa_cons pe_int (pa_cons pe_int pa_nil)))) pe_int (nomark _)) (pss_one (ps_set (i := 7) sc__law_right_rows.nd rfl (by first | exact Or.inl rfl | exact Or.inr rfl) (pe_op op_add pe_int (pe_callD D__law_draw (hr.mono (by decide)) rfl (pa_cons (pv 0) (pa_cons pe_int (pa_cons pe_int pa_nil))))))) pss_nil) ?w3)
  (pss_one (ps_ret (pe_comp (frees := [("_law_script", 0), ("_law_helds", 4), ("_law_kinds", 2), ("_law_jobs", 3)]) ⟨by decide +kernel, rfl, rfl, by decide +kernel, ⟨⟨rfl, rfl, rfl, by decide +kernel⟩, ⟨⟨rfl, rfl, rfl, by decide +kernel⟩, ⟨⟨rfl, rfl, rfl, by decide +kernel⟩, ⟨⟨rfl, rfl, rfl, by decide +kernel⟩, trivial⟩⟩⟩⟩, by decide +kernel, cellsFor_at rfl, rfl⟩ rfl (pi_range1 rfl T.range (pa_cons (pv 7) pa_nil)) (fun _ _ _ _ => pifs_nil) (fun _ _ _ _ => by exact (pe_callD D__law_right_row (hr.mono (by decide)) rfl (pa_cons (pv 1) (pa_cons (pe_op op_add pe_int (pe_op op_mul pe_int (pv 0))) (pa_cons (pv 2) (pa_cons (pv 3) (pa_cons (pv 4) pa_nil)))))))))))))), ?_⟩
  case w3 =>
    rintro D σ G ⟨d, m, v5, v6, rfl, SG, m0, m1, q⟩
    refine ⟨_, rfl, a, _, _, rfl, SG, by decide, by decide, by decide, fun r _ _ => ⟨rfl, _, rfl, ite2 (fun _ => ?_) (fun _ => q m m0 m1)⟩⟩
    exact ⟨_, rfl, a, _, _, rfl, SG, by decide, by decide, by decide, fun r2 r20 r21 => ⟨_, _, rfl, rfl, q _ (by omega) (by omega)⟩⟩
  refine fun d nd => ?_
  have s1 := same_new nd (.dK [])
  have hd1 : upd H d (.dK []) d = some (.dK (heD [])) := upd_same
  generalize upd H d (.dK []) = H1 at s1 hd1 ⊢
  have npd : pd ≠ d := ne_of_none hp nd
  refine ⟨pd, _, s1 _ _ hp, fun o => ?_⟩
  have hf2 : upd H1 pd (.frz o (.dK (dI ps))) pd = some (.frz o (.dK (dI ps))) := upd_same
  have k2 : ∀ b u, b ≠ pd → H1 b = some u → upd H1 pd (.frz o (.dK (dI ps))) b = some u := fun b u nb e => by rw [upd_ne nb]; exact e
  have fr2 : ∀ b, upd H1 pd (.frz o (.dK (dI ps))) b = none → H b = none := fun b hb => by
    by_cases c : b = pd
    · rw [c, hf2] at hb; cases hb
    · rw [upd_ne c] at hb; exact s1.free hb
  generalize upd H1 pd (.frz o (.dK (dI ps))) = H2 at hf2 k2 fr2 ⊢
  refine ⟨_, rfl, pd, o, _, rfl, rfl, hf2, fun v nv => ⟨v, pd, o, _, rfl, upd_same, by rw [upd_ne (ne_of_none hf2 nv)]; exact hf2, ?_⟩⟩
  have s3 := same_new nv (IW v pd)
  generalize upd H2 v (IW v pd) = H3 at s3 ⊢
  have k3 : ∀ b u, b ≠ pd → H b = some u → H3 b = some u := fun b u nb e => s3 _ _ (k2 b u nb (s1 _ _ e))
  have fr3 : ∀ b, H3 b = none → H b = none := fun b hb => fr2 b (s3.free hb)
  have lps : (dI ps).length = ps.length := List.length_map _
  refine for_items (fun i σ G => ∃ (v5 v6 : Option V) (es : List HE), σ = [some (.ref a), some (.ref pd), some (.ref kd), some (.ref jb), some (.ref d), v5, v6, none] ∧ (∀ b u, b ≠ pd → H b = some u → G b = some u) ∧ (∀ b, G b = none → H b = none) ∧ G pd = some (.frz o (.dK (dI ps))) ∧ HsAt H G d es ∧ es.map (·.p) = (ps.take i).map (·.1) ∧ ∀ e ∈ es, ps.lookup e.p = some e.path ∧ e.g = ⟨[], 0, 0, []⟩) ⟨_, _, [], rfl, k3, fr3, s3 _ _ hf2, ⟨nd, s3 _ _ (k2 _ _ (Ne.symm npd) hd1), fun e h => (by cases h), fun e h => (by cases h), List.nodup_nil, fun e h => (by cases h), fun e h => (by cases h)⟩, rfl, fun e h => (by cases h)⟩ (fun i σ G _ z => ?_) (fun i k v p σ G hkv np z => ?_) (fun σ G z => ?_)
  · obtain ⟨v5, v6, es, rfl, kG, frG, hfG, _⟩ := z
    exact hfG
  · obtain ⟨v5, v6, es, rfl, kG, frG, hfG, AG, ep, eo⟩ := z
    obtain ⟨pq, epq, ek⟩ : ∃ pq : Str × Int, ps[i]? = some pq ∧ (k, v) = ((Sum.inr pq.1 : Key), V.int pq.2) := by
      unfold dI at hkv
      rw [List.getElem?_map] at hkv
      obtain ⟨pq, e1, e2⟩ := Option.map_eq_some_iff.mp hkv
      exact ⟨pq, e1, e2.symm⟩
    obtain ⟨rfl, rfl⟩ := Prod.mk.inj ek
    have pq4 := pv' pq (List.mem_of_getElem? epq)
    have s4 := same_new np (.tup [kV (Sum.inr pq.1), V.int pq.2])
    have hp4 : upd G p (.tup [kV (Sum.inr pq.1), V.int pq.2]) p = some (.tup [kV (Sum.inr pq.1), V.int pq.2]) := upd_same
    generalize upd G p (.tup [kV (Sum.inr pq.1), V.int pq.2]) = G4 at s4 hp4 ⊢
    refine ⟨p, _, rfl, SqT.of hp4, rfl, _, _, rfl, _, _, rfl, rfl, ?_⟩
    refine ⟨_, rfl, pq.2, rfl, fun h s t G5 s5 nh ns nt A5 => ?_⟩
    have s45 := s4.trans s5
    have A5' := AG.same s45
    have nk : ¬ pq.1 ∈ es.map (·.p) := by
      rw [ep]
      intro m
      obtain ⟨j, hj, ej⟩ := List.mem_iff_getElem.mp m
      have hj' : j < i ∧ j < ps.length := by
        rw [List.length_map, List.length_take] at hj
        omega
      have li := (List.getElem?_eq_some_iff.mp epq).1
      rw [List.getElem_map, List.getElem_take] at ej
      have := (List.nodup_iff_pairwise_ne.mp pn)
      have inj := List.pairwise_iff_getElem.mp this j i (by rw [List.length_map]; omega) (by rw [List.length_map]; omega) hj'.1
      apply inj
      rw [List.getElem_map, List.getElem_map, ej]
      exact congrArg Prod.fst (List.getElem?_eq_some_iff.mp epq).2.symm
    have vn : valV (heD es) (Sum.inr pq.1 : Key) = none := by
      cases e : valV (heD es) (Sum.inr pq.1 : Key) with
      | none => rfl
      | some u =>
        obtain ⟨e', he', ee, _⟩ := val_he e
        exact absurd (by rw [← ee]; exact List.mem_map_of_mem he') nk
    have lh : (heD es).length ≤ 4 := by
      unfold heD
      have e := congrArg List.length ep
      rw [List.length_map, List.length_map, List.length_take] at e
      rw [List.length_map]
      omega
    refine ⟨_, rfl, _, rfl, d, _, rfl, DPut.k (k := Sum.inr pq.1) A5'.o (small1000 (by omega)), ?_⟩
    rw [putK_new _ vn]
    have nn : ∀ b u, G4 b = some u → b ≠ h ∧ b ≠ s ∧ b ≠ t := fun b u e => ⟨ne_of_none e nh, ne_of_none e ns, ne_of_none e nt⟩
    have A6 := A5'.put (e := ⟨pq.1, h, s, t, pq.2, [], 0, 0, []⟩) nk A5 ⟨frG _ (s4.free nh), frG _ (s4.free ns)⟩ (fun f hf => ?_) ⟨Ne.symm (nn _ _ (s4 _ _ AG.o)).1, Ne.symm (nn _ _ (s4 _ _ AG.o)).2.1⟩
    · refine ⟨_, _, es ++ [⟨pq.1, h, s, t, pq.2, [], 0, 0, []⟩], rfl, fun b u nb e => ?_, fun b hb => ?_, ?_, A6, ?_, fun e he => ?_⟩
      · rw [upd_ne (ne_of_none e nd)]
        exact s45 _ _ (kG b u nb e)
      · by_cases c : b = d
        · rw [c, upd_same] at hb; cases hb
        · rw [upd_ne c] at hb; exact frG _ (s45.free hb)
      · rw [upd_ne npd]
        exact s45 _ _ hfG
      · rw [List.map_append, ep, List.take_add_one, epq, List.map_append]
        rfl
      · rcases List.mem_append.mp he with he | he
        · exact eo e he
        · rw [List.mem_singleton.mp he]
          exact ⟨lookup_nd pn (List.mem_of_getElem? epq), rfl⟩
    · have a1 := nn _ _ (s4 _ _ (AG.a f hf).o)
      have a2 := nn _ _ (s4 _ _ (AG.a f hf).hs)
      exact ⟨a1.1, a1.2.1, a2.1, a2.2.1⟩
  obtain ⟨v5, v6, es, rfl, kG, frG, hfG, AG, ep, eo⟩ := z
  rw [lps, List.take_of_length_le (Nat.le_refl _)] at ep
  refine ⟨hfG, ?_⟩
  have hd6 : upd G pd (.dK (dI ps)) pd = some (.dK (dI ps)) := upd_same
  have k6 : ∀ b u, b ≠ pd → G b = some u → upd G pd (.dK (dI ps)) b = some u := fun b u nb e => by rw [upd_ne nb]; exact e
  generalize upd G pd (.dK (dI ps)) = G6 at hd6 k6 ⊢
  have sm : Same H G6 := fun b u e => by
    by_cases c : b = pd
    · rw [c] at e ⊢; rw [hd6, ← hp]; exact e
    · exact k6 _ _ c (kG b u c e)
  have A6 : HsAt H G6 d es := AG.keep k6 (Ne.symm npd) (fun e he => ⟨Ne.symm (ne_of_none hp (AG.n e he).1), Ne.symm (ne_of_none hp (AG.n e he).2), ne_of (AG.a e he).ht hfG (by intro z; cases z)⟩) (fun xs z => by rw [hfG] at z; cases z)
  have le : es.length = ps.length := by
    have := congrArg List.length ep
    rw [List.length_map, List.length_map] at this
    exact this
  refine ⟨_, rfl, a, _, _, rfl, hS.same sm, by decide, by decide, by decide, fun m m0 m1 => ?_⟩
  refine ⟨d, m, v5, v6, rfl, hS.same sm, m0, by omega, fun m m0 m1 => ?_⟩
  refine ⟨_, rfl, _, rfl, by omega, by omega, ?_⟩
  refine compB_rng (fun L i ys G => ∃ (prs : List (Addr × Row67)) (es : List HE), ys = prs.map (fun p => V.ref p.1) ∧ prs.length = i ∧ Same H G ∧ H L = none ∧ HsAt H G d es ∧ 0 < es.length ∧ es.length ≤ 4 ∧ G L = some (.lst ys) ∧ (∀ p ∈ prs, G p.1 = some (.tup p.2.vs)) ∧ ((∀ j, j < (prs.map (·.2)).length → rightAt ps (prs.map (·.2)) j) ∧ ∀ r ∈ prs.map (·.2), nnR r) ∧ ∀ e ∈ es, ps.lookup e.p = some e.path ∧ e.g = gRun e.p (prs.map (·.2)) ∧ e.st.length ≤ i ∧ e.tg.length ≤ i ∧ 0 ≤ e.b ∧ 0 ≤ e.c ∧ e.t ≠ L) (small1000 (by omega)) (fun L nL => ?_) (fun L i ys G z => ?_) (fun L i ys G N hi nL z nx => ?_) (fun L ys G nL z => ?_)
  · have s7 := same_new nL (.lst [])
    refine ⟨[], es, rfl, rfl, sm.trans s7, sm.free nL, A6.same s7, by omega, by omega, upd_same, fun p h => (by cases h), ⟨fun j hj => absurd hj (Nat.not_lt_zero _), fun r h => (by cases h)⟩, fun e he => ?_⟩
    obtain ⟨e1, e2⟩ := eo e he
    injection e2 with z1 z2 z3 z4
    refine ⟨e1, eo e he |>.2, by rw [z1]; exact Nat.le_refl _, ?_, by rw [z2]; exact Int.le_refl _, by rw [z3]; exact Int.le_refl _, ne_of_none (A6.a e he).ht nL⟩
    have := congrArg List.length z4
    rw [List.length_map] at this
    exact Nat.le_of_eq this
  · obtain ⟨prs, es', rfl, lp, _, _, _, _, _, hL, _⟩ := z
    exact ⟨hL, by rw [List.length_map]; omega⟩
  · obtain ⟨prs, es', rfl, lp, sG, n0, AG', le0, le4, hL, ht, gd, bd⟩ := z
    refine iteT ?_
    refine ⟨_, rfl, _, rfl, _, _, rfl, rfl, .inl ⟨by decide, by decide⟩, _, _, rfl, rfl, _, rfl, _, rfl, _, rfl, a, d, kd, jb, _, kinds, jobs, H, es', rfl, hS, sG, by omega, by omega, AG', le0, by omega, hkd, lk0, lk, hjb, lj0, lj, fun e he => ?_, fun r row e e' G' off nr hr' he pr' go' A' ep' eh' es'' epath eg b' c' nt' nn' => ?_⟩
    · obtain ⟨_, _, z1, z2, z3, z4, _⟩ := bd e he
      exact ⟨by omega, by omega, z3, z4⟩
    have tu : ∀ b xs, G b = some (.tup xs) → G' b = some (.tup xs) := fun b xs e => off b _ (fun f hf => ⟨ne_of e (AG'.a f hf).o (by intro z; cases z), ne_of e (AG'.a f hf).hs (by intro z; cases z)⟩) e
    have li : ∀ b xs, G b = some (.lst xs) → G' b = some (.lst xs) := fun b xs e => off b _ (fun f hf => ⟨ne_of e (AG'.a f hf).o (by intro z; cases z), ne_of e (AG'.a f hf).hs (by intro z; cases z)⟩) e
    have hL' := li _ _ hL
    refine ⟨hL', nx _ _ ?_⟩
    have nr2 : r ≠ L := Ne.symm (ne_of_none hL nr)
    have nLe : ∀ f ∈ esPut e' es', f.t ≠ L := fun f hf => by
      rcases esPut_mem hf with rfl | ⟨hf, _⟩
      · rcases nt' with z | z
        · rw [z]; exact (bd e he).2.2.2.2.2.2
        · exact Ne.symm (ne_of_none hL z)
      · exact (bd f hf).2.2.2.2.2.2
    have kL : ∀ b o, b ≠ L → G' b = some o → upd G' L (.lst (prs.map (fun p => V.ref p.1) ++ [V.ref r])) b = some o := fun b o nb e => by rw [upd_ne nb]; exact e
    have A7 := A'.keep kL (fun z => by rw [← z, A'.o] at hL'; cases hL') (fun f hf => ⟨fun z => (by rw [← z, (A'.a f hf).o] at hL'; cases hL'), fun z => (by rw [← z, (A'.a f hf).hs] at hL'; cases hL'), nLe f hf⟩) (fun xs z => by rw [hL'] at z; cases z)
    have lpe : (esPut e' es').length = es'.length := List.length_map _
    have erows : (prs ++ [(r, row)]).map (·.2) = prs.map (·.2) ++ [row] := by rw [List.map_append]; rfl
    obtain ⟨q1, q2, q3, q4, _⟩ := bd e he
    have eq2 : e.g = gRun row.pr (prs.map (·.2)) := by rw [pr']; exact q2
    refine ⟨prs ++ [(r, row)], esPut e' es', by rw [List.map_append]; rfl, by rw [List.length_append, lp]; rfl, ?_, n0, A7, by omega, by omega, upd_same, fun p hp' => ?_, ?_, fun f hf => ?_⟩
    · refine same_on n0 (fun b o eb => off b o (fun f hf => ?_) (sG _ _ eb)) _
      exact ⟨ne_of_none eb (AG'.n f hf).1, ne_of_none eb (AG'.n f hf).2⟩
    · rcases List.mem_append.mp hp' with hp' | hp'
      · have tp := tu _ _ (ht p hp')
        exact kL _ _ (ne_of tp hL' (by intro z; cases z)) tp
      · rw [List.mem_singleton.mp hp']
        exact kL _ _ nr2 hr'
    · rw [erows]
      refine ⟨right_snoc gd.1 (pth := e.path) (by rw [pr']; exact q1) (by rw [← eq2]; exact go'), fun r0 hr0 => ?_⟩
      rcases List.mem_append.mp hr0 with hr0 | hr0
      · exact gd.2 r0 hr0
      · rw [List.mem_singleton.mp hr0]; exact nn'
    · rw [erows, gRun_snoc]
      unfold gStep
      rcases esPut_mem hf with rfl | ⟨hf, nf⟩
      · rw [if_pos (pr'.trans ep'.symm), ep', ← q2]
        have e1 : f.st = stS e.st row := congrArg G69.st eg
        have e2 : f.tg.map (·.2) = tgS (e.tg.map (·.2)) row := congrArg G69.tg eg
        have l2 := congrArg List.length e2
        have l3 := tgS_len (tg := e.tg.map (·.2)) (r := row)
        rw [List.length_map] at l2 l3
        have l1 := stS_len (st := e.st) (r := row)
        exact ⟨by rw [epath]; exact q1, eg, by rw [e1]; omega, by omega, b', c', nLe _ (by assumption)⟩
      · rw [if_neg (fun z => nf (by rw [ep', ← pr', z]))]
        obtain ⟨z1, z2, z3, z4, z5, z6, z7⟩ := bd f hf
        exact ⟨z1, z2, by omega, by omega, z5, z6, z7⟩
  · obtain ⟨prs, es', rfl, lp, sG, n0, _, _, _, hL, ht, gd, _⟩ := z
    exact q L prs G sG n0 ⟨hL, ht⟩ (by omega) gd.1 gd.2

end
end My

namespace My
open PySem L2
open Blk (sg sg_inj sg_app)
section
variable {P : Program} {w : World} {K : PySem.W.Frag} {mg : Str → Option Value} {base : Heap}
theorem in_two {x y v : V} {j : Nat} (h : [x, y][j]? = some v) : v = x ∨ v = y := by
  match j, h with
  | 0, h => exact .inl (Option.some.inj h).symm
  | 1, h => exact .inr (Option.some.inj h).symm
  | j + 2, h => cases h
def sp__law_any_row (K : PySem.W.Frag) : Sp := fun vs H Q _ => ∃ (a hl kd jb : Addr) (k : Int) (halls kinds jobs : List Str), vs = [.ref a, .int k, .ref hl, .ref kd, .ref jb] ∧ Scr K H a ∧ 0 ≤ k ∧ k ≤ 1000 ∧ StrsAt H hl halls ∧ 0 < halls.length ∧ StrsAt H kd kinds ∧ 0 < kinds.length ∧ StrsAt H jb jobs ∧ 0 < jobs.length ∧
  ∀ r row H', Same H H' → H' r = some (.tup row.vs) → nnR row → Q (.ref r) H'
theorem sc__law_any_row : FnScope ["_law_script", "_law_k", "_law_halls", "_law_kinds", "_law_jobs", "_law_printer", "_law_way", "_law_one", "_law_other", "_law_kind", "_law_name", "_law_number_here"] ["_law_script", "_law_k", "_law_halls", "_law_kinds", "_law_jobs"] (defScope s__law_any_row) := ⟨rfl, rfl, rfl, by decide +kernel, rfl, by decide +kernel, by decide +kernel⟩
theorem ok__law_any_row {fa cAccount : Addr} {fd : FuncData} (F : Fun K "_law_any_row" "_law_any_row" s__law_any_row fa fd) (T : Txt K mg cAccount) (D__law_draw : Dfn P w K mg base 1 "_law_draw" ["_law_script", "_law_k", "_law_many"] (sp__law_draw K)) (D__law_number : Dfn P w K mg base 2 "_law_number" ["_law_script", "_law_k"] (sp__law_number K)) :
    FnOk P w K mg base CX0 3 fa fd ["_law_script", "_law_k", "_law_halls", "_law_kinds", "_law_jobs"] (sp__law_any_row K) := by
  refine F.ok sc__law_any_row (fun vs H Q E h => ?_) (fun cdv A outer s H vs Q E hr h => ?_)
  · obtain ⟨a, hl, kd, jb, k, halls, kinds, jobs, rfl, _⟩ := h
    rfl
  obtain ⟨a, hl, kd, jb, k, halls, kinds, jobs, rfl, hS, k0, k1, hh, lh, hk, lk, hj, lj, q⟩ := h
  refine ⟨_, (pss_cons (ps_set (i := 5) sc__law_any_row.nd rfl (by first | exact Or.inl rfl | exact Or.inr rfl) (pe_ix ix_listA (pv 2) (pe_callD D__law_draw (hr.mono (by decide)) rfl (pa_cons (pv 0) (pa_cons (pv 1) (pa_cons (pe_callB call_len_seq rfl T.len PySem.boot_len (pa_cons (pv 2) pa_nil)) pa_nil)))) (fun _ _ => rfl)))
  (pss_cons (ps_set (i := 6) sc__law_any_row.nd rfl (by first | exact Or.inl rfl | exact Or.inr rfl) (pe_callD D__law_draw (hr.mono (by decide)) rfl (pa_cons (pv 0) (pa_cons (pe_op op_add (pv 1) pe_int) (pa_cons pe_int pa_nil)))))
  (pss_cons (ps_set (i := 7) sc__law_any_row.nd rfl (by first | exact Or.inl rfl | exact Or.inr rfl) (pe_callD D__law_number (hr.mono (by decide)) rfl (pa_cons (pv 0) (pa_cons (pe_op op_add (pv 1) pe_int) pa_nil))))
  (pss_cons (ps_set (i := 8) sc__law_any_row.nd rfl (by first | exact Or.inl rfl | exact Or.inr rfl) (pe_callD D__law_number (hr.mono (by decide)) rfl (pa_cons (pv 0) (pa_cons (pe_op op_add (pv 1) pe_int) pa_nil))))
  (pss_cons (ps_set (i := 9) sc__law_any_row.nd rfl (by first | exact Or.inl rfl | exact Or.inr rfl) (pe_ix ix_listA (pv 3) (pe_callD D__law_draw (hr.mono (by decide)) rfl (pa_cons (pv 0) (pa_cons (pe_op op_add (pv 1) pe_int) (pa_cons (pe_callB call_len_seq rfl T.len PySem.boot_len (pa_cons (pv 3) pa_nil)) pa_nil)))) (fun _ _ => rfl)))
  (pss_cons (ps_set (i := 10) sc__law_any_row.nd rfl (by first | exact Or.inl rfl | exact Or.inr rfl) (pe_ix ix_listA (pv 4) (pe_callD D__law_draw (hr.mono (by decide)) rfl (pa_cons (pv 0) (pa_cons (pe_op op_add (pv 1) pe_int) (pa_cons (pe_callB call_len_seq rfl T.len PySem.boot_len (pa_cons (pv 4) pa_nil)) pa_nil)))) (fun _ _ => rfl)))
  (pss_cons (ps_set (i := 11) sc__law_any_row.nd rfl (by first | exact Or.inl rfl | exact Or.inr rfl) (pe_op op_sub (pe_callD D__law_draw (hr.mono (by decide)) rfl (pa_cons (pv 0) (pa_cons (pe_op op_add (pv 1) pe_int) (pa_cons pe_int pa_nil)))) pe_int))
  (pss_cons (ps_if (pt_cmpR op_eq (pv 6) pe_int (nomark _)) (pss_one (ps_ret (pe_tup (pa_cons pe_str (pa_cons (pv 5) (pa_cons (pv 9) (pa_cons (pv 7) pa_nil))))))) pss_nil)
  (pss_cons (ps_if (pt_cmpR op_eq (pv 6) pe_int (nomark _)) (pss_one (ps_ret (pe_tup (pa_cons pe_str (pa_cons (pv 5) (pa_cons (pv 7) (pa_cons (pv 8) pa_nil))))))) pss_nil)
  (pss_cons (ps_if (pt_cmpR op_lt (pv 6) pe_int (nomark _)) (pss_one (ps_ret (pe_tup (pa_cons pe_str (pa_cons (pv 5) (pa_cons (pv 9) (pa_cons (pv 10) (pa_cons (pv 11) (pa_cons (pv 7) (pa_cons (pv 8) pa_nil)))))))))) pss_nil)
  (pss_one (ps_ret (pe_tup (pa_cons (pe_ix ix_listA (pe_lst (pa_cons pe_str (pa_cons pe_str pa_nil))) (pe_op op_sub (pv 6) pe_int) (fun _ _ => rfl)) (pa_cons (pv 5) (pa_cons (pv 10) (pa_cons (pv 11) pa_nil))))))))))))))))), ?_⟩
  have lhm : (halls.map V.str).length = halls.length := List.length_map _
  have lkm : (kinds.map V.str).length = kinds.length := List.length_map _
  have ljm : (jobs.map V.str).length = jobs.length := List.length_map _
  refine ⟨_, rfl, _, rfl, _, rfl, _, rfl, hl, _, rfl, .inl (SqL.of hh), a, _, _, rfl, hS, by omega, by omega, by omega, fun i i0 i1 => ⟨hl, _, _, rfl, rfl, SqL.of hh, i0, i1, fun v hv => ?_⟩⟩
  obtain ⟨pz, rfl, _⟩ := str_of7 hv
  refine ⟨_, rfl, _, rfl, _, _, rfl, rfl, a, _, _, rfl, hS, by omega, by omega, by decide, fun way w0 w1 => ?_⟩
  refine ⟨_, rfl, _, rfl, _, _, rfl, rfl, a, _, rfl, hS, by omega, by omega, fun n1 n10 => ?_⟩
  refine ⟨_, rfl, _, rfl, _, _, rfl, rfl, a, _, rfl, hS, by omega, by omega, fun n2 n20 => ?_⟩
  refine ⟨_, rfl, _, rfl, _, rfl, _, _, rfl, rfl, _, rfl, kd, _, rfl, .inl (SqL.of hk), a, _, _, rfl, hS, by omega, by omega, by omega, fun i i0 i1 => ⟨kd, _, _, rfl, rfl, SqL.of hk, i0, i1, fun v hv => ?_⟩⟩
  obtain ⟨kz, rfl, _⟩ := str_of7 hv
  refine ⟨_, rfl, _, rfl, _, rfl, _, _, rfl, rfl, _, rfl, jb, _, rfl, .inl (SqL.of hj), a, _, _, rfl, hS, by omega, by omega, by omega, fun i i0 i1 => ⟨jb, _, _, rfl, rfl, SqL.of hj, i0, i1, fun v hv => ?_⟩⟩
  obtain ⟨jz, rfl, _⟩ := str_of7 hv
  refine ⟨_, rfl, _, rfl, _, _, rfl, rfl, a, _, _, rfl, hS, by omega, by omega, by decide, fun n5 _ _ => ⟨_, _, rfl, rfl, ?_⟩⟩
  refine ⟨_, rfl, rfl, _, rfl, ite2 (fun c1 => ?_) (fun c1 => ?_)⟩
  · exact ⟨_, rfl, _, rfl, _, rfl, small (by show 4 ≤ 1000; decide), fun u nu => q u (.load pz kz n1) _ (same_new nu _) upd_same n10⟩
  refine ⟨_, rfl, rfl, _, rfl, ite2 (fun c2 => ?_) (fun c2 => ?_)⟩
  · exact ⟨_, rfl, _, rfl, _, rfl, small (by show 4 ≤ 1000; decide), fun u nu => q u (.ink pz n1 n2) _ (same_new nu _) upd_same trivial⟩
  refine ⟨_, rfl, _, _, rfl, rfl, _, rfl, ite2 (fun c3 => ?_) (fun c3 => ?_)⟩
  · exact ⟨_, rfl, _, rfl, _, rfl, _, rfl, _, rfl, _, rfl, small (by show 7 ≤ 1000; decide), fun u nu => q u (.feed pz kz jz (n5 - 1) n1 n2) _ (same_new nu _) upd_same trivial⟩
  have c3' := of_decide_eq_false (eq_false_of_ne_true c3)
  refine ⟨small (by show 2 ≤ 1000; decide), fun l nl => ?_⟩
  have s1 := same_new nl (.lst [V.str otW, V.str lsW])
  have hl1 : upd H l (.lst [V.str otW, V.str lsW]) l = some (.lst [V.str otW, V.str lsW]) := upd_same
  generalize upd H l (.lst [V.str otW, V.str lsW]) = H1 at s1 hl1 ⊢
  refine ⟨_, rfl, _, _, rfl, rfl, l, _, _, rfl, rfl, SqL.of hl1, by omega, by show way - 4 < 2; omega, fun v hv => ?_⟩
  rcases in_two hv with rfl | rfl
  · exact ⟨_, rfl, _, rfl, _, rfl, small (by show 4 ≤ 1000; decide), fun u nu => q u (.out pz jz (n5 - 1)) _ (s1.trans (same_new nu _)) upd_same trivial⟩
  · exact ⟨_, rfl, _, rfl, _, rfl, small (by show 4 ≤ 1000; decide), fun u nu => q u (.lost pz jz (n5 - 1)) _ (s1.trans (same_new nu _)) upd_same trivial⟩
def Row67.setPr (o : Str) : Row67 → Row67
  | .load _ k n => .load o k n
  | .ink _ n m => .ink o n m
  | .feed _ k j m n n2 => .feed o k j m n n2
  | .out _ j m => .out o j m
  | .lost _ j m => .lost o j m
def Row67.tg : Row67 → Str
  | .load _ _ _ => ldW
  | .ink _ _ _ => ikW
  | .feed _ _ _ _ _ _ => fdW
  | .out _ _ _ => otW
  | .lost _ _ _ => lsW
theorem row_tg (r : Row67) : atI r.vs 0 = some (.str r.tg) := by cases r <;> rfl
theorem setPr_vs (r : Row67) (o : Str) : (r.setPr o).vs = [.str r.tg, .str o] ++ cutV r.vs (some 2) none := by cases r <;> rfl
theorem setPr_nn {r : Row67} {o : Str} (h : nnR r) : nnR (r.setPr o) := by cases r <;> exact h
theorem cut2_ne (r : Row67) : cutV r.vs (some 2) none ≠ [] := by cases r <;> (intro z; cases z)
theorem cut2_len (r : Row67) : (cutV r.vs (some 2) none).length ≤ 7 := Nat.le_trans (cutV_length _ _ _) (by cases r <;> first | exact (show 4 ≤ 7 by decide) | exact (show 7 ≤ 7 by decide))
theorem six2 (r : Row67) : ¬ (HT.sIx r.vs.length 0 (some 2) = 0 ∧ HT.sIx r.vs.length r.vs.length none = r.vs.length) := by
  cases r <;> exact fun z => absurd (show (2 : Nat) = 0 from z.1) (by decide)
def sp__law_turned (K : PySem.W.Frag) : Sp := fun vs H Q _ => ∃ (a r hl kd jb : Addr) (row : Row67) (halls kinds jobs : List Str), vs = [.ref a, .ref r, .ref hl, .ref kd, .ref jb] ∧ Scr K H a ∧ H r = some (.tup row.vs) ∧ nnR row ∧ StrsAt H hl halls ∧ 0 < halls.length ∧ StrsAt H kd kinds ∧ kinds.length = 3 ∧ StrsAt H jb jobs ∧ jobs.length = 3 ∧
  ∀ r row H', Same H H' → H' r = some (.tup row.vs) → nnR row → Q (.ref r) H'
theorem sc__law_turned : FnScope ["_law_script", "_law_row", "_law_halls", "_law_kinds", "_law_jobs", "_law_way", "_law_other", "_law_kind", "_law_name", "_law_number_here"] ["_law_script", "_law_row", "_law_halls", "_law_kinds", "_law_jobs"] (defScope s__law_turned) := ⟨rfl, rfl, rfl, by decide +kernel, rfl, by decide +kernel, by decide +kernel⟩
theorem ok__law_turned {fa cAccount : Addr} {fd : FuncData} (F : Fun K "_law_turned" "_law_turned" s__law_turned fa fd) (T : Txt K mg cAccount) (D__law_draw : Dfn P w K mg base 1 "_law_draw" ["_law_script", "_law_k", "_law_many"] (sp__law_draw K)) :
    FnOk P w K mg base CX0 2 fa fd ["_law_script", "_law_row", "_law_halls", "_law_kinds", "_law_jobs"] (sp__law_turned K) := by
  refine F.ok sc__law_turned (fun vs H Q E h => ?_) (fun cdv A outer s H vs Q E hr h => ?_)
  · obtain ⟨a, r, hl, kd, jb, row, halls, kinds, jobs, rfl, _⟩ := h
    rfl
  obtain ⟨a, r, hl, kd, jb, row, halls, kinds, jobs, rfl, hS, hrow, nn, hh, lh, hk, lk, hj, lj, q⟩ := h
  refine ⟨_, (pss_cons (ps_set (i := 5) sc__law_turned.nd rfl (by first | exact Or.inl rfl | exact Or.inr rfl) (pe_callD D__law_draw (hr.mono (by decide)) rfl (pa_cons (pv 0) (pa_cons pe_int (pa_cons pe_int pa_nil)))))
  (pss_cons (ps_set (i := 6) sc__law_turned.nd rfl (by first | exact Or.inl rfl | exact Or.inr rfl) (pe_ix ix_listA (pv 2) (pe_callD D__law_draw (hr.mono (by decide)) rfl (pa_cons (pv 0) (pa_cons pe_int (pa_cons (pe_callB call_len_seq rfl T.len PySem.boot_len (pa_cons (pv 2) pa_nil)) pa_nil)))) (fun _ _ => rfl)))
  (pss_cons (ps_if (pt_cmpR op_eq (pv 5) pe_int (nomark _)) (pss_one (ps_ret (pe_op op_catT (pe_tup (pa_cons (pe_ix ix_tup (pv 1) pe_int (fun _ _ => rfl)) (pa_cons (pv 6) pa_nil))) (pe_slice sl_tup (pv 1) (po_some pe_int) po_none)))) pss_nil)
  (pss_cons (ps_if (pt_cmpR op_eq (pe_ix ix_tup (pv 1) pe_int (fun _ _ => rfl)) pe_str (nomark _)) (pss_cons (ps_set (i := 7) sc__law_turned.nd rfl (by first | exact Or.inl rfl | exact Or.inr rfl) (pe_ix ix_listA (pe_lst (pa_cons (pe_ix ix_tup (pv 1) pe_int (fun _ _ => rfl)) (pa_cons (pe_ix ix_listA (pv 3) (pe_callD D__law_draw (hr.mono (by decide)) rfl (pa_cons (pv 0) (pa_cons pe_int (pa_cons pe_int pa_nil)))) (fun _ _ => rfl)) pa_nil))) (pe_callTy call_int1 rfl T.int bt_int (pa_cons (pe_cmpR op_eq (pv 5) pe_int (nomark _)) pa_nil)) (fun _ _ => rfl)))
  (pss_cons (ps_set (i := 8) sc__law_turned.nd rfl (by first | exact Or.inl rfl | exact Or.inr rfl) (pe_ix ix_listA (pe_lst (pa_cons (pe_ix ix_tup (pv 1) pe_int (fun _ _ => rfl)) (pa_cons (pe_ix ix_listA (pv 4) (pe_callD D__law_draw (hr.mono (by decide)) rfl (pa_cons (pv 0) (pa_cons pe_int (pa_cons pe_int pa_nil)))) (fun _ _ => rfl)) pa_nil))) (pe_callTy call_int1 rfl T.int bt_int (pa_cons (pe_cmpR op_eq (pv 5) pe_int (nomark _)) pa_nil)) (fun _ _ => rfl)))
  (pss_cons (ps_set (i := 9) sc__law_turned.nd rfl (by first | exact Or.inl rfl | exact Or.inr rfl) (pe_op op_add (pe_ix ix_tup (pv 1) pe_int (fun _ _ => rfl)) (pe_callTy call_int1 rfl T.int bt_int (pa_cons (pe_cmpR op_eq (pv 5) pe_int (nomark _)) pa_nil))))
  (pss_one (ps_ret (pe_tup (pa_cons pe_str (pa_cons (pe_ix ix_tup (pv 1) pe_int (fun _ _ => rfl)) (pa_cons (pv 7) (pa_cons (pv 8) (pa_cons (pv 9) (pa_cons (pe_op op_add (pe_ix ix_tup (pv 1) pe_int (fun _ _ => rfl)) (pe_callTy call_int1 rfl T.int bt_int (pa_cons (pe_cmpR op_eq (pv 5) pe_int (nomark _)) pa_nil))) (pa_cons (pe_op op_add (pe_ix ix_tup (pv 1) pe_int (fun _ _ => rfl)) (pe_callTy call_int1 rfl T.int bt_int (pa_cons (pe_cmpR op_eq (pv 5) pe_int (nomark _)) pa_nil))) pa_nil))))))))))))) pss_nil)
  (pss_cons (ps_if (pt_cmpR op_eq (pe_ix ix_tup (pv 1) pe_int (fun _ _ => rfl)) pe_str (nomark _)) (pss_one (ps_ret (pe_tup (pa_cons pe_str (pa_cons (pe_ix ix_tup (pv 1) pe_int (fun _ _ => rfl)) (pa_cons (pe_ix ix_listA (pv 3) (pe_callD D__law_draw (hr.mono (by decide)) rfl (pa_cons (pv 0) (pa_cons pe_int (pa_cons pe_int pa_nil)))) (fun _ _ => rfl)) (pa_cons (pe_op op_fdiv (pe_ix ix_tup (pv 1) pe_int (fun _ _ => rfl)) pe_int) pa_nil))))))) pss_nil)
  (pss_cons (ps_if (pt_cmpR op_eq (pe_ix ix_tup (pv 1) pe_int (fun _ _ => rfl)) pe_str (nomark _)) (pss_one (ps_ret (pe_tup (pa_cons pe_str (pa_cons (pe_ix ix_tup (pv 1) pe_int (fun _ _ => rfl)) (pa_cons (pe_op op_fdiv (pe_ix ix_tup (pv 1) pe_int (fun _ _ => rfl)) pe_int) (pa_cons (pe_op op_mul (pe_ix ix_tup (pv 1) pe_int (fun _ _ => rfl)) (pe_callTy call_int1 rfl T.int bt_int (pa_cons (pe_cmpR op_gt (pv 5) pe_int (nomark _)) pa_nil))) pa_nil))))))) pss_nil)
  (pss_cons (ps_if (pt_cmpR op_lt (pv 5) pe_int (nomark _)) (pss_one (ps_ret (pe_op op_catT (pe_slice sl_tup (pv 1) po_none (po_some pe_int)) (pe_tup (pa_cons (pe_ix ix_listA (pv 4) (pe_callD D__law_draw (hr.mono (by decide)) rfl (pa_cons (pv 0) (pa_cons pe_int (pa_cons pe_int pa_nil)))) (fun _ _ => rfl)) (pa_cons (pe_ix ix_tup (pv 1) pe_int (fun _ _ => rfl)) pa_nil)))))) pss_nil)
  (pss_one (ps_ret (pe_op op_catT (pe_slice sl_tup (pv 1) po_none (po_some pe_int)) (pe_tup (pa_cons (pe_op op_add (pe_ix ix_tup (pv 1) pe_int (fun _ _ => rfl)) pe_int) pa_nil)))))))))))), ?_⟩
  have z2 : 2 ≤ sizeLine := small (by decide)
  have lhm : (halls.map V.str).length = halls.length := List.length_map _
  have lkm : (kinds.map V.str).length = kinds.length := List.length_map _
  have ljm : (jobs.map V.str).length = jobs.length := List.length_map _
  have T0 := SqT.of (K := K) hrow
  refine ⟨_, rfl, a, _, _, rfl, hS, by omega, by omega, by decide, fun way w0 w1 => ?_⟩
  refine ⟨_, rfl, _, rfl, _, rfl, hl, _, rfl, .inl (SqL.of hh), a, _, _, rfl, hS, by omega, by omega, by omega, fun i i0 i1 => ⟨hl, _, _, rfl, rfl, SqL.of hh, i0, i1, fun v hv => ?_⟩⟩
  obtain ⟨oz, rfl, _⟩ := str_of7 hv
  refine ⟨_, rfl, rfl, _, rfl, ite2 (fun c1 => ?_) (fun c1 => ?_)⟩
  · refine ⟨_, rfl, r, _, 0, _, rfl, rfl, T0, row_tg row, _, rfl, z2, fun u nu => ?_⟩
    have s1 := same_new nu (.tup [V.str row.tg, V.str oz])
    have hu1 : upd H u (.tup [V.str row.tg, V.str oz]) u = some (.tup [V.str row.tg, V.str oz]) := upd_same
    generalize upd H u (.tup [V.str row.tg, V.str oz]) = H1 at s1 hu1 ⊢
    refine ⟨_, rfl, _, rfl, r, _, rfl, SqT.of (s1 _ _ hrow), six2 row, fun v nv => ?_⟩
    have s2 := same_new nv (.tup (cutV row.vs (some 2) none))
    have hv2 : upd H1 v (.tup (cutV row.vs (some 2) none)) v = some (.tup (cutV row.vs (some 2) none)) := upd_same
    generalize upd H1 v (.tup (cutV row.vs (some 2) none)) = H2 at s2 hv2 ⊢
    refine ⟨u, v, _, _, rfl, rfl, SqT.of (s2 _ _ hu1), SqT.of hv2, (by intro z; cases z), small (by have := cut2_len row; show 2 + _ ≤ 1000; omega), fun z => absurd z (cut2_ne row), fun _ w nw => ?_⟩
    exact q w (row.setPr oz) _ (s1.trans (s2.trans (same_new nw _))) (by rw [setPr_vs]; exact upd_same) (setPr_nn nn)
  cases row with
  | feed p k j m n n2 =>
    refine ⟨_, rfl, r, _, 0, _, rfl, rfl, T0, rfl, rfl, _, rfl, iteYes rfl ?_⟩
    refine ⟨_, rfl, r, _, 2, _, rfl, rfl, T0, rfl, _, rfl, _, rfl, a, _, _, rfl, hS, by omega, by omega, by decide, fun i i0 i1 => ⟨kd, _, _, rfl, rfl, SqL.of hk, i0, by omega, fun v hv => ?_⟩⟩
    obtain ⟨kz, rfl, _⟩ := str_of7 hv
    refine ⟨small (by show 2 ≤ 1000; decide), fun l1 nl1 => ?_⟩
    have s1 := same_new nl1 (.lst [V.str k, V.str kz])
    have hl1 : upd H l1 (.lst [V.str k, V.str kz]) l1 = some (.lst [V.str k, V.str kz]) := upd_same
    generalize upd H l1 (.lst [V.str k, V.str kz]) = H1 at s1 hl1 ⊢
    refine ⟨_, rfl, rfl, .inr ⟨_, rfl, l1, _, _, rfl, rfl, SqL.of hl1, (by split <;> decide), (by show (if _ then (1 : Int) else 0) < 2; split <;> decide), fun v hv => ?_⟩⟩
    obtain ⟨kz', rfl⟩ : ∃ z : Str, v = .str z := by
      rcases in_two hv with rfl | rfl
      · exact ⟨_, rfl⟩
      · exact ⟨_, rfl⟩
    have T1 := SqT.of (K := K) (s1 _ _ hrow)
    have hj1 := s1 _ _ hj
    refine ⟨_, rfl, r, _, 3, _, rfl, rfl, T1, rfl, _, rfl, _, rfl, a, _, _, rfl, hS.same s1, by omega, by omega, by decide, fun i i0 i1 => ⟨jb, _, _, rfl, rfl, SqL.of hj1, i0, by omega, fun v hv => ?_⟩⟩
    obtain ⟨jz, rfl, _⟩ := str_of7 hv
    refine ⟨small (by show 2 ≤ 1000; decide), fun l2 nl2 => ?_⟩
    have s2 := same_new nl2 (.lst [V.str j, V.str jz])
    have hl2 : upd H1 l2 (.lst [V.str j, V.str jz]) l2 = some (.lst [V.str j, V.str jz]) := upd_same
    generalize upd H1 l2 (.lst [V.str j, V.str jz]) = H2 at s2 hl2 ⊢
    refine ⟨_, rfl, rfl, .inr ⟨_, rfl, l2, _, _, rfl, rfl, SqL.of hl2, (by split <;> decide), (by show (if _ then (1 : Int) else 0) < 2; split <;> decide), fun v hv => ?_⟩⟩
    obtain ⟨jz', rfl⟩ : ∃ z : Str, v = .str z := by
      rcases in_two hv with rfl | rfl
      · exact ⟨_, rfl⟩
      · exact ⟨_, rfl⟩
    have s02 := s1.trans s2
    have T2 := SqT.of (K := K) (s02 _ _ hrow)
    refine ⟨_, rfl, r, _, 4, _, rfl, rfl, T2, rfl, _, rfl, rfl, .inr ⟨_, rfl, _, _, rfl, rfl, ?_⟩⟩
    refine ⟨_, rfl, r, _, 1, _, rfl, rfl, T2, rfl, _, rfl, _, rfl, _, rfl, _, rfl, r, _, 5, _, rfl, rfl, T2, rfl, _, rfl, rfl, .inr ⟨_, rfl, _, _, rfl, rfl, _, rfl, r, _, 6, _, rfl, rfl, T2, rfl, _, rfl, rfl, .inr ⟨_, rfl, _, _, rfl, rfl, small (by show 7 ≤ 1000; decide), fun u nu => ?_⟩⟩⟩
    exact q u (.feed p kz' jz' _ _ _) _ (s02.trans (same_new nu _)) upd_same trivial
  | load p k n =>
    refine ⟨_, rfl, r, _, 0, _, rfl, rfl, T0, rfl, rfl, _, rfl, iteNo (by intro z; injection z with z; exact absurd z (by decide +kernel)) ?_⟩
    refine ⟨_, rfl, r, _, 0, _, rfl, rfl, T0, rfl, rfl, _, rfl, iteYes rfl ?_⟩
    refine ⟨_, rfl, r, _, 1, _, rfl, rfl, T0, rfl, _, rfl, _, rfl, a, _, _, rfl, hS, by omega, by omega, by decide, fun i i0 i1 => ⟨kd, _, _, rfl, rfl, SqL.of hk, i0, by omega, fun v hv => ?_⟩⟩
    obtain ⟨kz, rfl, _⟩ := str_of7 hv
    refine ⟨_, rfl, r, _, 3, _, rfl, rfl, T0, rfl, _, _, rfl, rfl, ⟨by decide, by decide⟩, small (by show 4 ≤ 1000; decide), fun u nu => ?_⟩
    exact q u (.load p kz (n / 2)) _ (same_new nu _) upd_same (Int.ediv_nonneg nn (by decide))
  | ink p n m =>
    refine ⟨_, rfl, r, _, 0, _, rfl, rfl, T0, rfl, rfl, _, rfl, iteNo (by intro z; injection z with z; exact absurd z (by decide +kernel)) ?_⟩
    refine ⟨_, rfl, r, _, 0, _, rfl, rfl, T0, rfl, rfl, _, rfl, iteNo (by intro z; injection z with z; exact absurd z (by decide +kernel)) ?_⟩
    refine ⟨_, rfl, r, _, 0, _, rfl, rfl, T0, rfl, rfl, _, rfl, iteYes rfl ?_⟩
    refine ⟨_, rfl, r, _, 1, _, rfl, rfl, T0, rfl, _, rfl, r, _, 2, _, rfl, rfl, T0, rfl, _, _, rfl, rfl, ⟨by decide, by decide⟩, _, rfl, r, _, 3, _, rfl, rfl, T0, rfl, _, rfl, _, _, rfl, rfl, .inr ⟨_, rfl, _, _, rfl, rfl, .inr ⟨by split <;> decide, by split <;> decide⟩, small (by show 4 ≤ 1000; decide), fun u nu => ?_⟩⟩
    exact q u (.ink p _ _) _ (same_new nu _) upd_same trivial
  | out p j m =>
    refine ⟨_, rfl, r, _, 0, _, rfl, rfl, T0, rfl, rfl, _, rfl, iteNo (by intro z; injection z with z; exact absurd z (by decide +kernel)) ?_⟩
    refine ⟨_, rfl, r, _, 0, _, rfl, rfl, T0, rfl, rfl, _, rfl, iteNo (by intro z; injection z with z; exact absurd z (by decide +kernel)) ?_⟩
    refine ⟨_, rfl, r, _, 0, _, rfl, rfl, T0, rfl, rfl, _, rfl, iteNo (by intro z; injection z with z; exact absurd z (by decide +kernel)) ?_⟩
    refine ⟨_, rfl, _, _, rfl, rfl, _, rfl, ite2 (fun c2 => ?_) (fun c2 => ?_)⟩
    · refine ⟨_, rfl, _, rfl, r, _, rfl, T0, (fun z => absurd (show (2 : Nat) = 4 from z.2) (by decide)), fun u nu => ?_⟩
      have hu1 : upd H u (.tup (cutV (Row67.out p j m).vs none (some 2))) u = some (.tup [V.str otW, V.str p]) := upd_same
      have s1 := same_new nu (.tup (cutV (Row67.out p j m).vs none (some 2)))
      generalize upd H u (.tup (cutV (Row67.out p j m).vs none (some 2))) = H1 at s1 hu1 ⊢
      have T1 := SqT.of (K := K) (s1 _ _ hrow)
      have hj1 := s1 _ _ hj
      refine ⟨_, rfl, _, rfl, a, _, _, rfl, hS.same s1, by omega, by omega, by decide, fun i i0 i1 => ⟨jb, _, _, rfl, rfl, SqL.of hj1, i0, by omega, fun v hv => ?_⟩⟩
      obtain ⟨jz, rfl, _⟩ := str_of7 hv
      refine ⟨_, rfl, r, _, 3, _, rfl, rfl, T1, rfl, z2, fun w nw => ?_⟩
      have s2 := same_new nw (.tup [V.str jz, V.int m])
      have hw2 : upd H1 w (.tup [V.str jz, V.int m]) w = some (.tup [V.str jz, V.int m]) := upd_same
      generalize upd H1 w (.tup [V.str jz, V.int m]) = H2 at s2 hw2 ⊢
      refine ⟨u, w, _, _, rfl, rfl, SqT.of (s2 _ _ hu1), SqT.of hw2, (by intro z; cases z), small (by show 4 ≤ 1000; decide), (by intro z; cases z), fun _ x nx => ?_⟩
      exact q x (.out p jz m) _ (s1.trans (s2.trans (same_new nx _))) upd_same trivial
    · refine ⟨_, rfl, _, rfl, r, _, rfl, T0, (fun z => absurd (show (3 : Nat) = 4 from z.2) (by decide)), fun u nu => ?_⟩
      have hu1 : upd H u (.tup (cutV (Row67.out p j m).vs none (some 3))) u = some (.tup [V.str otW, V.str p, V.str j]) := upd_same
      have s1 := same_new nu (.tup (cutV (Row67.out p j m).vs none (some 3)))
      generalize upd H u (.tup (cutV (Row67.out p j m).vs none (some 3))) = H1 at s1 hu1 ⊢
      have T1 := SqT.of (K := K) (s1 _ _ hrow)
      refine ⟨_, rfl, r, _, 3, _, rfl, rfl, T1, rfl, _, _, rfl, rfl, small (by show 1 ≤ 1000; decide), fun w nw => ?_⟩
      have s2 := same_new nw (.tup [V.int (m + 1)])
      have hw2 : upd H1 w (.tup [V.int (m + 1)]) w = some (.tup [V.int (m + 1)]) := upd_same
      generalize upd H1 w (.tup [V.int (m + 1)]) = H2 at s2 hw2 ⊢
      refine ⟨u, w, _, _, rfl, rfl, SqT.of (s2 _ _ hu1), SqT.of hw2, (by intro z; cases z), small (by show 4 ≤ 1000; decide), (by intro z; cases z), fun _ x nx => ?_⟩
      exact q x (.out p j (m + 1)) _ (s1.trans (s2.trans (same_new nx _))) upd_same trivial
  | lost p j m =>
    refine ⟨_, rfl, r, _, 0, _, rfl, rfl, T0, rfl, rfl, _, rfl, iteNo (by intro z; injection z with z; exact absurd z (by decide +kernel)) ?_⟩
    refine ⟨_, rfl, r, _, 0, _, rfl, rfl, T0, rfl, rfl, _, rfl, iteNo (by intro z; injection z with z; exact absurd z (by decide +kernel)) ?_⟩
    refine ⟨_, rfl, r, _, 0, _, rfl, rfl, T0, rfl, rfl, _, rfl, iteNo (by intro z; injection z with z; exact absurd z (by decide +kernel)) ?_⟩
    refine ⟨_, rfl, _, _, rfl, rfl, _, rfl, ite2 (fun c2 => ?_) (fun c2 => ?_)⟩
    · refine ⟨_, rfl, _, rfl, r, _, rfl, T0, (fun z => absurd (show (2 : Nat) = 4 from z.2) (by decide)), fun u nu => ?_⟩
      have hu1 : upd H u (.tup (cutV (Row67.lost p j m).vs none (some 2))) u = some (.tup [V.str lsW, V.str p]) := upd_same
      have s1 := same_new nu (.tup (cutV (Row67.lost p j m).vs none (some 2)))
      generalize upd H u (.tup (cutV (Row67.lost p j m).vs none (some 2))) = H1 at s1 hu1 ⊢
      have T1 := SqT.of (K := K) (s1 _ _ hrow)
      have hj1 := s1 _ _ hj
      refine ⟨_, rfl, _, rfl, a, _, _, rfl, hS.same s1, by omega, by omega, by decide, fun i i0 i1 => ⟨jb, _, _, rfl, rfl, SqL.of hj1, i0, by omega, fun v hv => ?_⟩⟩
      obtain ⟨jz, rfl, _⟩ := str_of7 hv
      refine ⟨_, rfl, r, _, 3, _, rfl, rfl, T1, rfl, z2, fun w nw => ?_⟩
      have s2 := same_new nw (.tup [V.str jz, V.int m])
      have hw2 : upd H1 w (.tup [V.str jz, V.int m]) w = some (.tup [V.str jz, V.int m]) := upd_same
      generalize upd H1 w (.tup [V.str jz, V.int m]) = H2 at s2 hw2 ⊢
      refine ⟨u, w, _, _, rfl, rfl, SqT.of (s2 _ _ hu1), SqT.of hw2, (by intro z; cases z), small (by show 4 ≤ 1000; decide), (by intro z; cases z), fun _ x nx => ?_⟩
      exact q x (.lost p jz m) _ (s1.trans (s2.trans (same_new nx _))) upd_same trivial
    · refine ⟨_, rfl, _, rfl, r, _, rfl, T0, (fun z => absurd (show (3 : Nat) = 4 from z.2) (by decide)), fun u nu => ?_⟩
      have hu1 : upd H u (.tup (cutV (Row67.lost p j m).vs none (some 3))) u = some (.tup [V.str lsW, V.str p, V.str j]) := upd_same
      have s1 := same_new nu (.tup (cutV (Row67.lost p j m).vs none (some 3)))
      generalize upd H u (.tup (cutV (Row67.lost p j m).vs none (some 3))) = H1 at s1 hu1 ⊢
      have T1 := SqT.of (K := K) (s1 _ _ hrow)
      refine ⟨_, rfl, r, _, 3, _, rfl, rfl, T1, rfl, _, _, rfl, rfl, small (by show 1 ≤ 1000; decide), fun w nw => ?_⟩
      have s2 := same_new nw (.tup [V.int (m + 1)])
      have hw2 : upd H1 w (.tup [V.int (m + 1)]) w = some (.tup [V.int (m + 1)]) := upd_same
      generalize upd H1 w (.tup [V.int (m + 1)]) = H2 at s2 hw2 ⊢
      refine ⟨u, w, _, _, rfl, rfl, SqT.of (s2 _ _ hu1), SqT.of hw2, (by intro z; cases z), small (by show 4 ≤ 1000; decide), (by intro z; cases z), fun _ x nx => ?_⟩
      exact q x (.lost p j (m + 1)) _ (s1.trans (s2.trans (same_new nx _))) upd_same trivial

end
end My

namespace My
open PySem L2
open Blk (sg sg_inj sg_app)
section
variable {P : Program} {w : World} {K : PySem.W.Frag} {mg : Str → Option Value} {base : Heap}
def sp__law_spoilt (K : PySem.W.Frag) : Sp := fun vs H Q _ => ∃ (a ra hl kd jb : Addr) (prs : List (Addr × Row67)) (halls kinds jobs : List Str), vs = [.ref a, .ref ra, .ref hl, .ref kd, .ref jb] ∧ Scr K H a ∧ RowsAt H ra prs ∧ prs.length ≤ 70 ∧ (∀ r ∈ prs.map (·.2), nnR r) ∧ StrsAt H hl halls ∧ 0 < halls.length ∧ StrsAt H kd kinds ∧ kinds.length = 3 ∧ StrsAt H jb jobs ∧ jobs.length = 3 ∧
  ∀ l prs' H', Same H H' → RowsAt H' l prs' → prs'.length ≤ 72 → (∀ r ∈ prs'.map (·.2), nnR r) → Q (.ref l) H'
def RowsOk (H : Hp) (prs : List (Addr × Row67)) : Prop := ∀ p ∈ prs, H p.1 = some (.tup p.2.vs) ∧ nnR p.2
theorem RowsOk.same {H H' : Hp} {prs : List (Addr × Row67)} (h : RowsOk H prs) (s : Same H H') : RowsOk H' prs := fun p hp => ⟨s _ _ (h p hp).1, (h p hp).2⟩
theorem RowsOk.cat {H : Hp} {p q : List (Addr × Row67)} (h : RowsOk H p) (h' : RowsOk H q) : RowsOk H (p ++ q) := fun x hx => by
  rcases List.mem_append.mp hx with z | z
  · exact h x z
  · exact h' x z
theorem RowsOk.take {H : Hp} {p : List (Addr × Row67)} {n : Nat} (h : RowsOk H p) : RowsOk H (p.take n) := fun x hx => h x (List.mem_of_mem_take hx)
theorem RowsOk.drop {H : Hp} {p : List (Addr × Row67)} {n : Nat} (h : RowsOk H p) : RowsOk H (p.drop n) := fun x hx => h x (List.mem_of_mem_drop hx)
theorem RowsOk.fin {H : Hp} {l : Addr} {prs : List (Addr × Row67)} (h : RowsOk H prs) (hl : H l = some (.lst (prs.map fun p => V.ref p.1))) : RowsAt H l prs ∧ ∀ r ∈ prs.map (·.2), nnR r := ⟨⟨hl, fun p hp => (h p hp).1⟩, fun r hr => by
  obtain ⟨p, hp, rfl⟩ := List.mem_map.mp hr
  exact (h p hp).2⟩
theorem cutT (prs : List (Addr × Row67)) (n : Nat) : cutV (prs.map fun p => V.ref p.1) none (some (n : Int)) = (prs.take n).map fun p => V.ref p.1 := by rw [cut_to, List.map_take]
theorem cutD (prs : List (Addr × Row67)) (n : Nat) : cutV (prs.map fun p => V.ref p.1) (some (n : Int)) none = (prs.drop n).map fun p => V.ref p.1 := by rw [cut_from, List.map_drop]
/-- two lists of rows, one behind the other -/
theorem cat_rows {H : Hp} {l1 l2 : Addr} {p q : List (Addr × Row67)} {Q : VK} (h1 : H l1 = some (.lst (p.map fun x => V.ref x.1))) (h2 : H l2 = some (.lst (q.map fun x => V.ref x.1))) (l : p.length + q.length ≤ 900) (k : ∀ x H', Same H H' → H' x = some (.lst ((p ++ q).map fun x => V.ref x.1)) → Q (.ref x) H') : rCat (.ref l1) (.ref l2) H Q :=
  ⟨l1, l2, _, _, rfl, rfl, h1, h2, small (by rw [List.length_map, List.length_map]; omega), fun x nx => k x _ (same_new nx _) (by rw [upd_same, List.map_append])⟩
theorem sc__law_spoilt : FnScope ["_law_script", "_law_rows", "_law_halls", "_law_kinds", "_law_jobs", "_law_way", "_law_at"] ["_law_script", "_law_rows", "_law_halls", "_law_kinds", "_law_jobs"] (defScope s__law_spoilt) := ⟨rfl, rfl, rfl, by decide +kernel, rfl, by decide +kernel, by decide +kernel⟩
theorem ok__law_spoilt {fa cAccount : Addr} {fd : FuncData} (F : Fun K "_law_spoilt" "_law_spoilt" s__law_spoilt fa fd) (T : Txt K mg cAccount) (D__law_draw : Dfn P w K mg base 1 "_law_draw" ["_law_script", "_law_k", "_law_many"] (sp__law_draw K)) (D__law_turned : Dfn P w K mg base 2 "_law_turned" ["_law_script", "_law_row", "_law_halls", "_law_kinds", "_law_jobs"] (sp__law_turned K)) (D__law_any_row : Dfn P w K mg base 3 "_law_any_row" ["_law_script", "_law_k", "_law_halls", "_law_kinds", "_law_jobs"] (sp__law_any_row K)) :
    FnOk P w K mg base CX0 4 fa fd ["_law_script", "_law_rows", "_law_halls", "_law_kinds", "_law_jobs"] (sp__law_spoilt K) := by
  refine F.ok sc__law_spoilt (fun vs H Q E h => ?_) (fun cdv A outer s H vs Q E hr h => ?_)
  · obtain ⟨a, ra, hl, kd, jb, prs, halls, kinds, jobs, rfl, _⟩ := h
    rfl
  obtain ⟨a, ra, hl, kd, jb, prs, halls, kinds, jobs, rfl, hS, R, lp, nn, hh, lh, hk, lk, hj, lj, q⟩ := h
  refine ⟨_, (pss_cons (ps_set (i := 5) sc__law_spoilt.nd rfl (by first | exact Or.inl rfl | exact Or.inr rfl) (pe_callD D__law_draw (hr.mono (by decide)) rfl (pa_cons (pv 0) (pa_cons pe_int (pa_cons pe_int pa_nil)))))
  (pss_cons (ps_set (i := 6) sc__law_spoilt.nd rfl (by first | exact Or.inl rfl | exact Or.inr rfl) (pe_callD D__law_draw (hr.mono (by decide)) rfl (pa_cons (pv 0) (pa_cons pe_int (pa_cons (pe_op op_add (pe_callB call_len_seq rfl T.len PySem.boot_len (pa_cons (pv 1) pa_nil)) pe_int) pa_nil)))))
  (pss_cons (ps_if (PW.pt (pw_or (pt_cmpR op_eq (pv 5) pe_int (nomark _)) (pw_or1 (pt_cmpR op_eq (pv 6) (pe_callB call_len_seq rfl T.len PySem.boot_len (pa_cons (pv 1) pa_nil)) (nomark _))))) (pss_one (ps_ret (pe_op op_cat (pe_op op_cat (pe_slice sl_list (pv 1) po_none (po_some (pv 6))) (pe_lst (pa_cons (pe_callD D__law_any_row (hr.mono (by decide)) rfl (pa_cons (pv 0) (pa_cons pe_int (pa_cons (pv 2) (pa_cons (pv 3) (pa_cons (pv 4) pa_nil)))))) pa_nil))) (pe_slice sl_list (pv 1) (po_some (pv 6)) po_none)))) pss_nil)
  (pss_cons (ps_if (pt_cmpR op_eq (pv 5) pe_int (nomark _)) (pss_one (ps_ret (pe_op op_cat (pe_slice sl_list (pv 1) po_none (po_some (pv 6))) (pe_slice sl_list (pv 1) (po_some (pe_op op_add (pv 6) pe_int)) po_none)))) pss_nil)
  (pss_cons (ps_if (pt_cmpR op_eq (pv 5) pe_int (nomark _)) (pss_one (ps_ret (pe_op op_cat (pe_op op_cat (pe_slice sl_list (pv 1) po_none (po_some (pv 6))) (pe_lst (pa_cons (pe_ix ix_listA (pv 1) (pv 6) (fun _ _ => rfl)) pa_nil))) (pe_slice sl_list (pv 1) (po_some (pv 6)) po_none)))) pss_nil)
  (pss_cons (ps_if (PW.pt (pw_and (pt_cmpR op_eq (pv 5) pe_int (nomark _)) (pw_and1 (pt_cmpR op_gt (pv 6) pe_int (nomark _))))) (pss_one (ps_ret (pe_op op_cat (pe_op op_cat (pe_slice sl_list (pv 1) po_none (po_some (pe_op op_sub (pv 6) pe_int))) (pe_lst (pa_cons (pe_ix ix_listA (pv 1) (pv 6) (fun _ _ => rfl)) (pa_cons (pe_ix ix_listA (pv 1) (pe_op op_sub (pv 6) pe_int) (fun _ _ => rfl)) pa_nil)))) (pe_slice sl_list (pv 1) (po_some (pe_op op_add (pv 6) pe_int)) po_none)))) pss_nil)
  (pss_one (ps_ret (pe_op op_cat (pe_op op_cat (pe_slice sl_list (pv 1) po_none (po_some (pv 6))) (pe_lst (pa_cons (pe_callD D__law_turned (hr.mono (by decide)) rfl (pa_cons (pv 0) (pa_cons (pe_ix ix_listA (pv 1) (pv 6) (fun _ _ => rfl)) (pa_cons (pv 2) (pa_cons (pv 3) (pa_cons (pv 4) pa_nil)))))) pa_nil))) (pe_slice sl_list (pv 1) (po_some (pe_op op_add (pv 6) pe_int)) po_none)))))))))), ?_⟩
  have ll : (prs.map fun p => V.ref p.1).length = prs.length := List.length_map _
  have RO : RowsOk H prs := fun p hp => ⟨R.t p hp, nn _ (List.mem_map_of_mem hp)⟩
  have fin : ∀ l prs' H', Same H H' → RowsOk H' prs' → H' l = some (.lst (prs'.map fun p => V.ref p.1)) → prs'.length ≤ 72 → Q (.ref l) H' := fun l prs' H' s' O' hl' le' => q l prs' H' s' (O'.fin hl').1 le' (O'.fin hl').2
  refine ⟨_, rfl, a, _, _, rfl, hS, by decide, by decide, by decide, fun way w0 w1 => ?_⟩
  refine ⟨_, rfl, _, rfl, ra, _, rfl, .inl (SqL.of R.l), _, _, rfl, rfl, a, _, _, rfl, hS, by decide, by decide, by omega, fun at' a0 a1 => ?_⟩
  obtain ⟨n, rfl⟩ : ∃ n : Nat, at' = (n : Int) := ⟨at'.toNat, by omega⟩
  have first : ∀ {Q' : VK}, (∀ l1 H1, Same H H1 → H1 l1 = some (.lst ((prs.take n).map fun p => V.ref p.1)) → Q' (.ref l1) H1) → rSlL K (.ref ra) none (some (n : Int)) H Q' := fun k => ⟨ra, _, rfl, SqL.of R.l, fun l1 nl1 => by
    rw [cutT]
    exact k l1 _ (same_new nl1 _) upd_same⟩
  have rest : ∀ (m : Nat) {Q' : VK} {G : Hp}, Same H G → (∀ l1 H1, Same G H1 → H1 l1 = some (.lst ((prs.drop m).map fun p => V.ref p.1)) → Q' (.ref l1) H1) → rSlL K (.ref ra) (some (m : Int)) none G Q' := fun m {Q' G} s k => ⟨ra, _, rfl, SqL.of (s _ _ R.l), fun l1 nl1 => by
    rw [cutD]
    exact k l1 _ (same_new nl1 _) upd_same⟩
  have lt : (prs.take n).length ≤ 70 := by rw [List.length_take]; omega
  have ld : (prs.drop n).length ≤ 70 := by rw [List.length_drop]; omega
  have ld1 : (prs.drop (n + 1)).length ≤ 70 := by rw [List.length_drop]; omega
  have lsum : (prs.take n).length + (prs.drop n).length = prs.length := by rw [List.length_take, List.length_drop]; omega
  have lsum1 : (prs.take n).length + (prs.drop (n + 1)).length ≤ prs.length := by rw [List.length_take, List.length_drop]; omega
  have firstm : ∀ (m : Nat) {Q' : VK}, (∀ l1 H1, Same H H1 → H1 l1 = some (.lst ((prs.take m).map fun p => V.ref p.1)) → Q' (.ref l1) H1) → rSlL K (.ref ra) none (some (m : Int)) H Q' := fun m {Q'} k => ⟨ra, _, rfl, SqL.of R.l, fun l1 nl1 => by
    rw [cutT]
    exact k l1 _ (same_new nl1 _) upd_same⟩
  refine ⟨_, rfl, rfl, _, rfl, ite2 (fun c1 => ?_) (fun c1 => ?_)⟩
  · refine ⟨_, rfl, _, rfl, _, rfl, ?_⟩
    apply first
    intro l1 H1 s1 h1
    refine ⟨_, rfl, _, rfl, _, rfl, _, rfl, a, hl, kd, jb, 30, halls, kinds, jobs, rfl, hS.same s1, by decide, by decide, s1 _ _ hh, lh, s1 _ _ hk, by omega, s1 _ _ hj, by omega, fun r row H2 s2 hr2 n2 => ⟨small (by show 1 ≤ 1000; decide), fun l2 nl2 => ?_⟩⟩
    have s3 := same_new nl2 (.lst [V.ref r])
    have hl3 : upd H2 l2 (.lst [V.ref r]) l2 = some (.lst ([(r, row)].map fun x : Addr × Row67 => V.ref x.1)) := upd_same
    generalize upd H2 l2 (.lst [V.ref r]) = H3 at s3 hl3 ⊢
    have s03 := s1.trans (s2.trans s3)
    have O3 : RowsOk H3 [(r, row)] := fun x hx => by rw [List.mem_singleton.mp hx]; exact ⟨s3 _ _ hr2, n2⟩
    apply cat_rows (p := prs.take n) (q := [(r, row)]) (s3 _ _ (s2 _ _ h1)) hl3 (by show _ + 1 ≤ 900; omega)
    intro l3 H4 s4 h4
    refine ⟨_, rfl, _, rfl, _, rfl, ?_⟩
    dsimp only [tNoPart]
    apply rest n (s03.trans s4)
    intro l5 H5 s5 h5
    apply cat_rows (s5 _ _ h4) h5 (by rw [List.length_append]; show (_ + 1) + _ ≤ 900; omega)
    intro l6 H6 s6 h6
    exact fin l6 _ H6 (s03.trans (s4.trans (s5.trans s6))) (((RO.take.same (s03.trans s4)).cat (O3.same s4) |>.cat (RO.drop.same (s03.trans s4))).same (s5.trans s6)) h6 (by rw [List.length_append, List.length_append]; show (_ + 1) + _ ≤ 72; omega)
  refine ⟨_, rfl, _, rfl, ra, _, rfl, .inl (SqL.of R.l), rfl, _, rfl, ite2 (fun c2 => ?_) (fun c2 => ?_)⟩
  · refine ⟨_, rfl, _, rfl, _, rfl, ?_⟩
    apply first
    intro l1 H1 s1 h1
    refine ⟨_, rfl, _, rfl, _, rfl, _, rfl, a, hl, kd, jb, 30, halls, kinds, jobs, rfl, hS.same s1, by decide, by decide, s1 _ _ hh, lh, s1 _ _ hk, by omega, s1 _ _ hj, by omega, fun r row H2 s2 hr2 n2 => ⟨small (by show 1 ≤ 1000; decide), fun l2 nl2 => ?_⟩⟩
    have s3 := same_new nl2 (.lst [V.ref r])
    have hl3 : upd H2 l2 (.lst [V.ref r]) l2 = some (.lst ([(r, row)].map fun x : Addr × Row67 => V.ref x.1)) := upd_same
    generalize upd H2 l2 (.lst [V.ref r]) = H3 at s3 hl3 ⊢
    have s03 := s1.trans (s2.trans s3)
    have O3 : RowsOk H3 [(r, row)] := fun x hx => by rw [List.mem_singleton.mp hx]; exact ⟨s3 _ _ hr2, n2⟩
    apply cat_rows (p := prs.take n) (q := [(r, row)]) (s3 _ _ (s2 _ _ h1)) hl3 (by show _ + 1 ≤ 900; omega)
    intro l3 H4 s4 h4
    refine ⟨_, rfl, _, rfl, _, rfl, ?_⟩
    dsimp only [tNoPart]
    apply rest n (s03.trans s4)
    intro l5 H5 s5 h5
    apply cat_rows (s5 _ _ h4) h5 (by rw [List.length_append]; show (_ + 1) + _ ≤ 900; omega)
    intro l6 H6 s6 h6
    exact fin l6 _ H6 (s03.trans (s4.trans (s5.trans s6))) (((RO.take.same (s03.trans s4)).cat (O3.same s4) |>.cat (RO.drop.same (s03.trans s4))).same (s5.trans s6)) h6 (by rw [List.length_append, List.length_append]; show (_ + 1) + _ ≤ 72; omega)
  have nlt : n < prs.length := by
    rw [ll] at c2
    have : ¬ (n : Int) = (prs.length : Int) := fun z => c2 (decide_eq_true (by rw [z]))
    omega
  refine ⟨_, rfl, rfl, _, rfl, ite2 (fun c3 => ?_) (fun c3 => ?_)⟩
  · refine ⟨_, rfl, _, rfl, _, rfl, ?_⟩
    apply first
    intro l1 H1 s1 h1
    refine ⟨_, rfl, _, rfl, _, _, rfl, rfl, _, rfl, ?_⟩
    dsimp only [tNoPart]
    apply rest (n + 1) s1
    intro l5 H5 s5 h5
    apply cat_rows (s5 _ _ h1) h5 (by omega)
    intro l6 H6 s6 h6
    exact fin l6 _ H6 (s1.trans (s5.trans s6)) ((RO.take.cat RO.drop).same (s1.trans (s5.trans s6))) h6 (by rw [List.length_append]; omega)
  refine ⟨_, rfl, rfl, _, rfl, ite2 (fun c4 => ?_) (fun c4 => ?_)⟩
  · refine ⟨_, rfl, _, rfl, _, rfl, ?_⟩
    apply first
    intro l1 H1 s1 h1
    refine ⟨_, rfl, _, rfl, ra, _, _, rfl, rfl, SqL.of (s1 _ _ R.l), by omega, by omega, fun v hv => ?_⟩
    obtain ⟨x, ex, rfl⟩ := rows_at hv
    have Ox : RowsOk H [x] := fun y hy => by rw [List.mem_singleton.mp hy]; exact RO x (List.mem_of_getElem? ex)
    refine ⟨small (by show 1 ≤ 1000; decide), fun l2 nl2 => ?_⟩
    have s3 := same_new nl2 (.lst [V.ref x.1])
    have hl3 : upd H1 l2 (.lst [V.ref x.1]) l2 = some (.lst ([x].map fun x : Addr × Row67 => V.ref x.1)) := upd_same
    generalize upd H1 l2 (.lst [V.ref x.1]) = H3 at s3 hl3 ⊢
    have s03 := s1.trans s3
    apply cat_rows (p := prs.take n) (q := [x]) (s3 _ _ h1) hl3 (by show _ + 1 ≤ 900; omega)
    intro l3 H4 s4 h4
    refine ⟨_, rfl, _, rfl, _, rfl, ?_⟩
    dsimp only [tNoPart]
    apply rest n (s03.trans s4)
    intro l5 H5 s5 h5
    apply cat_rows (s5 _ _ h4) h5 (by rw [List.length_append]; show (_ + 1) + _ ≤ 900; omega)
    intro l6 H6 s6 h6
    have s06 := s03.trans (s4.trans (s5.trans s6))
    exact fin l6 _ H6 s06 (((RO.take.cat Ox).cat RO.drop).same s06) h6 (by rw [List.length_append, List.length_append]; show (_ + 1) + _ ≤ 72; omega)
  refine ⟨_, rfl, rfl, _, rfl, ite2 (fun c5 => ?_) (fun c5 => ?_)⟩
  · refine ⟨_, rfl, _, _, rfl, rfl, _, rfl, ite2 (fun c6 => ?_) (fun c6 => ?_)⟩
    · have n0 : (0 : Int) < (n : Int) := of_decide_eq_true c6
      refine ⟨_, rfl, _, rfl, _, _, rfl, rfl, _, rfl, ?_⟩
      rw [show (n : Int) - 1 = ((n - 1 : Nat) : Int) by omega]
      apply firstm (n - 1)
      intro l1 H1 s1 h1
      have R1 := s1 _ _ R.l
      refine ⟨_, rfl, _, rfl, ra, _, _, rfl, rfl, SqL.of R1, by omega, by omega, fun v hv => ⟨_, rfl, _, rfl, _, _, rfl, rfl, ra, _, _, rfl, rfl, SqL.of R1, by omega, by omega, fun v2 hv2 => ?_⟩⟩
      obtain ⟨x, ex, rfl⟩ := rows_at hv
      obtain ⟨x2, ex2, rfl⟩ := rows_at hv2
      have Ox : RowsOk H [x, x2] := fun y hy => by
        rcases List.mem_cons.mp hy with rfl | hy
        · exact RO _ (List.mem_of_getElem? ex)
        · rw [List.mem_singleton.mp hy]; exact RO _ (List.mem_of_getElem? ex2)
      refine ⟨small (by show 2 ≤ 1000; decide), fun l2 nl2 => ?_⟩
      have s3 := same_new nl2 (.lst [V.ref x.1, V.ref x2.1])
      have hl3 : upd H1 l2 (.lst [V.ref x.1, V.ref x2.1]) l2 = some (.lst ([x, x2].map fun x : Addr × Row67 => V.ref x.1)) := upd_same
      generalize upd H1 l2 (.lst [V.ref x.1, V.ref x2.1]) = H3 at s3 hl3 ⊢
      have s03 := s1.trans s3
      have ltm : (prs.take (n - 1)).length ≤ 70 := by rw [List.length_take]; omega
      have lsm : (prs.take (n - 1)).length + (prs.drop (n + 1)).length ≤ prs.length := by rw [List.length_take, List.length_drop]; omega
      apply cat_rows (p := prs.take (n - 1)) (q := [x, x2]) (s3 _ _ h1) hl3 (by show _ + 2 ≤ 900; omega)
      intro l3 H4 s4 h4
      refine ⟨_, rfl, _, rfl, _, _, rfl, rfl, _, rfl, ?_⟩
      dsimp only [tNoPart]
      apply rest (n + 1) (s03.trans s4)
      intro l5 H5 s5 h5
      apply cat_rows (s5 _ _ h4) h5 (by rw [List.length_append]; show (_ + 2) + _ ≤ 900; omega)
      intro l6 H6 s6 h6
      have s06 := s03.trans (s4.trans (s5.trans s6))
      exact fin l6 _ H6 s06 (((RO.take.cat Ox).cat RO.drop).same s06) h6 (by rw [List.length_append, List.length_append]; show (_ + 2) + _ ≤ 72; omega)
    · refine ⟨_, rfl, _, rfl, _, rfl, ?_⟩
      apply first
      intro l1 H1 s1 h1
      refine ⟨_, rfl, _, rfl, _, rfl, ra, _, _, rfl, rfl, SqL.of (s1 _ _ R.l), by omega, by omega, fun v hv => ?_⟩
      obtain ⟨x, ex, rfl⟩ := rows_at hv
      have mx := List.mem_of_getElem? ex
      refine ⟨_, rfl, _, rfl, _, rfl, a, x.1, hl, kd, jb, x.2, halls, kinds, jobs, rfl, hS.same s1, s1 _ _ (R.t x mx), (RO x mx).2, s1 _ _ hh, lh, s1 _ _ hk, lk, s1 _ _ hj, lj, fun r row H2 s2 hr2 n2 => ⟨small (by show 1 ≤ 1000; decide), fun l2 nl2 => ?_⟩⟩
      have s3 := same_new nl2 (.lst [V.ref r])
      have hl3 : upd H2 l2 (.lst [V.ref r]) l2 = some (.lst ([(r, row)].map fun x : Addr × Row67 => V.ref x.1)) := upd_same
      generalize upd H2 l2 (.lst [V.ref r]) = H3 at s3 hl3 ⊢
      have s03 := s1.trans (s2.trans s3)
      have O3 : RowsOk H3 [(r, row)] := fun x hx => by rw [List.mem_singleton.mp hx]; exact ⟨s3 _ _ hr2, n2⟩
      apply cat_rows (p := prs.take n) (q := [(r, row)]) (s3 _ _ (s2 _ _ h1)) hl3 (by show _ + 1 ≤ 900; omega)
      intro l3 H4 s4 h4
      refine ⟨_, rfl, _, rfl, _, _, rfl, rfl, _, rfl, ?_⟩
      dsimp only [tNoPart]
      apply rest (n + 1) (s03.trans s4)
      intro l5 H5 s5 h5
      apply cat_rows (s5 _ _ h4) h5 (by rw [List.length_append]; show (_ + 1) + _ ≤ 900; omega)
      intro l6 H6 s6 h6
      exact fin l6 _ H6 (s03.trans (s4.trans (s5.trans s6))) (((RO.take.same (s03.trans s4)).cat (O3.same s4) |>.cat (RO.drop.same (s03.trans s4))).same (s5.trans s6)) h6 (by rw [List.length_append, List.length_append]; show (_ + 1) + _ ≤ 72; omega)
  · refine ⟨_, rfl, _, rfl, _, rfl, ?_⟩
    apply first
    intro l1 H1 s1 h1
    refine ⟨_, rfl, _, rfl, _, rfl, ra, _, _, rfl, rfl, SqL.of (s1 _ _ R.l), by omega, by omega, fun v hv => ?_⟩
    obtain ⟨x, ex, rfl⟩ := rows_at hv
    have mx := List.mem_of_getElem? ex
    refine ⟨_, rfl, _, rfl, _, rfl, a, x.1, hl, kd, jb, x.2, halls, kinds, jobs, rfl, hS.same s1, s1 _ _ (R.t x mx), (RO x mx).2, s1 _ _ hh, lh, s1 _ _ hk, lk, s1 _ _ hj, lj, fun r row H2 s2 hr2 n2 => ⟨small (by show 1 ≤ 1000; decide), fun l2 nl2 => ?_⟩⟩
    have s3 := same_new nl2 (.lst [V.ref r])
    have hl3 : upd H2 l2 (.lst [V.ref r]) l2 = some (.lst ([(r, row)].map fun x : Addr × Row67 => V.ref x.1)) := upd_same
    generalize upd H2 l2 (.lst [V.ref r]) = H3 at s3 hl3 ⊢
    have s03 := s1.trans (s2.trans s3)
    have O3 : RowsOk H3 [(r, row)] := fun x hx => by rw [List.mem_singleton.mp hx]; exact ⟨s3 _ _ hr2, n2⟩
    apply cat_rows (p := prs.take n) (q := [(r, row)]) (s3 _ _ (s2 _ _ h1)) hl3 (by show _ + 1 ≤ 900; omega)
    intro l3 H4 s4 h4
    refine ⟨_, rfl, _, rfl, _, _, rfl, rfl, _, rfl, ?_⟩
    dsimp only [tNoPart]
    apply rest (n + 1) (s03.trans s4)
    intro l5 H5 s5 h5
    apply cat_rows (s5 _ _ h4) h5 (by rw [List.length_append]; show (_ + 1) + _ ≤ 900; omega)
    intro l6 H6 s6 h6
    exact fin l6 _ H6 (s03.trans (s4.trans (s5.trans s6))) (((RO.take.same (s03.trans s4)).cat (O3.same s4) |>.cat (RO.drop.same (s03.trans s4))).same (s5.trans s6)) h6 (by rw [List.length_append, List.length_append]; show (_ + 1) + _ ≤ 72; omega)

end
end My

namespace My
open PySem L2
open Blk (sg sg_inj sg_app)
section
variable {P : Program} {w : World} {K : PySem.W.Frag} {mg : Str → Option Value} {base : Heap}
theorem HsAt.has {H0 G : Hp} {d h s t : Addr} {es : List HE} {p : Str} {pth : Int} (A : HsAt H0 G d es) (sG : Same H0 G) (A1 : HeAt G h s t pth [] 0 0 []) (nh : H0 h = none) (ns : H0 s = none) (nf : ∀ f ∈ es, f.h ≠ h ∧ f.h ≠ s ∧ f.s ≠ h ∧ f.s ≠ s) (nx : h ≠ d ∧ s ≠ d) {Q : V → Hp → Prop}
    (q : ∀ e es' G', HsAt H0 G' d es' → Same H0 G' → (∀ b o, b ≠ d → G b = some o → G' b = some o) → e ∈ es' → e.p = p → (∀ f ∈ es', f ∈ es ∨ (f = ⟨p, h, s, t, pth, [], 0, 0, []⟩ ∧ ¬ p ∈ es.map (·.p))) → (∀ f ∈ es, f ∈ es') → es'.length ≤ es.length + 1 → Q (.ref e.h) G') :
    (∀ u, valV (heD es) (Sum.inr p : Key) = some u → Q u G) ∧ (valV (heD es) (Sum.inr p : Key) = none → Q (.ref h) (upd G d (.dK (heD es ++ [((Sum.inr p : Key), V.ref h)])))) := by
  refine ⟨fun u hv => ?_, fun hv => ?_⟩
  · obtain ⟨e, he, ep, rfl⟩ := val_he hv
    exact q e es G A sG (fun _ _ _ z => z) he ep (fun f hf => .inl hf) (fun f hf => hf) (Nat.le_succ _)
  · have np := val_he_no hv A.nd
    refine q ⟨p, h, s, t, pth, [], 0, 0, []⟩ (es ++ [⟨p, h, s, t, pth, [], 0, 0, []⟩]) _ (A.put (e := ⟨p, h, s, t, pth, [], 0, 0, []⟩) np A1 ⟨nh, ns⟩ nf nx) (same_on A.d0 sG _) (fun b o nb e => by rw [upd_ne nb]; exact e) (List.mem_append.mpr (.inr List.mem_cons_self)) rfl (fun f hf => ?_) (fun f hf => List.mem_append.mpr (.inl hf)) (by rw [List.length_append]; exact Nat.le_refl _)
    rcases List.mem_append.mp hf with hf | hf
    · exact .inl hf
    · exact .inr ⟨List.mem_singleton.mp hf, np⟩
def sp__law_due (_K : PySem.W.Frag) : Sp := fun vs H Q _ => ∃ (ra pa : Addr) (prs : List (Addr × Row67)) (ps : List (Str × Int)), vs = [.ref ra, .ref pa] ∧ RowsAt H ra prs ∧ prs.length ≤ 100 ∧ H pa = some (.dK (dI ps)) ∧ ∀ v H', Same H H' → FwR ps (prs.map (·.2)) v → Q v H'
theorem sc__law_due : FnScope ["_law_rows", "_law_paths_here", "_law_helds", "_law_place", "_law_row", "_law_held"] ["_law_rows", "_law_paths_here"] (defScope s__law_due) := ⟨rfl, rfl, rfl, by decide +kernel, rfl, by decide +kernel, by decide +kernel⟩
theorem ok__law_due {fa cAccount : Addr} {fd : FuncData} (F : Fun K "_law_due" "_law_due" s__law_due fa fd) (T : Txt K mg cAccount) (D__law_fresh : Dfn P w K mg base 1 "_law_fresh" ["_law_path"] (sp__law_fresh K)) (D__law_goes : Dfn P w K mg base 1 "_law_goes" ["_law_held", "_law_row"] (sp__law_goes K)) :
    FnOk P w K mg base CX0 2 fa fd ["_law_rows", "_law_paths_here"] (sp__law_due K) := by
  refine F.ok sc__law_due (fun vs H Q E h => ?_) (fun cdv A outer s H vs Q E hr h => ?_)
  · obtain ⟨ra, pa, prs, ps, rfl, _⟩ := h
    rfl
  have hu := hu_n hr 0 (by decide)
  obtain ⟨ra, pa, prs, ps, rfl, R, lp, hp, q⟩ := h
  refine ⟨_, (pss_cons (ps_set (i := 2) sc__law_due.nd rfl (by first | exact Or.inl rfl | exact Or.inr rfl) pe_dnewK)
  (pss_cons (ps_for PassesOwn.never rfl (pi_enum rfl T.enumerate (pa_cons (pv 0) pa_nil)) (pg_tup rfl (pgs_cons (pg_name (i := 3) sc__law_due.nd rfl (by first | exact Or.inl rfl | exact Or.inr rfl)) (pgs_cons (pg_name (i := 4) sc__law_due.nd rfl (by first | exact Or.inl rfl | exact Or.inr rfl)) pgs_nil)))
  (pss_cons (ps_if (pt_cmp (pc_dnotin hu (pe_ix ix_tup (pv 4) pe_int (fun _ _ => rfl)) (pv 1))) (pss_one (ps_ret (pv 3))) pss_nil)
  (pss_cons (ps_set (i := 5) sc__law_due.nd rfl (by first | exact Or.inl rfl | exact Or.inr rfl) (pe_bm PySem.F.plainAttrs_dict PySem.F.slot_dict_setdefault PySem.F.type_dict_setdefault mt_setdefault (pv 2) (pa_cons (pe_ix ix_tup (pv 4) pe_int (fun _ _ => rfl)) (pa_cons (pe_callD D__law_fresh (hr.mono (by decide)) rfl (pa_cons (pe_dget hu (pv 1) (pe_ix ix_tup (pv 4) pe_int (fun _ _ => rfl)) (fun _ _ => rfl)) pa_nil)) pa_nil))))
  (pss_one (ps_if (pt_not (pt_truth (pe_callD D__law_goes (hr.mono (by decide)) rfl (pa_cons (pv 5) (pa_cons (pv 4) pa_nil))) (fun _ => rfl))) (pss_one (ps_ret (pv 3))) pss_nil)))))
  (pss_one (ps_ret pe_non)))), ?_⟩
  refine fun d nd => ?_
  have s1 := same_new nd (.dK [])
  have hd1 : upd H d (.dK []) d = some (.dK (heD [])) := upd_same
  generalize upd H d (.dK []) = H1 at s1 hd1 ⊢
  have len : (prs.map fun p => V.ref p.1).length = prs.length := List.length_map _
  refine ⟨_, rfl, ra, rfl, ⟨_, SqL.of (s1 _ _ R.l)⟩, for_enum (K := K) (a := ra) (j := 0) (xs := prs.map fun p => V.ref p.1) (fun i σ G => ∃ (v3 v4 v5 : Option V) (es : List HE), σ = [some (.ref ra), some (.ref pa), some (.ref d), v3, v4, v5] ∧ Same H G ∧ HsAt H G d es ∧ (∀ e ∈ es, e.g = gRun e.p ((prs.map (·.2)).take i) ∧ ps.lookup e.p = some e.path) ∧ (∀ r ∈ (prs.map (·.2)).take i, r.pr ∈ es.map (·.p)) ∧ es.length ≤ i ∧ ∀ j, j < i → rightAt ps (prs.map (·.2)) j) ⟨_, _, _, [], rfl, s1, ⟨nd, hd1, fun e h => (by cases h), fun e h => (by cases h), List.nodup_nil, fun e h => (by cases h), fun e h => (by cases h)⟩, fun e h => (by cases h), fun r h => (by cases h), Nat.le_refl _, fun j hj => absurd hj (Nat.not_lt_zero _)⟩ (fun i σ G _ z => ?_) (fun i y σ G tp hy z ntp => ?_) (fun σ G z => ?_)⟩
  · obtain ⟨v3, v4, v5, es, rfl, sG, _⟩ := z
    exact SqL.of (sG _ _ R.l)
  · obtain ⟨v3, v4, v5, es, rfl, sG, AG, ge, ke, le, rt⟩ := z
    obtain ⟨r, er, rfl⟩ := rows_at hy
    have er2 : (prs.map (·.2))[i]? = some r.2 := by rw [List.getElem?_map, er]; rfl
    have li : i < prs.length := (List.getElem?_eq_some_iff.mp er).1
    have hr0 := R.t r (List.mem_of_getElem? er)
    have s6 := same_new ntp (.tup [V.int (0 + (i : Nat)), V.ref r.1])
    have ht6 : upd G tp (.tup [V.int (0 + (i : Nat)), V.ref r.1]) tp = some (.tup [V.int (0 + (i : Nat)), V.ref r.1]) := upd_same
    generalize upd G tp (.tup [V.int (0 + (i : Nat)), V.ref r.1]) = G6 at s6 ht6 ⊢
    have s06 := sG.trans s6
    have hr6 := s06 _ _ hr0
    have T6 := SqT.of (K := K) hr6
    have gq := DGet.k (k := Sum.inr r.2.pr) (s06 _ _ hp)
    rw [valV_dI69] at gq
    have out : ∀ G', Same H G' → ¬ rightAt ps (prs.map (·.2)) i → Q (.int (0 + (i : Nat))) G' := fun G' s' n' => q _ _ s' (.inr ⟨i, by rw [Int.zero_add], by rw [List.length_map]; exact li, n', rt⟩)
    refine ⟨tp, _, rfl, SqT.of ht6, rfl, _, _, rfl, _, _, rfl, rfl, ?_⟩
    cases el : ps.lookup r.2.pr with
    | none =>
      rw [el] at gq
      refine ⟨_, rfl, r.1, _, 1, _, rfl, rfl, T6, row_pr r.2, _, rfl, pa, _, rfl, gq, _, rfl, iteT ⟨_, rfl, out _ s06 ?_⟩⟩
      rintro ⟨r', pth, e1, e2, _⟩
      rw [er2] at e1
      obtain rfl := Option.some.inj e1
      rw [el] at e2
      cases e2
    | some pth =>
      rw [el] at gq
      refine ⟨_, rfl, r.1, _, 1, _, rfl, rfl, T6, row_pr r.2, _, rfl, pa, _, rfl, gq, _, rfl, iteF ?_⟩
      have A6 := AG.same s6
      have lh : (heD es).length = es.length := List.length_map _
      refine ⟨_, rfl, .inr (.inr (.inl ⟨rfl, .inl ⟨_, A6.o⟩⟩)), _, rfl, r.1, _, 1, _, rfl, rfl, T6, row_pr r.2, _, rfl, _, rfl, r.1, _, 1, _, rfl, rfl, T6, row_pr r.2, pa, _, rfl, gq, pth, rfl, fun h s t G7 s7 nh ns nt A7 => ?_⟩
      have AH := A6.same s7
      have nn : ∀ b u, G6 b = some u → b ≠ h ∧ b ≠ s ∧ b ≠ t := fun b u e => ⟨ne_of_none e nh, ne_of_none e ns, ne_of_none e nt⟩
      refine ⟨d, _, Sum.inr r.2.pr, .ref h, rfl, rfl, AH.o, by omega, ?_⟩
      have nf : ∀ f ∈ es, f.h ≠ h ∧ f.h ≠ s ∧ f.s ≠ h ∧ f.s ≠ s := fun f hf => by
        have a1 := nn _ _ (A6.a f hf).o
        have a2 := nn _ _ (A6.a f hf).hs
        exact ⟨a1.1, a1.2.1, a2.1, a2.2.1⟩
      have hh := fun Q => AH.has (p := r.2.pr) (Q := Q) (s06.trans s7) A7 (s06.free nh) (s06.free ns) nf ⟨Ne.symm (nn _ _ A6.o).1, Ne.symm (nn _ _ A6.o).2.1⟩
      apply hh
      intro e es' G8 A8 s08 k8 he ep cs old le'
      have hr8 := s08 _ _ hr0
      have g8 : ∀ f ∈ es', f.g = gRun f.p ((prs.map (·.2)).take i) ∧ ps.lookup f.p = some f.path := fun f hf => by
        rcases cs f hf with hf | ⟨rfl, np⟩
        · exact ge f hf
        · refine ⟨(gRun_none fun r' hr' => ?_).symm, el⟩
          intro z
          exact np (by have := ke r' hr'; rw [z] at this; exact this)
      have eg : e.g = gRun r.2.pr ((prs.map (·.2)).take i) := by rw [← ep]; exact (g8 e he).1
      have epth : e.path = pth := by have := (g8 e he).2; rw [ep, el] at this; exact (Option.some.inj this).symm
      obtain ⟨l1, l2⟩ := run_len (p := r.2.pr) (rows := prs.map (·.2)) i (by rw [List.length_map]; omega)
      rw [← eg] at l1 l2
      have l1' : e.st.length ≤ i := l1
      have l2' : e.tg.length ≤ i := by have : (e.tg.map (·.2)).length ≤ i := l2; rw [List.length_map] at this; exact this
      refine ⟨_, rfl, _, rfl, e.h, r.1, e.s, e.t, e.path, e.st, e.b, e.c, e.tg, r.2, rfl, A8.a e he, hr8, by omega, by omega, fun go t' tg' G9 k9 nt9 A9 et9 => ⟨true, rfl, iteF ?_⟩, fun ng G9 s9 => ⟨false, rfl, iteT ⟨_, rfl, out _ (s08.trans s9) ?_⟩⟩⟩
      · have A10 := A8.go (e' := ⟨e.p, e.h, e.s, t', e.path, stS e.st r.2, bS e.b r.2, cS e.c r.2, tg'⟩) he k9 rfl rfl rfl A9
        have tk := take_snoc er2
        refine ⟨_, _, _, esPut ⟨e.p, e.h, e.s, t', e.path, stS e.st r.2, bS e.b r.2, cS e.c r.2, tg'⟩ es', rfl, fun b o eb => k9 _ _ (ne_of_none eb (A8.n e he).1) (ne_of_none eb (A8.n e he).2) (s08 _ _ eb), A10, fun f hf => ?_, fun r' hr' => ?_, by unfold esPut; rw [List.length_map]; omega, fun j hj => ?_⟩
        · rw [tk, gRun_snoc]
          unfold gStep
          rcases esPut_mem hf with rfl | ⟨hf, nf⟩
          · refine ⟨?_, (g8 e he).2⟩
            rw [if_pos ep.symm]
            show _ = gS (gRun e.p _) r.2
            rw [ep, ← eg]
            unfold HE.g gS
            rw [et9]
          · rw [if_neg (fun z => nf (by rw [← z]; exact ep.symm))]
            exact g8 f hf
        · rw [esPut_p]
          rw [tk] at hr'
          rcases List.mem_append.mp hr' with hr' | hr'
          · obtain ⟨f, hf, ef⟩ := List.mem_map.mp (ke r' hr')
            rw [← ef]; exact List.mem_map_of_mem (old f hf)
          · rw [List.mem_singleton.mp hr', ← ep]; exact List.mem_map_of_mem he
        · by_cases c : j < i
          · exact rt j c
          · rw [show j = i by omega]
            exact ⟨r.2, pth, er2, el, by rw [← eg, ← epth]; exact go⟩
      · rintro ⟨r', pth', e1, e2, z⟩
        rw [er2] at e1
        obtain rfl := Option.some.inj e1
        rw [el] at e2
        obtain rfl := Option.some.inj e2
        rw [← eg, ← epth] at z
        exact ng z
  obtain ⟨v3, v4, v5, es, rfl, sG, AG, ge, ke, le, rt⟩ := z
  refine q _ _ sG (.inl ⟨rfl, fun j hj => rt j (by rw [len]; rw [List.length_map] at hj; exact hj)⟩)
theorem flat_dI68 (rs : List (Str × Int)) : ∀ p ∈ dI rs, flatV p.2 = true := fun p hp => by
  obtain ⟨q, _, rfl⟩ := List.mem_map.mp hp
  rfl
theorem val_dI13 : ∀ {rs : List (Str × Int)} {q : Str × Int}, (rs.map (·.1)).Nodup → q ∈ rs → valV (dI rs) (Sum.inr q.1) = some (.int q.2)
  | [], _, _, h => by cases h
  | s :: rs, q, nd, h => by
    obtain ⟨n1, n2⟩ := List.nodup_cons.mp nd
    by_cases e : s.1 = q.1
    · rcases List.mem_cons.mp h with z | z
      · rw [z]; exact valV_pos rfl
      · exact absurd (List.mem_map.mpr ⟨q, z, e.symm⟩) n1
    · rcases List.mem_cons.mp h with z | z
      · exact absurd (congrArg (·.1) z.symm) e
      · exact (valV_neg (fun z => e (by injection z))).trans (val_dI13 n2 z)
theorem eqD_dI {rs : List (Str × Int)} (nd : (rs.map (·.1)).Nodup) : eqD (dI rs) (dI rs) = true := by
  unfold eqD
  rw [beq_self_eq_true, Bool.true_and]
  refine List.all_eq_true.mpr fun p hp => ?_
  obtain ⟨q, hq, rfl⟩ := List.mem_map.mp hp
  unfold hasD
  rw [show ((Sum.inr q.1, V.int q.2) : Key × V).1 = Sum.inr q.1 from rfl, val_dI13 nd hq]
  show (q.2 == q.2) = true
  exact beq_self_eq_true _
def sp__law_asked (_K : PySem.W.Frag) : Sp := fun vs H Q _ => ∃ (ra pa : Addr) (prs : List (Addr × Row67)) (ps : List (Str × Int)), vs = [.ref ra, .ref pa] ∧ RowsAt H ra prs ∧ prs.length ≤ 100 ∧ H pa = some (.dK (dI ps)) ∧ (ps.map (·.1)).Nodup ∧ ps.length ≤ 10 ∧ (∀ r ∈ prs.map (·.2), nnR r) ∧ ∀ H', Same H H' → Q (.bl true) H'
theorem FwR.flat {ps : List (Str × Int)} {rows : List Row67} {v : V} (h : FwR ps rows v) : flatV v = true := by
  rcases h with ⟨rfl, _⟩ | ⟨i, rfl, _⟩ <;> rfl
theorem sc__law_asked : FnScope ["_law_rows", "_law_paths_here", "_law_due_here", "_law_handed", "_law_found"] ["_law_rows", "_law_paths_here"] (defScope s__law_asked) := ⟨rfl, rfl, rfl, by decide +kernel, rfl, by decide +kernel, by decide +kernel⟩
theorem ok__law_asked {fa cAccount : Addr} {fd : FuncData} (F : Fun K "_law_asked" "_law_asked" s__law_asked fa fd) (T : Txt K mg cAccount) (D__law_due : Dfn P w K mg base 2 "_law_due" ["_law_rows", "_law_paths_here"] (sp__law_due K)) (D_first_wrong : Dfn P w K mg base 3 "first_wrong" ["rows", "paths"] (sp_first_wrong cAccount)) (D__law_whole : Dfn P w K mg base 1 "_law_whole" ["_law_found"] (sp__law_whole K)) :
    FnOk P w K mg base CX0 4 fa fd ["_law_rows", "_law_paths_here"] (sp__law_asked K) := by
  refine F.ok sc__law_asked (fun vs H Q E h => ?_) (fun cdv A outer s H vs Q E hr h => ?_)
  · obtain ⟨ra, pa, prs, ps, rfl, _⟩ := h
    rfl
  have hu := hu_n hr 0 (by decide)
  have hu2 := hu_n hr 2 (by decide)
  obtain ⟨ra, pa, prs, ps, rfl, R, lp, hp, pn, pl, nn, q⟩ := h
  refine ⟨_, (pss_cons (ps_set (i := 2) sc__law_asked.nd rfl (by first | exact Or.inl rfl | exact Or.inr rfl) (pe_callD D__law_due (hr.mono (by decide)) rfl (pa_cons (pv 0) (pa_cons (pv 1) pa_nil))))
  (pss_cons (ps_set (i := 3) sc__law_asked.nd rfl (by first | exact Or.inl rfl | exact Or.inr rfl) (pe_lst (pa_cons (pe_callTy call_list_of rfl T.list bt_list (pa_cons (pv 0) pa_nil)) (pa_cons (pe_callTy call_dict_copy rfl T.dict bt_dict (pa_cons (pv 1) pa_nil)) pa_nil))))
  (pss_cons (ps_set (i := 4) sc__law_asked.nd rfl (by first | exact Or.inl rfl | exact Or.inr rfl) (pe_callD D_first_wrong (hr.mono (by decide)) rfl (pa_cons (pe_ix ix_list (pv 3) pe_int (fun _ _ => rfl)) (pa_cons (pe_ix ix_list (pv 3) pe_int (fun _ _ => rfl)) pa_nil))))
  (pss_cons (ps_if (PW.pt (pw_or (pt_cmpR (op_ne_ld hu2) (pv 3) (pe_lst (pa_cons (pv 0) (pa_cons (pv 1) pa_nil))) (nomark _)) (pw_or1 (pt_cmpR op_ne (pe_callD D_first_wrong (hr.mono (by decide)) rfl (pa_cons (pe_ix ix_list (pv 3) pe_int (fun _ _ => rfl)) (pa_cons (pe_ix ix_list (pv 3) pe_int (fun _ _ => rfl)) pa_nil))) (pv 4) (nomark _))))) (pss_one (ps_ret pe_bl)) pss_nil)
  (pss_cons (ps_if (pt_cmpR op_isN (pv 2) pe_non (nomark _)) (pss_one (ps_ret (pe_cmpR op_isN (pv 4) pe_non (nomark _)))) pss_nil)
  (pss_one (ps_ret (pe_and (pe_callD D__law_whole (hr.mono (by decide)) rfl (pa_cons (pv 4) pa_nil)) (pe_one (pe_cmpR op_eq (pv 4) (pv 2) (nomark _))))))))))), ?_⟩
  refine ⟨_, rfl, _, rfl, ra, pa, prs, ps, rfl, R, lp, hp, fun v H1 s1 F1 => ?_⟩
  refine ⟨_, rfl, ra, _, rfl, .inl (SqL.of (s1 _ _ R.l)), fun l nl => ?_⟩
  have s2 := same_new nl (.lst (prs.map fun p => V.ref p.1))
  have hl2 : upd H1 l (.lst (prs.map fun p => V.ref p.1)) l = some (.lst (prs.map fun p => V.ref p.1)) := upd_same
  generalize upd H1 l (.lst (prs.map fun p => V.ref p.1)) = H2 at s2 hl2 ⊢
  refine ⟨_, rfl, pa, _, rfl, .inl (s2 _ _ (s1 _ _ hp)), fun d nd => ?_⟩
  have s3 := same_new nd (.dK (dI ps))
  have hd3 : upd H2 d (.dK (dI ps)) d = some (.dK (dI ps)) := upd_same
  generalize upd H2 d (.dK (dI ps)) = H3 at s3 hd3 ⊢
  refine ⟨small (by show 2 ≤ 1000; decide), fun lh nlh => ?_⟩
  have s4 := same_new nlh (.lst [V.ref l, V.ref d])
  have hh4 : upd H3 lh (.lst [V.ref l, V.ref d]) lh = some (.lst [V.ref l, V.ref d]) := upd_same
  generalize upd H3 lh (.lst [V.ref l, V.ref d]) = H4 at s4 hh4 ⊢
  have s24 := s3.trans s4
  have s04 := s1.trans (s2.trans s24)
  have R4 : RowsAt H4 l prs := ⟨s24 _ _ hl2, fun p hp => s04 _ _ (R.t p hp)⟩
  have hd4 := s4 _ _ hd3
  refine ⟨_, rfl, lh, _, 0, _, rfl, rfl, SqL.of hh4, rfl, _, rfl, lh, _, 1, _, rfl, rfl, SqL.of hh4, rfl, l, d, prs, ps, rfl, R4, lp, hd4, pn, pl, nn, fun v5 H5 s5 F5 => ?_⟩
  obtain rfl := F1.one F5
  have s05 := s04.trans s5
  refine ⟨_, rfl, _, rfl, _, rfl, small (by show 2 ≤ 1000; decide), fun lk nlk => ?_⟩
  have s6 := same_new nlk (.lst [V.ref ra, V.ref pa])
  have hk6 : upd H5 lk (.lst [V.ref ra, V.ref pa]) lk = some (.lst [V.ref ra, V.ref pa]) := upd_same
  generalize upd H5 lk (.lst [V.ref ra, V.ref pa]) = H6 at s6 hk6 ⊢
  have s06 := s05.trans s6
  have s46 := s5.trans s6
  have hh6 := s46 _ _ hh4
  refine ⟨lh, lk, _, _, rfl, rfl, SqL.of hh6, SqL.of hk6, rfl, fun j hj => ?_, _, rfl, iteF ?_⟩
  · match j, hj with
    | 0, _ => exact .inl (.inr ⟨l, ra, _, _, rfl, rfl, .inl ⟨SqL.of (s46 _ _ R4.l), SqL.of (s06 _ _ R.l)⟩, rfl, deq_rows fun p hp => s06 _ _ (R.t p hp)⟩)
    | 1, _ => exact .inr (.inr ⟨d, pa, _, _, rfl, rfl, s46 _ _ hd4, s06 _ _ hp, flat_dI68 ps, flat_dI68 ps, eqD_dI pn⟩)
  refine ⟨_, rfl, lh, _, 0, _, rfl, rfl, SqL.of hh6, rfl, _, rfl, lh, _, 1, _, rfl, rfl, SqL.of hh6, rfl, l, d, prs, ps, rfl, R4.same s46, lp, s46 _ _ hd4, pn, pl, nn, fun v7 H7 s7 F7 => ?_⟩
  obtain rfl := F1.one F7
  have s07 := s06.trans s7
  rcases F1 with ⟨rfl, _⟩ | ⟨i, rfl, _⟩
  · refine ⟨_, rfl, rfl, _, rfl, iteF ?_⟩
    exact ⟨_, rfl, rfl, _, rfl, iteT ⟨_, rfl, rfl, q _ s07⟩⟩
  · refine ⟨_, rfl, rfl, _, rfl, ite2 (fun c => by simp at c) (fun _ => ?_)⟩
    refine ⟨_, rfl, rfl, _, rfl, iteF ?_⟩
    exact ⟨_, rfl, _, rfl, true, rfl, iteT ⟨_, rfl, _, rfl, rfl, by rw [decide_eq_true rfl]; exact q _ s07⟩⟩

end
end My

namespace My
open PySem L2
open Blk (sg sg_inj sg_app)
section
variable {P : Program} {w : World} {K : PySem.W.Frag} {mg : Str → Option Value} {base : Heap}
theorem FwR.right {ps : List (Str × Int)} {rows : List Row67} {v : V} (h : FwR ps rows v) (r : ∀ j, j < rows.length → rightAt ps rows j) : v = .non := by
  rcases h with ⟨e, _⟩ | ⟨i, _, li, n, _⟩
  · exact e
  · exact absurd (r i li) n
theorem drop_dI {ps : List (Str × Int)} {k : Str} : dropK (dI ps) (Sum.inr k : Key) = dI (ps.filter fun p => decide (p.1 ≠ k)) := by
  unfold dropK dI
  rw [List.filter_map]
  congr 1
  refine List.filter_congr fun p _ => ?_
  show decide ((Sum.inr p.1 : Key) ≠ Sum.inr k) = decide (p.1 ≠ k)
  exact decide_eq_decide.mpr ⟨fun h z => h (by rw [z]), fun h z => h (by injection z)⟩
def sp_law (K : PySem.W.Frag) : Sp := fun vs H Q _ => ∃ a : Addr, vs = [.ref a] ∧ Scr K H a ∧ ∀ H', Q (.bl true) H'
theorem sc_law : FnScope ["_law_script", "_law_halls", "_law_kinds", "_law_jobs", "_law_paths_here", "_law_rows", "_law_fewer", "_law_first"] ["_law_script"] (defScope s_law) := ⟨rfl, rfl, rfl, by decide +kernel, rfl, by decide +kernel, by decide +kernel⟩
theorem ok_law {fa cAccount : Addr} {fd : FuncData} (F : Fun K "law" "law" s_law fa fd) (T : Txt K mg cAccount) (D__law_names : Dfn P w K mg base 2 "_law_names" ["_law_script", "_law_k", "_law_many"] (sp__law_names K)) (D__law_paths : Dfn P w K mg base 2 "_law_paths" ["_law_script", "_law_halls"] (sp__law_paths K)) (D__law_right_rows : Dfn P w K mg base 5 "_law_right_rows" ["_law_script", "_law_paths_here", "_law_kinds", "_law_jobs"] (sp__law_right_rows K)) (D__law_asked : Dfn P w K mg base 4 "_law_asked" ["_law_rows", "_law_paths_here"] (sp__law_asked K)) (D__law_draw : Dfn P w K mg base 1 "_law_draw" ["_law_script", "_law_k", "_law_many"] (sp__law_draw K)) (D__law_due : Dfn P w K mg base 2 "_law_due" ["_law_rows", "_law_paths_here"] (sp__law_due K)) (D__law_spoilt : Dfn P w K mg base 4 "_law_spoilt" ["_law_script", "_law_rows", "_law_halls", "_law_kinds", "_law_jobs"] (sp__law_spoilt K)) :
    FnOk P w K mg base CX0 6 fa fd ["_law_script"] (sp_law K) := by
  refine F.ok sc_law (fun vs H Q E h => ?_) (fun cdv A outer s H vs Q E hr h => ?_)
  · obtain ⟨a, rfl, _⟩ := h
    rfl
  have hu := hu_n hr 0 (by decide)
  obtain ⟨a, rfl, hS, q⟩ := h
  refine ⟨_, (pss_cons (ps_set (i := 1) sc_law.nd rfl (by first | exact Or.inl rfl | exact Or.inr rfl) (pe_callD D__law_names (hr.mono (by decide)) rfl (pa_cons (pv 0) (pa_cons pe_int (pa_cons pe_int pa_nil)))))
  (pss_cons (ps_set (i := 2) sc_law.nd rfl (by first | exact Or.inl rfl | exact Or.inr rfl) (pe_callD D__law_names (hr.mono (by decide)) rfl (pa_cons (pv 0) (pa_cons pe_int (pa_cons pe_int pa_nil)))))
  (pss_cons (ps_set (i := 3) sc_law.nd rfl (by first | exact Or.inl rfl | exact Or.inr rfl) (pe_callD D__law_names (hr.mono (by decide)) rfl (pa_cons (pv 0) (pa_cons pe_int (pa_cons pe_int pa_nil)))))
  (pss_cons (ps_set (i := 4) sc_law.nd rfl (by first | exact Or.inl rfl | exact Or.inr rfl) (pe_callD D__law_paths (hr.mono (by decide)) rfl (pa_cons (pv 0) (pa_cons (pv 1) pa_nil))))
  (pss_cons (ps_set (i := 5) sc_law.nd rfl (by first | exact Or.inl rfl | exact Or.inr rfl) (pe_callD D__law_right_rows (hr.mono (by decide)) rfl (pa_cons (pv 0) (pa_cons (pv 4) (pa_cons (pv 2) (pa_cons (pv 3) pa_nil))))))
  (pss_cons (ps_if (PW.pt (pw_or (pt_cmpR op_notN (pe_callD D__law_due (hr.mono (by decide)) rfl (pa_cons (pv 5) (pa_cons (pv 4) pa_nil))) pe_non (nomark _)) (pw_or (pt_not (pt_truth (pe_callD D__law_asked (hr.mono (by decide)) rfl (pa_cons (pv 5) (pa_cons (pv 4) pa_nil))) (fun _ => rfl))) (pw_or1 (pt_not (pt_truth (pe_callD D__law_asked (hr.mono (by decide)) rfl (pa_cons (pe_lst pa_nil) (pa_cons (pv 4) pa_nil))) (fun _ => rfl))))))) (pss_one (ps_ret pe_bl)) pss_nil)
  (pss_cons (ps_if (pt_not (pt_truth (pe_callD D__law_asked (hr.mono (by decide)) rfl (pa_cons (pe_callD D__law_spoilt (hr.mono (by decide)) rfl (pa_cons (pv 0) (pa_cons (pv 5) (pa_cons (pv 1) (pa_cons (pv 2) (pa_cons (pv 3) pa_nil)))))) (pa_cons (pv 4) pa_nil))) (fun _ => rfl))) (pss_one (ps_ret pe_bl)) pss_nil)
  (pss_cons (ps_set (i := 6) sc_law.nd rfl (by first | exact Or.inl rfl | exact Or.inr rfl) (pe_callTy call_dict_copy rfl T.dict bt_dict (pa_cons (pv 4) pa_nil)))
  (pss_cons (ps_set (i := 7) sc_law.nd rfl (by first | exact Or.inl rfl | exact Or.inr rfl) (pe_ix ix_listA (pv 1) (pe_callD D__law_draw (hr.mono (by decide)) rfl (pa_cons (pv 0) (pa_cons pe_int (pa_cons (pe_callB call_lenD rfl T.len PySem.boot_len (pa_cons (pv 4) pa_nil)) pa_nil)))) (fun _ _ => rfl)))
  (pss_cons (ps_if (PW.pt (pw_and (pt_cmpR op_gt (pe_dget hu (pv 4) (pv 7) (fun _ _ => rfl)) pe_int (nomark _)) (pw_and1 (pt_cmpR op_eq (pe_callD D__law_draw (hr.mono (by decide)) rfl (pa_cons (pv 0) (pa_cons pe_int (pa_cons pe_int pa_nil)))) pe_int (nomark _))))) (pss_one (ps_dput hu (pv 6) (pv 7) (pe_op op_sub (pe_dget hu (pv 4) (pv 7) (fun _ _ => rfl)) pe_int) rfl)) (pss_one (ps_expr (pe_dpop1 (pv 6) (pv 7) ⟨rfl, rfl, rfl, rfl⟩))))
  (pss_one (ps_ret (pe_callD D__law_asked (hr.mono (by decide)) rfl (pa_cons (pv 5) (pa_cons (pv 6) pa_nil))))))))))))))), ?_⟩
  refine ⟨_, rfl, a, 40, 4, rfl, hS, by decide, by decide, by decide, fun hl halls H1 s1 n1 h1 l1 => ?_⟩
  refine ⟨_, rfl, a, 60, 3, rfl, hS.same s1, by decide, by decide, by decide, fun kd kinds H2 s2 n2 h2 l2 => ?_⟩
  refine ⟨_, rfl, a, 80, 3, rfl, hS.same (s1.trans s2), by decide, by decide, by decide, fun jb jobs H3 s3 n3 h3 l3 => ?_⟩
  have s03 := s1.trans (s2.trans s3)
  refine ⟨_, rfl, _, rfl, a, hl, halls, rfl, hS.same s03, s3 _ _ (s2 _ _ h1), l1, fun d ps H4 s4 h4 P4 pk => ?_⟩
  have s04 := s03.trans s4
  have hh4 := s4 _ _ (s3 _ _ (s2 _ _ h1))
  have hk4 := s4 _ _ (s3 _ _ h2)
  have hj4 := s4 _ _ h3
  obtain ⟨pn, pv', p0, p4⟩ := id P4
  refine ⟨_, rfl, _, rfl, _, rfl, _, rfl, a, d, kd, jb, ps, kinds, jobs, rfl, hS.same s04, h4, P4, hk4, by omega, by omega, hj4, by omega, by omega, fun l prs H5 s5 n5 R5 lp rg nn => ?_⟩
  refine ⟨_, rfl, _, rfl, l, d, prs, ps, rfl, R5, by omega, s5 _ _ h4, fun v H6 s6 F6 => ?_⟩
  obtain rfl := F6.right rg
  refine ⟨rfl, _, rfl, iteF ?_⟩
  have s56 := s5.trans s6
  refine ⟨_, rfl, _, rfl, l, d, prs, ps, rfl, R5.same s6, by omega, s56 _ _ h4, pn, by omega, nn, fun H7 s7 => ⟨true, rfl, iteF ?_⟩⟩
  have s47 := s56.trans s7
  refine ⟨Nat.zero_le _, fun le nle => ?_⟩
  have s8 := same_new nle (.lst [])
  have he8 : upd H7 le (.lst []) le = some (.lst []) := upd_same
  generalize upd H7 le (.lst []) = H8 at s8 he8 ⊢
  have s48 := s47.trans s8
  refine ⟨_, rfl, le, d, [], ps, rfl, ⟨he8, fun p hp => (by cases hp)⟩, by decide, s48 _ _ h4, pn, by omega, fun r hr => (by cases hr), fun H9 s9 => ⟨true, rfl, iteF ?_⟩⟩
  have s49 := s48.trans s9
  have s59 := (s6.trans s7).trans (s8.trans s9)
  have R9 := R5.same s59
  refine ⟨_, rfl, _, rfl, _, rfl, _, rfl, _, rfl, a, l, hl, kd, jb, prs, halls, kinds, jobs, rfl, hS.same (s04.trans s49), R9, lp, nn, s49 _ _ hh4, by omega, s49 _ _ hk4, l2, s49 _ _ hj4, l3, fun lA prsA HA sA RA lA' nA => ?_⟩
  have s4A := s49.trans sA
  refine ⟨_, rfl, lA, d, prsA, ps, rfl, RA, by omega, s4A _ _ h4, pn, by omega, nA, fun HB sB => ⟨true, rfl, iteF ?_⟩⟩
  have s4B := s4A.trans sB
  have R_B := R9.same (sA.trans sB)
  refine ⟨_, rfl, d, _, rfl, .inl (s4B _ _ h4), fun f nf => ?_⟩
  have sC := same_new nf (.dK (dI ps))
  have hfC : upd HB f (.dK (dI ps)) f = some (.dK (dI ps)) := upd_same
  generalize upd HB f (.dK (dI ps)) = HC at sC hfC ⊢
  have s4C := s4B.trans sC
  have hdC := s4C _ _ h4
  have SC := hS.same (s04.trans s4C)
  have lps : (dI ps).length = ps.length := List.length_map _
  have hhC := s4C _ _ hh4
  refine ⟨_, rfl, _, rfl, _, rfl, d, _, rfl, hdC, a, _, _, rfl, SC, by decide, by decide, by omega, fun i i0 i1 => ⟨hl, _, _, rfl, rfl, SqL.of hhC, i0, by rw [List.length_map]; omega, fun v hv => ?_⟩⟩
  obtain ⟨z, rfl, ez⟩ := str_at68 hv
  obtain ⟨pth, epth⟩ := lookup_some_of (pk i.toNat z (by omega) ez)
  have gz := DGet.k (k := Sum.inr z) hdC
  rw [valV_dI69, epth] at gz
  have fin : ∀ ps' (HD : Hp), (∀ b o, b ≠ f → HC b = some o → HD b = some o) → HD f = some (.dK (dI ps')) → (ps'.map (·.1)).Nodup → ps'.length ≤ 10 → ∃ (ra pa : Addr) (prs : List (Addr × Row67)) (ps : List (Str × Int)), ([V.ref l, V.ref f] : List V) = [.ref ra, .ref pa] ∧ RowsAt HD ra prs ∧ prs.length ≤ 100 ∧ HD pa = some (.dK (dI ps)) ∧ (ps.map (·.1)).Nodup ∧ ps.length ≤ 10 ∧ (∀ r ∈ prs.map (·.2), nnR r) ∧ ∀ H', Same HD H' → Q (.bl true) H' := fun ps' HD k e n l' =>
    ⟨l, f, prs, ps', rfl, ⟨k _ _ (ne_of_none R_B.l nf) (sC _ _ R_B.l), fun p hp => k _ _ (ne_of_none (R_B.t p hp) nf) (sC _ _ (R_B.t p hp))⟩, by omega, e, n, l', nn, fun H' _ => q H'⟩
  have put : ∀ o b u, b ≠ f → HC b = some u → upd HC f o b = some u := fun o b u nb e => by rw [upd_ne nb]; exact e
  have ndp : ((ps.filter fun p => decide (p.1 ≠ z)).map (·.1)).Nodup := by
    exact List.Sublist.nodup ((List.filter_sublist (p := fun p : Str × Int => decide (p.1 ≠ z)) (l := ps)).map (fun p : Str × Int => p.1)) pn
  have ldp : (ps.filter fun p => decide (p.1 ≠ z)).length ≤ 10 := Nat.le_trans (List.length_filter_le _ _) (by omega)
  refine ⟨_, rfl, _, rfl, d, _, rfl, gz, _, _, rfl, rfl, _, rfl, ite2 (fun c1 => ?_) (fun c1 => ?_)⟩
  · refine ⟨_, rfl, a, _, _, rfl, SC, by decide, by decide, by decide, fun r _ _ => ⟨rfl, _, rfl, ite2 (fun c2 => ?_) (fun c2 => ?_)⟩⟩
    · refine ⟨_, rfl, _, rfl, d, _, rfl, gz, _, _, rfl, rfl, _, rfl, _, rfl, f, _, rfl, DPut.k (k := Sum.inr z) hfC (small1000 (by omega)), ?_⟩
      rw [← dI_upS]
      exact ⟨_, rfl, _, rfl, fin _ _ (put _) upd_same (upS_nodup pn) (Nat.le_trans upS_len (by omega))⟩
    · refine ⟨_, rfl, f, rfl, .inl ⟨_, .inl hfC⟩, _, rfl, _, Sum.inr z, .int pth, hfC, rfl, by rw [valV_dI69, epth]; rfl, ?_⟩
      rw [drop_dI]
      exact ⟨_, rfl, _, rfl, fin _ _ (put _) upd_same ndp ldp⟩
  · refine ⟨_, rfl, f, rfl, .inl ⟨_, .inl hfC⟩, _, rfl, _, Sum.inr z, .int pth, hfC, rfl, by rw [valV_dI69, epth]; rfl, ?_⟩
    rw [drop_dI]
    exact ⟨_, rfl, _, rfl, fin _ _ (put _) upd_same ndp ldp⟩

end
end My

def PySem.W.Fast.tw9144605452787361079 : Nat := 0
def PySem.W.Fast.tw1640145199193473369 : Nat := 0
def PySem.W.Fast.tw4705795461212078461 : Nat := 0
def PySem.W.Fast.tw17753624871857515046 : Nat := 0
def PySem.W.Fast.tw7567336855630858107 : Nat := 0
def PySem.W.Fast.tw14253282654929078243 : Nat := 0
def PySem.W.Fast.tw7865291589645286937 : Nat := 0
namespace My
open PySem L2
theorem all_mk {l : PySem.W.OpenLaw} {w : World} {K : PySem.W.Frag} {h : Heap} {mg : Str → Option Value} {fa cAccount f0 f1 f2 f3 f4 f5 f6 f7 f8 f9 f10 f11 f12 f13 f14 f15 f16 f17 f18 f19 f20 f21 f22 : Addr} (X : K.In h) (G : h.Ns mainGlobals mg) (hfa : mg "law" = some (.ref fa))
    {od0 an0 od1 an1 od2 an2 od3 an3 od4 an4 od5 an5 od6 an6 od7 an7 od8 an8 od9 an9 od10 an10 od11 an11 od12 an12 od13 an13 od14 an14 od15 an15 od16 an16 od17 an17 od18 an18 od19 an19 od20 an20 od21 an21 od22 an22 : Option Addr} {sl0 sl1 sl2 sl3 sl4 sl5 sl6 sl7 sl8 sl9 sl10 sl11 sl12 sl13 sl14 sl15 sl16 sl17 sl18 sl19 sl20 sl21 sl22 : Array (Option Value)}
    {oc0 kV0 dc0 pm0 cd0 ct0 oc1 kV1 dc1 pm1 cd1 ct1 oc2 kV2 dc2 pm2 cd2 ct2 oc3 kV3 dc3 pm3 cd3 ct3 oc4 kV4 dc4 pm4 cd4 ct4 oc5 kV5 dc5 pm5 cd5 ct5 oc6 kV6 dc6 pm6 cd6 ct6 oc7 kV7 dc7 pm7 cd7 ct7 oc8 kV8 dc8 pm8 cd8 ct8 oc9 kV9 dc9 pm9 cd9 ct9 oc10 kV10 dc10 pm10 cd10 ct10 oc11 kV11 dc11 pm11 cd11 ct11 oc12 kV12 dc12 pm12 cd12 ct12 oc13 kV13 dc13 pm13 cd13 ct13 oc14 kV14 dc14 pm14 cd14 ct14 oc15 kV15 dc15 pm15 cd15 ct15 oc16 kV16 dc16 pm16 cd16 ct16 oc17 kV17 dc17 pm17 cd17 ct17 oc18 kV18 dc18 pm18 cd18 ct18 oc19 kV19 dc19 pm19 cd19 ct19 oc20 kV20 dc20 pm20 cd20 ct20 oc21 kV21 dc21 pm21 cd21 ct21 oc22 kV22 dc22 pm22 cd22 ct22 : Value}
    (aC_Account : PySem.W.nsIn K mainGlobals "Account" = some (some (.ref cAccount)))
    (a0 : PySem.W.findIn K (.ref cAccount) "__init__" = some (some (.ref f0)))
    (i0 : PySem.W.isFn K (.ref f0) = true)
    (l0 : K.lookup f0 = some ⟨oc0, od0, .func (PySem.W.fnOf "__init__" "Account.__init__" (defArgs s_Account_init) (defBody s_Account_init) (defScope s_Account_init) .none kV0 dc0 pm0 an0 cd0 ct0), sl0⟩)
    (c0 : PySem.W.codeIn K cd0 "Account.__init__" = true)
    (k0 : PySem.W.keepIn K (.ref f0) = true)
    (a1 : PySem.W.findIn K (.ref cAccount) "allows" = some (some (.ref f1)))
    (i1 : PySem.W.isFn K (.ref f1) = true)
    (l1 : K.lookup f1 = some ⟨oc1, od1, .func (PySem.W.fnOf "allows" "Account.allows" (defArgs s_Account_allows) (defBody s_Account_allows) (defScope s_Account_allows) .none kV1 dc1 pm1 an1 cd1 ct1), sl1⟩)
    (c1 : PySem.W.codeIn K cd1 "Account.allows" = true)
    (k1 : PySem.W.keepIn K (.ref f1) = true)
    (a2 : PySem.W.findIn K (.ref cAccount) "has_for" = some (some (.ref f2)))
    (i2 : PySem.W.isFn K (.ref f2) = true)
    (l2 : K.lookup f2 = some ⟨oc2, od2, .func (PySem.W.fnOf "has_for" "Account.has_for" (defArgs s_Account_has_for) (defBody s_Account_has_for) (defScope s_Account_has_for) .none kV2 dc2 pm2 an2 cd2 ct2), sl2⟩)
    (c2 : PySem.W.codeIn K cd2 "Account.has_for" = true)
    (k2 : PySem.W.keepIn K (.ref f2) = true)
    (a3 : PySem.W.findIn K (.ref cAccount) "enter" = some (some (.ref f3)))
    (i3 : PySem.W.isFn K (.ref f3) = true)
    (l3 : K.lookup f3 = some ⟨oc3, od3, .func (PySem.W.fnOf "enter" "Account.enter" (defArgs s_Account_enter) (defBody s_Account_enter) (defScope s_Account_enter) .none kV3 dc3 pm3 an3 cd3 ct3), sl3⟩)
    (c3 : PySem.W.codeIn K cd3 "Account.enter" = true)
    (k3 : PySem.W.keepIn K (.ref f3) = true)
    (a4 : PySem.W.findIn K (.ref cAccount) "add_ink" = some (some (.ref f4)))
    (i4 : PySem.W.isFn K (.ref f4) = true)
    (l4 : K.lookup f4 = some ⟨oc4, od4, .func (PySem.W.fnOf "add_ink" "Account.add_ink" (defArgs s_Account_add_ink) (defBody s_Account_add_ink) (defScope s_Account_add_ink) .none kV4 dc4 pm4 an4 cd4 ct4), sl4⟩)
    (c4 : PySem.W.codeIn K cd4 "Account.add_ink" = true)
    (k4 : PySem.W.keepIn K (.ref f4) = true)
    (a5 : PySem.W.nsIn K mainGlobals "first_wrong" = some (some (.ref f5)))
    (l5 : K.lookup f5 = some ⟨oc5, od5, .func (PySem.W.fnOf "first_wrong" "first_wrong" (defArgs s_first_wrong) (defBody s_first_wrong) (defScope s_first_wrong) .none kV5 dc5 pm5 an5 cd5 ct5), sl5⟩)
    (c5 : PySem.W.codeIn K cd5 "first_wrong" = true)
    (k5 : PySem.W.keepIn K (.ref f5) = true)
    (a6 : PySem.W.nsIn K mainGlobals "_law_draw" = some (some (.ref f6)))
    (l6 : K.lookup f6 = some ⟨oc6, od6, .func (PySem.W.fnOf "_law_draw" "_law_draw" (defArgs s__law_draw) (defBody s__law_draw) (defScope s__law_draw) .none kV6 dc6 pm6 an6 cd6 ct6), sl6⟩)
    (c6 : PySem.W.codeIn K cd6 "_law_draw" = true)
    (k6 : PySem.W.keepIn K (.ref f6) = true)
    (a7 : PySem.W.nsIn K mainGlobals "_law_great" = some (some (.ref f7)))
    (l7 : K.lookup f7 = some ⟨oc7, od7, .func (PySem.W.fnOf "_law_great" "_law_great" (defArgs s__law_great) (defBody s__law_great) (defScope s__law_great) .none kV7 dc7 pm7 an7 cd7 ct7), sl7⟩)
    (c7 : PySem.W.codeIn K cd7 "_law_great" = true)
    (k7 : PySem.W.keepIn K (.ref f7) = true)
    (a8 : PySem.W.nsIn K mainGlobals "_law_whole" = some (some (.ref f8)))
    (l8 : K.lookup f8 = some ⟨oc8, od8, .func (PySem.W.fnOf "_law_whole" "_law_whole" (defArgs s__law_whole) (defBody s__law_whole) (defScope s__law_whole) .none kV8 dc8 pm8 an8 cd8 ct8), sl8⟩)
    (c8 : PySem.W.codeIn K cd8 "_law_whole" = true)
    (k8 : PySem.W.keepIn K (.ref f8) = true)
    (a9 : PySem.W.nsIn K mainGlobals "_law_names" = some (some (.ref f9)))
    (l9 : K.lookup f9 = some ⟨oc9, od9, .func (PySem.W.fnOf "_law_names" "_law_names" (defArgs s__law_names) (defBody s__law_names) (defScope s__law_names) .none kV9 dc9 pm9 an9 cd9 ct9), sl9⟩)
    (c9 : PySem.W.codeIn K cd9 "_law_names" = true)
    (k9 : PySem.W.keepIn K (.ref f9) = true)
    (a10 : PySem.W.nsIn K mainGlobals "_law_number" = some (some (.ref f10)))
    (l10 : K.lookup f10 = some ⟨oc10, od10, .func (PySem.W.fnOf "_law_number" "_law_number" (defArgs s__law_number) (defBody s__law_number) (defScope s__law_number) .none kV10 dc10 pm10 an10 cd10 ct10), sl10⟩)
    (c10 : PySem.W.codeIn K cd10 "_law_number" = true)
    (k10 : PySem.W.keepIn K (.ref f10) = true)
    (a11 : PySem.W.nsIn K mainGlobals "_law_any_row" = some (some (.ref f11)))
    (l11 : K.lookup f11 = some ⟨oc11, od11, .func (PySem.W.fnOf "_law_any_row" "_law_any_row" (defArgs s__law_any_row) (defBody s__law_any_row) (defScope s__law_any_row) .none kV11 dc11 pm11 an11 cd11 ct11), sl11⟩)
    (c11 : PySem.W.codeIn K cd11 "_law_any_row" = true)
    (k11 : PySem.W.keepIn K (.ref f11) = true)
    (a12 : PySem.W.nsIn K mainGlobals "_law_fresh" = some (some (.ref f12)))
    (l12 : K.lookup f12 = some ⟨oc12, od12, .func (PySem.W.fnOf "_law_fresh" "_law_fresh" (defArgs s__law_fresh) (defBody s__law_fresh) (defScope s__law_fresh) .none kV12 dc12 pm12 an12 cd12 ct12), sl12⟩)
    (c12 : PySem.W.codeIn K cd12 "_law_fresh" = true)
    (k12 : PySem.W.keepIn K (.ref f12) = true)
    (a13 : PySem.W.nsIn K mainGlobals "_law_goes" = some (some (.ref f13)))
    (l13 : K.lookup f13 = some ⟨oc13, od13, .func (PySem.W.fnOf "_law_goes" "_law_goes" (defArgs s__law_goes) (defBody s__law_goes) (defScope s__law_goes) .none kV13 dc13 pm13 an13 cd13 ct13), sl13⟩)
    (c13 : PySem.W.codeIn K cd13 "_law_goes" = true)
    (k13 : PySem.W.keepIn K (.ref f13) = true)
    (a14 : PySem.W.nsIn K mainGlobals "_law_feed" = some (some (.ref f14)))
    (l14 : K.lookup f14 = some ⟨oc14, od14, .func (PySem.W.fnOf "_law_feed" "_law_feed" (defArgs s__law_feed) (defBody s__law_feed) (defScope s__law_feed) .none kV14 dc14 pm14 an14 cd14 ct14), sl14⟩)
    (c14 : PySem.W.codeIn K cd14 "_law_feed" = true)
    (k14 : PySem.W.keepIn K (.ref f14) = true)
    (a15 : PySem.W.nsIn K mainGlobals "_law_right_row" = some (some (.ref f15)))
    (l15 : K.lookup f15 = some ⟨oc15, od15, .func (PySem.W.fnOf "_law_right_row" "_law_right_row" (defArgs s__law_right_row) (defBody s__law_right_row) (defScope s__law_right_row) .none kV15 dc15 pm15 an15 cd15 ct15), sl15⟩)
    (c15 : PySem.W.codeIn K cd15 "_law_right_row" = true)
    (k15 : PySem.W.keepIn K (.ref f15) = true)
    (a16 : PySem.W.nsIn K mainGlobals "_law_right_rows" = some (some (.ref f16)))
    (l16 : K.lookup f16 = some ⟨oc16, od16, .func (PySem.W.fnOf "_law_right_rows" "_law_right_rows" (defArgs s__law_right_rows) (defBody s__law_right_rows) (defScope s__law_right_rows) .none kV16 dc16 pm16 an16 cd16 ct16), sl16⟩)
    (c16 : PySem.W.codeIn K cd16 "_law_right_rows" = true)
    (k16 : PySem.W.keepIn K (.ref f16) = true)
    (a17 : PySem.W.nsIn K mainGlobals "_law_paths" = some (some (.ref f17)))
    (l17 : K.lookup f17 = some ⟨oc17, od17, .func (PySem.W.fnOf "_law_paths" "_law_paths" (defArgs s__law_paths) (defBody s__law_paths) (defScope s__law_paths) .none kV17 dc17 pm17 an17 cd17 ct17), sl17⟩)
    (c17 : PySem.W.codeIn K cd17 "_law_paths" = true)
    (k17 : PySem.W.keepIn K (.ref f17) = true)
    (a18 : PySem.W.nsIn K mainGlobals "_law_turned" = some (some (.ref f18)))
    (l18 : K.lookup f18 = some ⟨oc18, od18, .func (PySem.W.fnOf "_law_turned" "_law_turned" (defArgs s__law_turned) (defBody s__law_turned) (defScope s__law_turned) .none kV18 dc18 pm18 an18 cd18 ct18), sl18⟩)
    (c18 : PySem.W.codeIn K cd18 "_law_turned" = true)
    (k18 : PySem.W.keepIn K (.ref f18) = true)
    (a19 : PySem.W.nsIn K mainGlobals "_law_spoilt" = some (some (.ref f19)))
    (l19 : K.lookup f19 = some ⟨oc19, od19, .func (PySem.W.fnOf "_law_spoilt" "_law_spoilt" (defArgs s__law_spoilt) (defBody s__law_spoilt) (defScope s__law_spoilt) .none kV19 dc19 pm19 an19 cd19 ct19), sl19⟩)
    (c19 : PySem.W.codeIn K cd19 "_law_spoilt" = true)
    (k19 : PySem.W.keepIn K (.ref f19) = true)
    (a20 : PySem.W.nsIn K mainGlobals "_law_due" = some (some (.ref f20)))
    (l20 : K.lookup f20 = some ⟨oc20, od20, .func (PySem.W.fnOf "_law_due" "_law_due" (defArgs s__law_due) (defBody s__law_due) (defScope s__law_due) .none kV20 dc20 pm20 an20 cd20 ct20), sl20⟩)
    (c20 : PySem.W.codeIn K cd20 "_law_due" = true)
    (k20 : PySem.W.keepIn K (.ref f20) = true)
    (a21 : PySem.W.nsIn K mainGlobals "_law_asked" = some (some (.ref f21)))
    (l21 : K.lookup f21 = some ⟨oc21, od21, .func (PySem.W.fnOf "_law_asked" "_law_asked" (defArgs s__law_asked) (defBody s__law_asked) (defScope s__law_asked) .none kV21 dc21 pm21 an21 cd21 ct21), sl21⟩)
    (c21 : PySem.W.codeIn K cd21 "_law_asked" = true)
    (k21 : PySem.W.keepIn K (.ref f21) = true)
    (a22 : PySem.W.nsIn K mainGlobals "law" = some (some (.ref f22)))
    (l22 : K.lookup f22 = some ⟨oc22, od22, .func (PySem.W.fnOf "law" "law" (defArgs s_law) (defBody s_law) (defScope s_law) .none kV22 dc22 pm22 an22 cd22 ct22), sl22⟩)
    (c22 : PySem.W.codeIn K cd22 "law" = true)
    (k22 : PySem.W.keepIn K (.ref f22) = true)
    (pg_Account : PySem.W.plainGet K cAccount Str.empty = true)
    (hd_Account : PySem.W.hasDictIn K cAccount = true)
    (po_Account : PySem.W.plainOver K cAccount = true)
    (sa_Account : PySem.W.findIn K (.ref cAccount) "__setattr__" = some (some (.builtin "object.__setattr__")))
    (mk_Account : PySem.W.makesIn K cAccount = true)
    (kc_Account : PySem.W.keepIn K (.ref cAccount) = true)
    (na_Account_stacks : PySem.W.findIn K (.ref cAccount) "stacks" = some none)
    (na_Account_black : PySem.W.findIn K (.ref cAccount) "black" = some none)
    (na_Account_coloured : PySem.W.findIn K (.ref cAccount) "coloured" = some none)
    (na_Account_fed_tags : PySem.W.findIn K (.ref cAccount) "fed_tags" = some none)
    (am_Account_has_for : PySem.W.findIn K (.ref cAccount) "has_for" = some (some (.ref f2)))
    (am_Account_add_ink : PySem.W.findIn K (.ref cAccount) "add_ink" = some (some (.ref f4)))
    (am_Account_allows : PySem.W.findIn K (.ref cAccount) "allows" = some (some (.ref f1)))
    (am_Account_enter : PySem.W.findIn K (.ref cAccount) "enter" = some (some (.ref f3)))
    {xLOAD : Str} {tLOAD : Tok}
    (gLOAD : PySem.W.nsIn K mainGlobals "LOAD" = some (some (.str xLOAD tLOAD)))
    (eLOAD : xLOAD = Str.ofString "load")
    {xINK : Str} {tINK : Tok}
    (gINK : PySem.W.nsIn K mainGlobals "INK" = some (some (.str xINK tINK)))
    (eINK : xINK = Str.ofString "ink")
    {xFEED : Str} {tFEED : Tok}
    (gFEED : PySem.W.nsIn K mainGlobals "FEED" = some (some (.str xFEED tFEED)))
    (eFEED : xFEED = Str.ofString "feed")
    {xOUT : Str} {tOUT : Tok}
    (gOUT : PySem.W.nsIn K mainGlobals "OUT" = some (some (.str xOUT tOUT)))
    (eOUT : xOUT = Str.ofString "out")
    {xLOST : Str} {tLOST : Tok}
    (gLOST : PySem.W.nsIn K mainGlobals "LOST" = some (some (.str xLOST tLOST)))
    (eLOST : xLOST = Str.ofString "lost")
    (z_len : PySem.W.nsIn K mainGlobals "len" = some none)
    (z_range : PySem.W.nsIn K mainGlobals "range" = some none)
    (z_enumerate : PySem.W.nsIn K mainGlobals "enumerate" = some none)
    (z_int : PySem.W.nsIn K mainGlobals "int" = some none)
    (z_bool : PySem.W.nsIn K mainGlobals "bool" = some none)
    (z_list : PySem.W.nsIn K mainGlobals "list" = some none)
    (z_isinstance : PySem.W.nsIn K mainGlobals "isinstance" = some none)
    (z_dict : PySem.W.nsIn K mainGlobals "dict" = some none)
    : ∃ fd : FuncData, (∀ (s : Shared) (v : Value), BindsTo s fd ⟨[v], []⟩ [("_law_script", v)]) ∧ ∀ base : Heap, K.In base → base.Ns mainGlobals mg → FnOk l.prog w K mg base CX0 6 fa fd ["_law_script"] (sp_law K) := by
  have e := hfa.symm.trans (PySem.W.mg_of X G a22)
  cases e
  have F0 := fun_mk (st := s_Account_init) l0 c0 k0
  have F1 := fun_mk (st := s_Account_allows) l1 c1 k1
  have F2 := fun_mk (st := s_Account_has_for) l2 c2 k2
  have F3 := fun_mk (st := s_Account_enter) l3 c3 k3
  have F4 := fun_mk (st := s_Account_add_ink) l4 c4 k4
  have F5 := fun_mk (st := s_first_wrong) l5 c5 k5
  have F6 := fun_mk (st := s__law_draw) l6 c6 k6
  have F7 := fun_mk (st := s__law_great) l7 c7 k7
  have F8 := fun_mk (st := s__law_whole) l8 c8 k8
  have F9 := fun_mk (st := s__law_names) l9 c9 k9
  have F10 := fun_mk (st := s__law_number) l10 c10 k10
  have F11 := fun_mk (st := s__law_any_row) l11 c11 k11
  have F12 := fun_mk (st := s__law_fresh) l12 c12 k12
  have F13 := fun_mk (st := s__law_goes) l13 c13 k13
  have F14 := fun_mk (st := s__law_feed) l14 c14 k14
  have F15 := fun_mk (st := s__law_right_row) l15 c15 k15
  have F16 := fun_mk (st := s__law_right_rows) l16 c16 k16
  have F17 := fun_mk (st := s__law_paths) l17 c17 k17
  have F18 := fun_mk (st := s__law_turned) l18 c18 k18
  have F19 := fun_mk (st := s__law_spoilt) l19 c19 k19
  have F20 := fun_mk (st := s__law_due) l20 c20 k20
  have F21 := fun_mk (st := s__law_asked) l21 c21 k21
  have F22 := fun_mk (st := s_law) l22 c22 k22
  have b0 := F0.binds (ps := ["self"]) fun _ _ _ _ _ _ us hl => match us, hl with | [_], _ => rfl
  have b1 := F1.binds (ps := ["self", "row", "path"]) fun _ _ _ _ _ _ us hl => match us, hl with | [_, _, _], _ => rfl
  have b2 := F2.binds (ps := ["self", "row"]) fun _ _ _ _ _ _ us hl => match us, hl with | [_, _], _ => rfl
  have b3 := F3.binds (ps := ["self", "row"]) fun _ _ _ _ _ _ us hl => match us, hl with | [_, _], _ => rfl
  have b4 := F4.binds (ps := ["self", "black", "coloured"]) fun _ _ _ _ _ _ us hl => match us, hl with | [_, _, _], _ => rfl
  have b5 := F5.binds (ps := ["rows", "paths"]) fun _ _ _ _ _ _ us hl => match us, hl with | [_, _], _ => rfl
  have b6 := F6.binds (ps := ["_law_script", "_law_k", "_law_many"]) fun _ _ _ _ _ _ us hl => match us, hl with | [_, _, _], _ => rfl
  have b7 := F7.binds (ps := ["_law_script", "_law_k"]) fun _ _ _ _ _ _ us hl => match us, hl with | [_, _], _ => rfl
  have b8 := F8.binds (ps := ["_law_found"]) fun _ _ _ _ _ _ us hl => match us, hl with | [_], _ => rfl
  have b9 := F9.binds (ps := ["_law_script", "_law_k", "_law_many"]) fun _ _ _ _ _ _ us hl => match us, hl with | [_, _, _], _ => rfl
  have b10 := F10.binds (ps := ["_law_script", "_law_k"]) fun _ _ _ _ _ _ us hl => match us, hl with | [_, _], _ => rfl
  have b11 := F11.binds (ps := ["_law_script", "_law_k", "_law_halls", "_law_kinds", "_law_jobs"]) fun _ _ _ _ _ _ us hl => match us, hl with | [_, _, _, _, _], _ => rfl
  have b12 := F12.binds (ps := ["_law_path"]) fun _ _ _ _ _ _ us hl => match us, hl with | [_], _ => rfl
  have b13 := F13.binds (ps := ["_law_held", "_law_row"]) fun _ _ _ _ _ _ us hl => match us, hl with | [_, _], _ => rfl
  have b14 := F14.binds (ps := ["_law_script", "_law_k", "_law_held", "_law_kinds", "_law_jobs", "_law_printer"]) fun _ _ _ _ _ _ us hl => match us, hl with | [_, _, _, _, _, _], _ => rfl
  have b15 := F15.binds (ps := ["_law_script", "_law_k", "_law_helds", "_law_kinds", "_law_jobs"]) fun _ _ _ _ _ _ us hl => match us, hl with | [_, _, _, _, _], _ => rfl
  have b16 := F16.binds (ps := ["_law_script", "_law_paths_here", "_law_kinds", "_law_jobs"]) fun _ _ _ _ _ _ us hl => match us, hl with | [_, _, _, _], _ => rfl
  have b17 := F17.binds (ps := ["_law_script", "_law_halls"]) fun _ _ _ _ _ _ us hl => match us, hl with | [_, _], _ => rfl
  have b18 := F18.binds (ps := ["_law_script", "_law_row", "_law_halls", "_law_kinds", "_law_jobs"]) fun _ _ _ _ _ _ us hl => match us, hl with | [_, _, _, _, _], _ => rfl
  have b19 := F19.binds (ps := ["_law_script", "_law_rows", "_law_halls", "_law_kinds", "_law_jobs"]) fun _ _ _ _ _ _ us hl => match us, hl with | [_, _, _, _, _], _ => rfl
  have b20 := F20.binds (ps := ["_law_rows", "_law_paths_here"]) fun _ _ _ _ _ _ us hl => match us, hl with | [_, _], _ => rfl
  have b21 := F21.binds (ps := ["_law_rows", "_law_paths_here"]) fun _ _ _ _ _ _ us hl => match us, hl with | [_, _], _ => rfl
  have b22 := F22.binds (ps := ["_law_script"]) fun _ _ _ _ _ _ us hl => match us, hl with | [_], _ => rfl
  have T : Txt K mg cAccount := ⟨PySem.W.mg_none_of X G z_len, PySem.W.mg_none_of X G z_range, PySem.W.mg_none_of X G z_enumerate, PySem.W.mg_none_of X G z_int, PySem.W.mg_none_of X G z_bool, PySem.W.mg_none_of X G z_list, PySem.W.mg_none_of X G z_isinstance, PySem.W.mg_none_of X G z_dict, ⟨⟨tLOAD, by rw [← eLOAD]; exact PySem.W.mg_of X G gLOAD⟩⟩, ⟨⟨tINK, by rw [← eINK]; exact PySem.W.mg_of X G gINK⟩⟩, ⟨⟨tFEED, by rw [← eFEED]; exact PySem.W.mg_of X G gFEED⟩⟩, ⟨⟨tOUT, by rw [← eOUT]; exact PySem.W.mg_of X G gOUT⟩⟩, ⟨⟨tLOST, by rw [← eLOST]; exact PySem.W.mg_of X G gLOST⟩⟩, ⟨pg_Account, hd_Account, po_Account, sa_Account⟩, PySem.W.mg_of X G aC_Account, na_Account_stacks, na_Account_black, na_Account_coloured, na_Account_fed_tags⟩
  refine ⟨PySem.W.fnOf "law" "law" (defArgs s_law) (defBody s_law) (defScope s_law) .none kV22 dc22 pm22 an22 cd22 ct22, fun s v => .of_eq rfl, fun base _ _ => ?_⟩
  have D__law_draw : Dfn l.prog w K mg base 1 "_law_draw" ["_law_script", "_law_k", "_law_many"] (sp__law_draw K) := ⟨_, _, ok__law_draw F6 T, b6, k6, PySem.W.mg_of X G a6⟩
  have D__law_names : Dfn l.prog w K mg base 2 "_law_names" ["_law_script", "_law_k", "_law_many"] (sp__law_names K) := ⟨_, _, ok__law_names F9 T D__law_draw, b9, k9, PySem.W.mg_of X G a9⟩
  have D__law_paths : Dfn l.prog w K mg base 2 "_law_paths" ["_law_script", "_law_halls"] (sp__law_paths K) := ⟨_, _, ok__law_paths F17 T D__law_draw, b17, k17, PySem.W.mg_of X G a17⟩
  have D__law_fresh : Dfn l.prog w K mg base 1 "_law_fresh" ["_law_path"] (sp__law_fresh K) := ⟨_, _, ok__law_fresh F12 T, b12, k12, PySem.W.mg_of X G a12⟩
  have D__law_goes : Dfn l.prog w K mg base 1 "_law_goes" ["_law_held", "_law_row"] (sp__law_goes K) := ⟨_, _, ok__law_goes F13 T, b13, k13, PySem.W.mg_of X G a13⟩
  have D__law_great : Dfn l.prog w K mg base 1 "_law_great" ["_law_script", "_law_k"] (sp__law_great K) := ⟨_, _, ok__law_great F7 T, b7, k7, PySem.W.mg_of X G a7⟩
  have D__law_number : Dfn l.prog w K mg base 2 "_law_number" ["_law_script", "_law_k"] (sp__law_number K) := ⟨_, _, ok__law_number F10 T D__law_draw D__law_great, b10, k10, PySem.W.mg_of X G a10⟩
  have D__law_feed : Dfn l.prog w K mg base 3 "_law_feed" ["_law_script", "_law_k", "_law_held", "_law_kinds", "_law_jobs", "_law_printer"] (sp__law_feed K) := ⟨_, _, ok__law_feed F14 T D__law_draw D__law_number, b14, k14, PySem.W.mg_of X G a14⟩
  have D__law_right_row : Dfn l.prog w K mg base 4 "_law_right_row" ["_law_script", "_law_k", "_law_helds", "_law_kinds", "_law_jobs"] (sp__law_right_row K) := ⟨_, _, ok__law_right_row F15 T D__law_draw D__law_goes D__law_feed D__law_number, b15, k15, PySem.W.mg_of X G a15⟩
  have D__law_right_rows : Dfn l.prog w K mg base 5 "_law_right_rows" ["_law_script", "_law_paths_here", "_law_kinds", "_law_jobs"] (sp__law_right_rows K) := ⟨_, _, ok__law_right_rows F16 T D__law_draw D__law_fresh D__law_right_row, b16, k16, PySem.W.mg_of X G a16⟩
  have D__law_due : Dfn l.prog w K mg base 2 "_law_due" ["_law_rows", "_law_paths_here"] (sp__law_due K) := ⟨_, _, ok__law_due F20 T D__law_fresh D__law_goes, b20, k20, PySem.W.mg_of X G a20⟩
  have okk0 : FnOk l.prog w K mg base CX0 1 _ _ ["self"] (sp_Ac_init cAccount) := ok_Account_init F0 T
  have M_Account : MkD l.prog w K mg base 1 "Account" cAccount ["self"] (sp_Ac_init cAccount) := ⟨_, _, ⟨mk_Account, a0, i0, kc_Account⟩, okk0, b0, PySem.W.mg_of X G aC_Account⟩
  have okk2 : FnOk l.prog w K mg base CX0 1 _ _ ["self", "row"] (sp_Ac_has cAccount) := ok_Account_has_for F2 T
  have D_Account_has_for : MtE l.prog w K mg base 1 "has_for" cAccount ["self", "row"] (sp_Ac_has cAccount) := ⟨_, _, ⟨am_Account_has_for, i2, k2⟩, okk2.lift, b2⟩
  have okk1 : FnOk l.prog w K mg base CX0 2 _ _ ["self", "row", "path"] (sp_Ac_allows cAccount) := ok_Account_allows F1 T D_Account_has_for
  have okk4 : FnOk l.prog w K mg base CX0 1 _ _ ["self", "black", "coloured"] (sp_Ac_add cAccount) := ok_Account_add_ink F4 T
  have D_Account_add_ink : MtE l.prog w K mg base 1 "add_ink" cAccount ["self", "black", "coloured"] (sp_Ac_add cAccount) := ⟨_, _, ⟨am_Account_add_ink, i4, k4⟩, okk4.lift, b4⟩
  have okk3 : FnOk l.prog w K mg base CX0 2 _ _ ["self", "row"] (sp_Ac_enter cAccount) := ok_Account_enter F3 T D_Account_add_ink
  have D_Account_allows : MtE l.prog w K mg base 2 "allows" cAccount ["self", "row", "path"] (sp_Ac_allows cAccount) := ⟨_, _, ⟨am_Account_allows, i1, k1⟩, okk1.lift, b1⟩
  have D_Account_enter : MtE l.prog w K mg base 2 "enter" cAccount ["self", "row"] (sp_Ac_enter cAccount) := ⟨_, _, ⟨am_Account_enter, i3, k3⟩, okk3.lift, b3⟩
  have D_first_wrong : Dfn l.prog w K mg base 3 "first_wrong" ["rows", "paths"] (sp_first_wrong cAccount) := ⟨_, _, ok_first_wrong F5 T M_Account D_Account_allows D_Account_enter, b5, k5, PySem.W.mg_of X G a5⟩
  have D__law_whole : Dfn l.prog w K mg base 1 "_law_whole" ["_law_found"] (sp__law_whole K) := ⟨_, _, ok__law_whole F8 T, b8, k8, PySem.W.mg_of X G a8⟩
  have D__law_asked : Dfn l.prog w K mg base 4 "_law_asked" ["_law_rows", "_law_paths_here"] (sp__law_asked K) := ⟨_, _, ok__law_asked F21 T D__law_due D_first_wrong D__law_whole, b21, k21, PySem.W.mg_of X G a21⟩
  have D__law_turned : Dfn l.prog w K mg base 2 "_law_turned" ["_law_script", "_law_row", "_law_halls", "_law_kinds", "_law_jobs"] (sp__law_turned K) := ⟨_, _, ok__law_turned F18 T D__law_draw, b18, k18, PySem.W.mg_of X G a18⟩
  have D__law_any_row : Dfn l.prog w K mg base 3 "_law_any_row" ["_law_script", "_law_k", "_law_halls", "_law_kinds", "_law_jobs"] (sp__law_any_row K) := ⟨_, _, ok__law_any_row F11 T D__law_draw D__law_number, b11, k11, PySem.W.mg_of X G a11⟩
  have D__law_spoilt : Dfn l.prog w K mg base 4 "_law_spoilt" ["_law_script", "_law_rows", "_law_halls", "_law_kinds", "_law_jobs"] (sp__law_spoilt K) := ⟨_, _, ok__law_spoilt F19 T D__law_draw D__law_turned D__law_any_row, b19, k19, PySem.W.mg_of X G a19⟩
  exact ok_law F22 T D__law_names D__law_paths D__law_right_rows D__law_asked D__law_draw D__law_due D__law_spoilt
theorem walk {l : PySem.W.OpenLaw} {q : Program} {loose : List Str} {XP : (Str → Option Value) → Heap → Prop} {YP : World → Heap → Prop} {d : DefRec} {K : Params → PySem.W.Frag} (hn : l.most = some 63) (hdf : d.params.defaults = [])
    (hY : ∀ (w : World) (h : Heap), YP w h → (K w.params).In h)
    (F : ∀ (w : World) (mg : Str → Option Value) (fa : Addr) (h : Heap), (K w.params).In h → h.Ns mainGlobals mg → mg d.name = some (.ref fa) →
      ∃ fd : FuncData, (∀ (s : Shared) (u : Value), BindsTo s fd ⟨[u], []⟩ [("_law_script", u)]) ∧ ∀ base : Heap, (K w.params).In base → base.Ns mainGlobals mg → FnOk l.prog w (K w.params) mg base CX0 6 fa fd ["_law_script"] (sp_law (K w.params))) :
    PySem.W.WalkO q loose XP YP l.row.toRowW d [] (fun f vs => PySem.call f vs) :=
  L2.walk_of (n := 63) (k := 6) (x := "_law_script") (CX := fun _ => CX0) (sp := fun w => sp_law (K w.params)) hn (by decide) hdf ⟨rfl, by decide, by decide⟩ hY F (fun _ _ a ns hl _ hS => ⟨a, rfl, ⟨⟨ns, hS, hl⟩⟩, fun _ => rfl⟩) fun _ _ _ _ _ z => z
end My
open PySem PySem.W PyProof.Rows
set_option maxRecDepth 100000 in
set_option maxHeartbeats 0 in
theorem PySem.Challenge.cw_spoolhall_k68_first_wrong_holds : PySem.Challenge.rw_spoolhall_k68_first_wrong.Holds := by
  w_on; o_law; k_head; (case hw => w_witness2)
  k_fill
  refine My.walk (l := PySem.Challenge.rw_spoolhall_k68_first_wrong) rfl rfl (fun w h Y => PySem.W.kIn_of Y) ?F
  case F =>
    intro w mg fa h KX G hmg
    refine' My.all_mk KX G hmg ?aC_Account ?a0 ?i0 ?l0 ?c0 ?k0 ?a1 ?i1 ?l1 ?c1 ?k1 ?a2 ?i2 ?l2 ?c2 ?k2 ?a3 ?i3 ?l3 ?c3 ?k3 ?a4 ?i4 ?l4 ?c4 ?k4 ?a5 ?l5 ?c5 ?k5 ?a6 ?l6 ?c6 ?k6 ?a7 ?l7 ?c7 ?k7 ?a8 ?l8 ?c8 ?k8 ?a9 ?l9 ?c9 ?k9 ?a10 ?l10 ?c10 ?k10 ?a11 ?l11 ?c11 ?k11 ?a12 ?l12 ?c12 ?k12 ?a13 ?l13 ?c13 ?k13 ?a14 ?l14 ?c14 ?k14 ?a15 ?l15 ?c15 ?k15 ?a16 ?l16 ?c16 ?k16 ?a17 ?l17 ?c17 ?k17 ?a18 ?l18 ?c18 ?k18 ?a19 ?l19 ?c19 ?k19 ?a20 ?l20 ?c20 ?k20 ?a21 ?l21 ?c21 ?k21 ?a22 ?l22 ?c22 ?k22 ?pg_Account ?hd_Account ?po_Account ?sa_Account ?mk_Account ?kc_Account ?na_Account_stacks ?na_Account_black ?na_Account_coloured ?na_Account_fed_tags ?am_Account_has_for ?am_Account_add_ink ?am_Account_allows ?am_Account_enter ?gLOAD ?eLOAD ?gINK ?eINK ?gFEED ?eFEED ?gOUT ?eOUT ?gLOST ?eLOST ?z_len ?z_range ?z_enumerate ?z_int ?z_bool ?z_list ?z_isinstance ?z_dict
    (case aC_Account => k_is)
    (case a0 => k_is)
    (case i0 => k_is)
    (case l0 => k_is)
    (case c0 => k_is)
    (case k0 => k_is)
    (case a1 => k_is)
    (case i1 => k_is)
    (case l1 => k_is)
    (case c1 => k_is)
    (case k1 => k_is)
    (case a2 => k_is)
    (case i2 => k_is)
    (case l2 => k_is)
    (case c2 => k_is)
    (case k2 => k_is)
    (case a3 => k_is)
    (case i3 => k_is)
    (case l3 => k_is)
    (case c3 => k_is)
    (case k3 => k_is)
    (case a4 => k_is)
    (case i4 => k_is)
    (case l4 => k_is)
    (case c4 => k_is)
    (case k4 => k_is)
    (case a5 => k_is)
    (case l5 => k_is)
    (case c5 => k_is)
    (case k5 => k_is)
    (case a6 => k_is)
    (case l6 => k_is)
    (case c6 => k_is)
    (case k6 => k_is)
    (case a7 => k_is)
    (case l7 => k_is)
    (case c7 => k_is)
    (case k7 => k_is)
    (case a8 => k_is)
    (case l8 => k_is)
    (case c8 => k_is)
    (case k8 => k_is)
    (case a9 => k_is)
    (case l9 => k_is)
    (case c9 => k_is)
    (case k9 => k_is)
    (case a10 => k_is)
    (case l10 => k_is)
    (case c10 => k_is)
    (case k10 => k_is)
    (case a11 => k_is)
    (case l11 => k_is)
    (case c11 => k_is)
    (case k11 => k_is)
    (case a12 => k_is)
    (case l12 => k_is)
    (case c12 => k_is)
    (case k12 => k_is)
    (case a13 => k_is)
    (case l13 => k_is)
    (case c13 => k_is)
    (case k13 => k_is)
    (case a14 => k_is)
    (case l14 => k_is)
    (case c14 => k_is)
    (case k14 => k_is)
    (case a15 => k_is)
    (case l15 => k_is)
    (case c15 => k_is)
    (case k15 => k_is)
    (case a16 => k_is)
    (case l16 => k_is)
    (case c16 => k_is)
    (case k16 => k_is)
    (case a17 => k_is)
    (case l17 => k_is)
    (case c17 => k_is)
    (case k17 => k_is)
    (case a18 => k_is)
    (case l18 => k_is)
    (case c18 => k_is)
    (case k18 => k_is)
    (case a19 => k_is)
    (case l19 => k_is)
    (case c19 => k_is)
    (case k19 => k_is)
    (case a20 => k_is)
    (case l20 => k_is)
    (case c20 => k_is)
    (case k20 => k_is)
    (case a21 => k_is)
    (case l21 => k_is)
    (case c21 => k_is)
    (case k21 => k_is)
    (case a22 => k_is)
    (case l22 => k_is)
    (case c22 => k_is)
    (case k22 => k_is)
    (case pg_Account => k_is)
    (case hd_Account => k_is)
    (case po_Account => k_is)
    (case sa_Account => k_is)
    (case mk_Account => k_is)
    (case kc_Account => k_is)
    (case na_Account_stacks => k_is)
    (case na_Account_black => k_is)
    (case na_Account_coloured => k_is)
    (case na_Account_fed_tags => k_is)
    (case am_Account_has_for => k_is)
    (case am_Account_add_ink => k_is)
    (case am_Account_allows => k_is)
    (case am_Account_enter => k_is)
    (case gLOAD => k_is)
    (case eLOAD => first | rfl | decide +kernel)
    (case gINK => k_is)
    (case eINK => first | rfl | decide +kernel)
    (case gFEED => k_is)
    (case eFEED => first | rfl | decide +kernel)
    (case gOUT => k_is)
    (case eOUT => first | rfl | decide +kernel)
    (case gLOST => k_is)
    (case eLOST => first | rfl | decide +kernel)
    (case z_len => k_is)
    (case z_range => k_is)
    (case z_enumerate => k_is)
    (case z_int => k_is)
    (case z_bool => k_is)
    (case z_list => k_is)
    (case z_isinstance => k_is)
    (case z_dict => k_is)
#print axioms PySem.Challenge.cw_spoolhall_k68_first_wrong_holds
